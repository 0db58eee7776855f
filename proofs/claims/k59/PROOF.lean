import PyProof.Rows.All
import Wide.All
import KE.KEqDeep
import Wide.FinOn
import Lean
import PyProof.EqAt
import PyProof.EqKinds
import PyProof.TupleCall
import PyProof.ZipIter
import PyProof.ConsumeS
import PyProof.StrCalls2
import PyProof.StrWalks
import PyProof.SliceStr2
import PyProof.StrBlock
import PyProof.StrBlockL
import PyProof.ListIndex
import PyProof.StrLawsTight
import PyProof.StrLawsChain
import PyProof.StrLaws
import PyProof.StrLawsFirst
import PyProof.StationsW
import PyProof.ExcClass3
import PyProof.NsDelKeeps
import PyProof.RulesAs
import PyProof.ExcBaseAll.ValueError
import PyProof.ExcArgsOwn
import PyProof.ExcAttrAll.ValueError
import KE.KTryMore
import KE.RegKTryMore
import KE.RegKIsAll
import PyProof.Rows.Range3
import PyProof.Rows.SumGenD
import PyProof.Rows.RuleM_int
import PyProof.EnumMake
import PyProof.EnumFor
import PyProof.EnumStmt
import PyProof.Rows.EnumRows
import KE.KRevIter
import PyProof.ListNew
import PyProof.CollectIter
import PyProof.ListRange
import PyProof.CallStr
import PyProof.StrBlock2
import PyProof.Rows.StrMadeLen
import PyProof.Rows.SetFrom
import PyProof.SetRoads
import PyProof.MeetsStr2
import KE.KRevSl
import PyProof.Conv_int
import PyProof.WalkInts
import PyProof.Rows.SeqMore
import PySem.Challenge.RW_cluemaker_k59_whole_none_can_go
set_option compiler.extract_closed false
set_option Elab.async false
set_option linter.all false
set_option maxRecDepth 100000
open PySem.W (Frag nsIn findIn fnOf isFn codeIn keepIn)
set_option maxHeartbeats 40000000
namespace O9
section
variable{A B C D E F I J:Type}{G a b c d e f g i:Prop}
theorem ex1{P:A->Prop}(h:∃a,P a)(k:∀a,P a->G):G:=h.elim k
theorem ex2{P:A->B->Prop}(h:∃a b,P a b)(k:∀a b,P a b->G):G:=h.elim fun a h=>ex1 h (k a)
theorem ex3{P:A->B->C->Prop}(h:∃a b c,P a b c)(k:∀a b c,P a b c->G):G:=h.elim fun a h=>ex2 h (k a)
theorem ex4{P:A->B->C->D->Prop}(h:∃a b c d,P a b c d)(k:∀a b c d,P a b c d->G):G:=h.elim fun a h=>ex3 h (k a)
theorem ex5{P:A->B->C->D->E->Prop}(h:∃a b c d e,P a b c d e)(k:∀a b c d e,P a b c d e->G):G:=h.elim fun a h=>ex4 h (k a)
theorem ex6{P:A->B->C->D->E->F->Prop}(h:∃a b c d e f,P a b c d e f)(k:∀a b c d e f,P a b c d e f->G):G:=h.elim fun a h=>ex5 h (k a)
theorem ex7{P:A->B->C->D->E->F->I->Prop}(h:∃a b c d e f g,P a b c d e f g)(k:∀a b c d e f g,P a b c d e f g->G):G:=h.elim fun a h=>ex6 h (k a)
theorem ex8{P:A->B->C->D->E->F->I->J->Prop}(h:∃a b c d e f g i,P a b c d e f g i)(k:∀a b c d e f g i,P a b c d e f g i->G):G:=h.elim fun a h=>ex7 h (k a)
theorem an2(h:a∧b)(k:a->b->G):G:=k h.1 h.2
theorem an3(h:a∧b∧c)(k:a->b->c->G):G:=an2 h.2 (k h.1)
theorem an4(h:a∧b∧c∧d)(k:a->b->c->d->G):G:=an3 h.2 (k h.1)
theorem an5(h:a∧b∧c∧d∧e)(k:a->b->c->d->e->G):G:=an4 h.2 (k h.1)
theorem an6(h:a∧b∧c∧d∧e∧f)(k:a->b->c->d->e->f->G):G:=an5 h.2 (k h.1)
theorem an7(h:a∧b∧c∧d∧e∧f∧g)(k:a->b->c->d->e->f->g->G):G:=an6 h.2 (k h.1)
theorem an8(h:a∧b∧c∧d∧e∧f∧g∧i)(k:a->b->c->d->e->f->g->i->G):G:=an7 h.2 (k h.1)
end
open Lean
abbrev PL:=Array (TSyntax ``Parser.Tactic.rcasesPatLo)
def ob(h:TSyntax `term)(ps:Array Syntax):MacroM Syntax:=do
 let n:=ps.size
 let mut xs:Array (TSyntax `ident):=#[]
 let mut q<-`(tactic|skip)
 for j in [0:n] do
  let r:=ps[n-1-j]![0]
  let p:=r[0][0]
  if p.isOfKind ``Parser.Tactic.rcasesPat.one&&p[0].getId != `rfl then xs:=xs.push ⟨p[0]⟩
  else if p.isOfKind ``Parser.Tactic.rcasesPat.ignore then xs:=xs.push (mkIdent `o0)
  else
   let v:=mkIdent (<-Macro.addMacroScope (.mkSimple s!"e{j}"))
   xs:=xs.push v
   q<-`(tactic|(obtain $(⟨r⟩):rcasesPatMed:=$v:ident;$q))
 xs:=xs.reverse
 let x:=mkIdent `o1
 let mut t<-`(tactic|rcases $h:term with⟨$((ps.map (⟨·⟩):PL)),*⟩)
 let m:=min (n-1) 8
 let mut al:=#[(0,min n 8)]
 for j in [0:m] do al:=al.push (1,m-j)
 for j in [0:min n 8-2] do al:=al.push (0,min n 8-1-j)
 for (s,k) in al.reverse do
  let l:=mkIdent (.mkStr2 "O9" ((if s=1 then "ex" else "an")++toString k))
  let k:=k+s
  let (ys,r)<-if k=n then pure (xs,q) else
   let zs:PL:=(xs.extract (k-1) n).map fun y=>⟨mkNode ``Parser.Tactic.rcasesPatLo #[mkNode ``Parser.Tactic.rcasesPatMed #[mkNullNode #[mkNode ``Parser.Tactic.rcasesPat.one #[y]]],mkNullNode]⟩
   pure ((xs.extract 0 (k-1)).push x,(<-`(tactic|(obtain⟨$zs,*⟩:=$x:ident;$q))))
  t<-`(tactic|first|(refine $l $h ?_;(try clear $h);intro $ys*;$r)|($t:tactic))
 return t
def rn(ps:Array Syntax):MacroM Syntax:=do
 let n:=ps.size-1
 let t:=ps[n]![0]
 unless t.isOfKind ``Parser.Tactic.rcasesPat.tuple do Macro.throwUnsupported
 let mut xs:Array Term:=#[]
 for j in [0:n] do
  let p:=ps[j]![0]
  if p.isOfKind ``Parser.Tactic.rcasesPat.one&&p[0].getId != `rfl then xs:=xs.push ⟨p[0]⟩
  else if p.isOfKind ``Parser.Tactic.rcasesPat.ignore then xs:=xs.push ⟨mkNode ``Parser.Term.hole #[mkAtom "_"]⟩
  else Macro.throwUnsupported
 let x:=mkIdent `o2
 xs:=xs.push x
 `(tactic|(intro $xs*;obtain $(⟨mkNode ``Parser.Tactic.rcasesPatMed #[mkNullNode #[t]]⟩):rcasesPatMed:=$x:ident))
def W9(p:Prop):=p
theorem w9{p9:Prop}(h9:p9):W9 p9=True:=eq_true h9
theorem w8{p9:Prop}(h9:W9 p9):p9:=h9
end O9
section
local macro_rules|`(by%$k $t)=>if k.getTrailing?.any (·.toString=="\n ") then `(by refine @O9.w8 _ ?_;simp (disch:=k_dflt (refine @id _ ?_;($t))) only[↓O9.w9]) else Lean.Macro.throwUnsupported
local macro_rules|`(tactic|obtain⟨$ps,*⟩:=$h:term)=>let p:=ps.getElems.map (·.raw);if p.size<2||p.any (fun q=>q[0][0].getNumArgs != 1||q[1].getNumArgs>0) then Lean.Macro.throwUnsupported else O9.ob h p
local macro_rules|`(tactic|rintro $ps*)=>O9.rn (ps.map (·.raw))
namespace O9
open Lean
abbrev DS:=StateT (List Char) MacroM
def nx:DS Char:=do
 let l<-get
 set l.tail
 return l.head?.getD ' '
def num:DS Nat:=do
 let k<-get
 let r:=k.takeWhile (·.isDigit)
 set (k.drop (r.length+1))
 return r.foldl (fun x d=>10*x+(d.toNat-48)) 0
def hd(tb:List String):DS (Term×Nat):=do
 let c<-nx
 let c<-if "~'{}_".toList.contains c then pure (toString c++toString (<-nx)) else pure (toString c)
 let e:=((tb.find? (·.startsWith c)).getD "").toList.drop c.length
 let n:=String.ofList e.dropLast
 let r:=String.ofList (e.dropLast.drop 1)
 let m:Term:=if n="_" then ⟨mkNode ``Parser.Term.hole #[mkAtom "_"]⟩ else if n.startsWith "." then ⟨mkNode ``Parser.Term.dotIdent #[mkAtom ".",mkIdent r.toName]⟩ else if n.startsWith "%" then quote r else mkIdent n.toName
 return (m,(e.getLast?.getD '0').toNat-48)
def cmp(c:Char):MacroM Term:=do
 let t<-if c='>' then `(fun i j=>decide (j<i)) else if c='<' then `(fun i j=>decide (i<j)) else if c='(' then `(fun i j=>decide (i<=j)) else `(fun i j=>decide (j<=i))
 `($(mkIdent `cCmp) $t)
def ixs:Nat->DS (Array Term)
|0=>return #[]
|n+1=>do
 let c<-nx
 if c=' ' then return #[]
 let x<-if c='-' then `(none) else `(some $(quote (c.toNat-48)))
 return #[x]++(<-ixs n)
def dec(v:Name)(ts:Array Term)(tb:List String):Nat->DS Term
|0=>return mkIdent v
|n+1=>do
 let c<-nx
 if c.isDigit then `($(mkIdent v) $(quote (c.toNat-48)))
 else if c='|' then
  let d<-nx
  `($(mkIdent v) $(quote (d.toNat-87)))
 else if c='#' then return quote (<-num)
 else if c='`' then return ts[(<-nx).toNat-48]!
 else if c='$' then
  let t<-dec v ts tb n
  `(fun cl s H fp=>$t)
 else if c='!' then `(by decide)
 else if c='=' then `([])
 else if c=',' then
  let a<-dec v ts tb n
  let b<-dec v ts tb n
  `($(mkIdent `tCall) $a [] $(mkIdent `E0) $b)
 else if c='%' then `(by decide +kernel)
 else if c='@' then
  let t<-dec v ts tb n
  `(show ($t : List $(mkIdent `Str)).Nodup by decide +kernel)
 else if c='&' then
  let a<-ixs 99
  `([$a,*])
 else if "<>()".toList.contains c then cmp c
 else if c='.' then
  let d<-nx
  let t<-dec v ts tb n
  return ⟨mkNode ``Parser.Term.namedArgument #[mkAtom "(",mkIdent (if d='x' then `ix else .mkSimple (toString d)),mkAtom ":=",t,mkAtom ")"]⟩
 else
  modify (c::·)
  let (h,k)<-hd tb
  if k=0 then return h
  let mut a:=#[]
  for _ in [0:k] do a:=a.push (<-dec v ts tb n).raw
  return ⟨mkNode ``Parser.Term.app #[h,mkNullNode a]⟩
def tbR:List String:="atCons2 bK0 ctNil0 dtOp3 etC1 f.int1 gtSeq2 hc0 igName1 jtRet1 kcIx0 ltAsg2 mtTest1 nd0 otIfS3 ptNext0 qtCB2 rcEq1 siList2 taA6 utLst1 vtComp5 wcAdd0 x.str1 ytx1 ztB1 AkLen0 Bfalse0 CtTrue0 DcNe1 Ec.ok0 Fd.ok0 GtBM5 H.bl1 ItFor3 JtFldK3 KcIn2 LcMod0 M%list0 NtAndV2 OtOr2 PtNot1 QtTup1 Rtrue0 SgCons2 TtDrop1 Udb0 VcSub0 WbT0 XcMul0 YkList0 ZkAll0 *tPart1 +cf2 -bv1 /%floor0 :.non0 ;tMake5 ?E00 [hX1 ]tSl4 ^lF0 ~atIf3 ~bbH1 ~csFldK4 ~dtAnd2 ~esComp6 ~fc.A1 ~gaW2 ~hgTup3 ~igNil0 ~j%place0 ~kd63 ~l%rules0 ~md73 ~nkStr0 ~ocDiv0 ~pgi0 ~qbZ1 ~rcW1 ~s%str0 ~tfR1 ~u%spots0 ~vgJ2 ~wdB1 ~x%sign0 ~yjR2 ~zjZ1 ~AfP1 ~B%clues0 ~CgL3 ~D%amount0 ~EtInG3 ~FkIsi0 ~G.ty1 ~HtOrV2 ~If71 ~Jfz0 ~Kf81 ~L%cells0 ~MgH0 ~NiTup2 ~O%signs_at0 ~Pgj2 ~QcD1 ~R%laws0 ~Sgk1 ~TfK1 ~U%number0 ~VjQ2 ~WkSum0 ~X%marked0 ~YjS2 ~Zgt_KINDS0 ~*%clued0 ~+lI3 ~-%words0 ~/%mark0 ~:rIsN0 ~;mC1 ~?kLenS1 ~[%int0 ~]tNotV1 ~^iX1 'a%given0 'bj41 'ckAny0 'd%holds0 'ecS2 'flE0 'giEnum2 'hcRepL0 'itGT2 'jfJ1 'knR1 'lox1 'mtm0 'nfX1 'owe1 'pd41 'qj72 'rje1 'sd.A1 't.Puzzle0 'uce3 'vHg4 'wre0 'xpT1 'ynS1 'zvX1 'AtUn2 'BDs2 'C%is_joined0 'Dj52 'EiZip2 'F%meets0 'GtN3 'HkC1 'IrNotN0 'JpY1 'Kik3 'LgC1 'Mjh3 'Njg1 'OgSub3 'PcPut0 'QgD3 'RnV3 'StT3 'ToA1 'UoC1 'ViStr1 'WoJ1 'Xgz0 'YmO1 'Z.Unlike0 '*.Sum0 '+.Rising0 '-.Seen0 '/.Count0 ':.Joined0 ';.NoSquare0 '?.Ring0 '[tq2 ']qB1 '^ii0 {agI0 {bgA2 {cyL0 {dj82 {erIxL1 {fcPow0 {gyS0 {h%bool0 {i%tuple0 {jqE1 {kjo1 {lmR2 {mjq1 {n%line0 {owf2 {p%lines0 {qxK3 {rcShr0 {srInS1 {t%name0 {uAK2 {vtIxG3 {wgd_RULES_OF_KIND0 {xtE1 {ygp2 {zlq2 {AiA1 {BfY2 {Cgq2 {DcOr0 {EfZ1 {FgN2 {GqK2 {Hjw1 {IuP2 {JmU1 {KgO2 {LiE2 {MiF2 {NoP1 {O%has_two_beside0 {Piw2 {Q%has_clues0 {RoR3 {SmE3 {ToS1 {UuC1 {VmY1 {WgP3 {Xjy1 {YkA3 {ZiH1 {*gR2 {+AX1 {-gS2 {/tz1 {:gu2 {;dQ1 {?gw2 {[uU1 {]gU2 {^gW2 }aiC2 }bjA2 }ckG2 }dju2 }elK2 }fkD2 }gkh1 }hkj2 }ijs2 }jkr2 }kko2 }ljf0 }mgx3 }ngB0 }oeJ3 }peh3 }qiJ2 }rnv2 }siK2 }tjD2 }um32 }vlS2 }wm92 }xlQ1 }ykJ1 }zm71 }AgX3 }BkL3 }CqR3 }DtG2 }EqT3 }FkP3 }Gfbin3 }HkN3 }IjE3 }JrIn2 }Kffin3 }LgY3 }Mthin3 }NkMax0 }OK91 }PgZ2 }QlV1 }RiL2 }SiM2 }TiO2 }UiP2 }ViQ2 }WiR2 }XlX2 }YmF2 }Zg72 }*mG2 }+oW1 }-tQ1 }/yc3 }:Ba1 };ni1 }?qW3 }[qX3 }]tRevL1 }^g91 _aHV3 _bhJ1 _cJV1 _dmH1 _eqN3 _fkR3 _ghV3 _hlf3 _inY3 _jnZ3 _ktU3 _ln93 _mk91 _np73 _op83 _pkY1 _qp93 _rkU2 _svc3".splitOn " "
def tbF:List String:="arfl0 bab2 cad0 dhu0 eaf1 fhr0 gae2 hah0 iai1 jkcal3 kak1 l_0 mnd0 nkix3 oao4 pkset3 qaw3 raq0 sOr.inl1 tar4 uav3 vay1 wau5 xax1 yaC4 zaI1 Aaz5 BaE8 CaG4 DBz.len_0 EaS1 FaN0 GaD0 HaM0 IaJ0 JaP0 Kbb1 LTd0 Mbq5 NbC6 Obj2 Pbc1 QbD2 RS30 SVa1 TbI0 UbV1 VcU2 WbU1 Xbh5 YcF0 Zcy1 *Or.inr1 +b30 -da1 /d20 :Bz.list_0 ;c60 ?b41 [aV5 ]Bz.range_0 ^Tq0 ~aTr0 ~bbY0 ~ccE5 ~dbp0 ~ec51 ~fBz.all_0 ~ggG0 ~hOR0 ~iOT0 ~jiV0 ~kbA2 ~ldU1 ~mcH0 ~ndW0 ~ofT3 ~pl95 ~qcq1 ~rgE1 ~sfU4 ~tnP0 ~ujP3 ~vcr0 ~wiT0 ~xO40 ~ymq2 ~zjK1 ~AOS0 ~BOY0 ~COV0 ~Dd03 ~EUh0 ~FUi0 ~GjO1 ~Hh90 ~IO30 ~JjN= ~KOZ0 ~LO80 ~MPc0 ~NO70 ~OOW0 ~PPi0 ~Qmw0 ~RBz.isinstance_0 ~Sgd0 ~Tra5 ~U.ty1 ~Vmr2 ~WjL0 ~XOX0 ~YyC2 ~ZgF0 ~*Bz.sorted_0 ~+my0 ~-O60 ~/Pe0 ~:lD0 ~;O90 ~?O10 ~[yE1 ~]Pd0 ~^Pa0 'aPp0 'bO50 'cPC0 'dPf0 'ePb0 'fy03 'gBz.int_0 'hDH0 'iDr1 'jAG3 'kBz.enumerate_0 'lVl0 'mVm0 'nsR0 'oBz.tuple_0 'pxv0 'qPj0 'rPg0 'sPk0 'tjV0 'uPl0 'vqz6 'wpD1 'xBz.sum_0 'yyO0 'zOU0 'AHF2 'BP70 'CDF0 'DuB1 'EBz.any_0 'FDG0 'GPo0 'HIM5 'IWD0 'JV40 'KV50 'LyN0 'MBp3 'NwK0 'OUC0 'PyT0 'QIZ3 'RBz.zip_0 'SG42 'TDv0 'UPP0 'VP60 'WPu0 'XBD6 'YBz.set_0 'ZDw0 '*Dt3 '+xw0 '-PQ0 '/Ph0 ':Pr0 ';QU0 '?PD0 '[PF0 ']Qv0 '^Ql0 {ayD2 {bIA3 {cLB1 {dPx0 {ePn0 {fPs0 {gPt0 {hQM0 {iPH0 {j%int0 {k%bool0 {lBz.bool_0 {mL10 {nL40 {oFI6 {pU30 {qU40 {rpG0 {sNp1 {tDg4 {uGp0 {vL00 {wIW1 {xBz.max_0 {yNk0 {zNE0 {ARN0 {BND4 {CPR0 {DQO0 {EQw0 {FQP0 {G%list0 {HRO0 {IPySem.F.slot_list_pop0 {JPySem.F.type_list_pop0 {KJk0 {LFY0 {MMO3 {NDT_KINDS0 {OMb1 {PQQ0 {QQR0 {RQS0 {SPy0 {TNq0 {URc0 {VRs0 {WK_Sum0 {XRr0 {YRQ0 {ZRB0 {*Rq0 {+Q50 {-RP0 {/Re0 {:Rf0 {;Q60 {?PU0 {[Rt0 {]Qz0 {^Rg0 }aQT0 }bMj3 }cP80 }dQA0 }e%tuple0 }fQ70 }gP90 }hQa0 }iPV0 }jQc0 }kQb0 }lPL0 }mPq0 }nRu0 }oQq0 }pQd0 }qQD0 }rQB0 }sQr0 }tQC0 }uRv0 }v%str0 }wBz.str_0 }xjX0 }yPySem.F.slot_str_split0 }zPySem.F.type_str_split0 }AI00 }BQt0 }CQV0 }DRh0 }EQ80 }FRS0 }GPM0 }HPN0 }IPX0 }JQe0 }KPw0 }LQX0 }MPZ0 }NQu0 }OQf0 }PPJ0 }QP00 }RQg0 }SP30 }TQF0 }UP10 }VQG0 }WPK0 }XQh0 }YPz0 }ZPB0 }*Qi0 }+Ri0 }-Qj0 }/RD0 }:Qk0 };Ra0 }?Gn0 }[pB0 }]Qm0 }^P40 _aRE0 _bRT0 _cQn0 _dQH0".splitOn " "
def run(s:String)(ts:Array Term):MacroM Term:=do
 let l:=s.toList
 let r:=l.head?==some ':'
 unless (r||(l.head?==some ';')) do Macro.throwUnsupported
 let (t,_)<-(dec (if r then `tVar else `pv) ts (if r then tbR else tbF) 500).run l.tail
 let h:=mkIdent `hr;let u:=mkIdent `hu;let n:=mkIdent `nd;if r then `(by exact $t) else `(fun $h $u $n=>by exact $t)
end O9
local macro_rules|`(tactic|ac_nf)=>`(tactic|dsimp only[$(Lean.mkIdent `L2.start):ident,List.map,List.length_cons,List.length_nil,Nat.reduceAdd,Nat.reduceSub,List.replicate_succ,List.replicate_zero,List.cons_append,List.nil_append])
local macro_rules|`(↑$x)=>`(some (.ref $x))
local macro_rules|`(⇑$x)=>`(some (.int $x))
local macro_rules|`(↥$x)=>`(some (.lst $x))
local macro_rules|`(∅)=>`(List Int)
local macro_rules|`(#[$ts,*])=>let a:=ts.getElems;match a[0]? with|none=>Lean.Macro.throwUnsupported|some e=>match e.raw.isStrLit? with|some s=>O9.run s (a.extract 1 a.size)|none=>match e.raw.isNatLit? with|some 0=>`(by omega)|some 4=>`(by lia)|some 1=>`(by decide)|some 3=>let i:=Lean.mkIdent;`(fun $(i `vs) $(i `H) $(i `Q) _=>$(a[1]!))|_=>Lean.Macro.throwUnsupported
local macro_rules|`(tactic|exists $t)=>if t.raw.isIdent then `(tactic|(ac_nf;unfold $(⟨t.raw⟩):ident;symm)) else `(tactic|(symm;refine $t))
local macro_rules|`(tactic|lia)=>`(tactic|first|lia-verbose|omega)
local macro_rules|`(s!$x)=>do
 let some s:=x.raw[0].isInterpolatedStrLit?|Lean.Macro.throwUnsupported
 `([$((s.toList.map fun c=>Lean.Syntax.mkNumLit (toString c.toNat)).toArray),*])
open List renaming length_map→Sx,getElem?_eq_getElem→Sy,getElem?_eq_some_iff→SD,mem_of_getElem?→SH,getElem?_map→SI,mem_filter→SJ,all_eq_true→SK,mem_map→SL,mem_cons_of_mem→SM,mem_cons_self→SN,mem_singleton→SO,mem_range→SQ,mem_cons→SU,length_filter_le→SV,mem_append→SX,getElem?_eq_none→S0,length_cons→S2,map_cons→S6,size_toArray→S8,getElem_mem→S9,length_append→Ta,map_map→Te,foldl_cons→Ti,take_of_length_le→Tj,filter_cons→Tk,getElem?_append_left→Tn,getElem?_append_right→Tp,mem_append_right→Tu,not_mem_nil→Tw,length_take→Tx,getElem?_range→Tz,take_length→TH,append_assoc→TJ,eq_nil_of_length_eq_zero→TQ,lookup_cons→TR,range_succ→TU,map_append→TV,length_range→TW,foldl_append→TX,mem_append_left→TZ,countP_eq_length_filter→T2,ext_getElem?→T5,take_add_one→T6,sum_cons→Ua,set_set→Uc,map_id'→Ud,take_append_drop→Ue,any_eq_true→Ug,nodup_append→Uk,findIdx_lt_length_of_exists→Um,drop_eq_getElem_cons→Up,mem_flatMap→Uq,all_map→Ur,mem_iff_getElem→Us,filter_cons_of_pos→Uv,filter_map→Ux,replicate_succ→Uy,mem_of_find?_eq_some→UF,find?_cons→UI,filter_eq_self→UN,length_drop→UP,nodup_nil→UT,length_eq_zero_iff→UU,filter_cons_of_neg→UV,any_cons→UZ,map_take→U0,length_replicate→U1,flatten_cons→U6,take_succ→U9,ext_getElem→Vb,map_congr_left→Vf,flatMap_append→Vg,getElem_of_mem→Vh,set_comm→Vi,map_drop→Vj,append_nil→Vn,getElem?_replicate→Vq,any_eq_false→Vt,length_pos_of_mem→Vu,findIdx_cons→Vv,countP_mono_left→Vy,nodup_range→VD,find?_eq_some_iff_getElem→VE,drop_length→VG,all_cons→VI,mem_of_mem_take→VM,findIdx_getElem→VN,mem_of_mem_drop→VO,nil_append→VQ,length_set→VT,filterMap_cons→VV,filter_sublist→VX,mergeSort_perm→V0,length_pos_iff→V1,pairwise_cons→Wa,map_replicate→Wc,mem_replicate→We,find?_eq_none→Wf,filter_filter→Wg,mem_or_eq_of_mem_set→Wj,flatMap_cons→Wm,filter_congr→Wo,pairwise_map→Wp,getElem?_set_self→Wv,not_of_lt_findIdx→WB,drop_eq_nil_of_le→WC,of_mem_zip→WE,find?_some→WH,length_singleton→WI,any_map→WU
open Bool renaming and_eq_true→SA,false_ne_true→SR,false_and→S1,true_and→S7,eq_iff_iff→Tb,not_eq_true'→Tg,or_eq_true→TD,false_eq_true→TM,false_or→TY,not_false→UD,not_true→UL,true_or→UY,not_eq_true→VH,and_self→VJ,or_true→WX
open Nat renaming le_trans→SW,le_refl→SZ,lt_of_lt_of_le→Tl,le_of_lt→Tv,ne_of_lt→TB,zero_le→TF,le_of_ble_eq_true→TN,lt_of_le_of_lt→T7,lt_irrefl→Uj,lt_succ_of_lt→Uu,mul_le_mul_right→U7,lt_or_ge→Vc,add_le_add_left→Ve,lt_succ_self→Vz,le_add_right→VC,min_eq_right→VF,le_succ→VL,min_eq_left→VU,ne_of_gt→V2,succ_mul→V3,mul_le_mul→Wb,le_mul_of_pos_right→Wu,add_comm→WS
open Int renaming toNat_natCast→TC,emod_lt_of_pos→T8,mul_nonneg→Ul,emod_nonneg→Uo,zero_add→UB,eq_ofNat_of_zero_le→US,mul_le_mul_of_nonneg_left→UW,ediv_emod_unique→U8,toNat_of_nonneg→VZ,fdiv_eq_ediv_of_nonneg→V7,le_refl→Wn,natCast_mul→WG,mul_ediv_add_emod→WJ,ne_of_gt→WT,le_trans→WW
open Option renaming map_eq_some_iff→Ub,isSome_map→Wk
open Array renaming getElem?_eq_getElem→UE,length_toList→UM,getElem?_toList→Vw
namespace L2
open PySem PySem.Spec PyProof.Rows
abbrev Sz:=@decide_eq_true_eq
abbrev SB:=@decide_eq_true
abbrev SE:=@decide_eq_false
abbrev SG:=@of_decide_eq_true
abbrev SS:=@if_neg
abbrev SY:=@if_pos
abbrev S3:=@PySem.F.plainAttrs_list
abbrev S5:=@Heap.get?_push_of_some
abbrev Tc:=@Heap.lt_size
abbrev Td:=@PassesOwn.never
abbrev Tf:=@decide_eq_false_iff_not
abbrev Tm:=@List.filter_append
abbrev To:=@wpAny_bind
abbrev Tq:=@PySem.F.slot_list_append
abbrev Tr:=@PySem.F.type_list_append
abbrev Ts:=@Heap.get?_push_size
abbrev Tt:=@PyProof.Rows.callWith_type1
abbrev Ty:=@List.nodup_cons
abbrev TL:=@wpAny_pure
abbrev T3:=@PySem.mem_of_lookup
abbrev T4:=@wpAny_mono
abbrev T9:=@PySem.W.kia_one
abbrev Uf:=@wpAny_Call_Name_kw
abbrev Uh:=@PySem.F.slot_list_index
abbrev Ui:=@PySem.F.type_list_index
abbrev Ut:=@wpAny_truthy_bool
abbrev Uw:=@Option.some.inj
abbrev Uz:=@or_false
abbrev UA:=@if_true
abbrev UC:=@PySem.F.plainAttrs_str
abbrev UG:=@Classical.byContradiction
abbrev UH:=@wpAny_passesOwn
abbrev UJ:=@beq_iff_eq
abbrev UK:=@call_meets
abbrev UO:=@Heap.size_push
abbrev UQ:=@if_false
abbrev UR:=@wpAny_getItem_str_slice
abbrev UX:=@Calls.spliced_cons
abbrev U3:=@PySem.F.slot_str_join
abbrev U4:=@PySem.F.type_str_join
abbrev U5:=@Calls.spliced_nil
abbrev Vd:=@beq_eq_false_iff_ne
abbrev Vl:=@PySem.F.slot_list_extend
abbrev Vm:=@PySem.F.type_list_extend
abbrev Vo:=@tupleKind_room_in1
abbrev Vp:=@decide_eq_true_iff
abbrev Vr:=@Ne.symm
abbrev Vs:=@wpAny_pyIter_list
abbrev Vx:=@builtinLookup_eq_fast
abbrev VA:=@PyProof.Rows.callWith_builtin1
abbrev VB:=@typeIs_str
abbrev VP:=@wpAny_execs_nil
abbrev VR:=@pushCells_keeps
abbrev VS:=@post_val_or_str
abbrev VW:=@PySem.W.plainGet_of
abbrev VY:=@ne_true_of_eq_false
abbrev V4:=@PySem.F.slot_int_bit_length
abbrev V5:=@PySem.F.type_int_bit_length
abbrev V6:=@Calls.Name_function_global
abbrev V8:=@PySem.W.callWith_K
abbrev V9:=@F.args_str_split_2
abbrev Wh:=@PySem.F.slot_dict_getitem
abbrev Wi:=@Decidable.byContradiction
abbrev Wl:=@F.entry_str_split
abbrev Wq:=@wpAny_holding
abbrev Wr:=@wpAny_getItem_list_slice
abbrev Ws:=@wpAny_comprehension_free
abbrev Wt:=@F.slot_str_split
abbrev Ww:=@PySem.W.cellsFrom_some
abbrev Wx:=@subscriptTail_builtinR
abbrev Wz:=@Calls.callWith_builtin
abbrev WA:=@Txt.slice_le
abbrev WD:=@PySem.F.plainAttrs_int
abbrev WF:=@typeLookup_type
abbrev WK:=@PySem.W.methodCall_KW
abbrev WL:=@Paired.length
abbrev WM:=@wpAny_standAt
abbrev WN:=@boot_range
abbrev WQ:=@codeAny_mono
abbrev WR:=@tail_any
abbrev WV:=@decide_false
abbrev Key:=Sum Int Str
def keyIs:Key->Value->Bool
 | .inl k,v=>Value.isInt k v
 | .inr x,v=>Value.isStrOf x v
def keyH(w:World):Key->Int
 | .inl k=>hashInt k
 | .inr x=>hashStr w x
theorem cT:∀{k:Key} {v:Value},keyIs k v=true->(∃ i t,k=Sum.inl i/\v=Value.int i t)\/(∃ x t,k=Sum.inr x/\v=Value.str x t)
 | .inl i,v,h=>by
  obtain⟨t,e⟩:=Value.isInt_shape (k:=i) (v:=v) h;exact .inl ⟨i,t,rfl,e⟩
 | .inr x,v,h=>by
  obtain⟨t,e⟩:=Value.isStrOf_shape (x:=x) (v:=v) h;exact .inr ⟨x,t,rfl,e⟩
theorem Ix(i:Int)(t:Tok):keyIs (.inl i) (.int i t)=true:=by simp[keyIs,Value.isInt]
theorem Iy(x:Str)(t:Tok):keyIs (.inr x) (.str x t)=true:=by simp[keyIs,Value.isStrOf]
theorem MT(a b:Int):decide ((Sum.inl a:Key)=Sum.inl b)=(a==b):=by
 by_cases e:a=b
 . subst e;simp
 . have h:¬ (Sum.inl a:Key)=Sum.inl b:=λq=>e (Sum.inl.inj q);rw[SE h];exact(Vd.mpr e).symm
theorem MU(a b:Str):decide ((Sum.inr a:Key)=Sum.inr b)=decide (a=b):=by
 by_cases e:a=b
 . subst e;simp
 . have h:¬ (Sum.inr a:Key)=Sum.inr b:=λq=>e (Sum.inr.inj q);rw[SE h,SE e]
def MV(a:Int)(b:Str):decide ((Sum.inl a:Key)=Sum.inr b)=false:=SE (λq=>nomatch q)
def MW(a:Str)(b:Int):decide ((Sum.inr a:Key)=Sum.inl b)=false:=SE (λq=>nomatch q)
def dC(prog:Program)(w:World):PySem.KeyKind prog w Key where
 is:=keyIs
 hash:=keyH w
 inj:=λv a b g d=>by
  rcases cT g with ⟨i,t,rfl,rfl⟩ | ⟨x,t,rfl,rfl⟩
  . rcases cT d with ⟨j,u,rfl,e⟩ | ⟨y,u,rfl,e⟩
    . injection e with e1 _;rw[e1]
    . exact nomatch e
  . rcases cT d with ⟨j,u,rfl,e⟩ | ⟨y,u,rfl,e⟩
    . exact nomatch e
    . injection e with e1 _;rw[e1]
 byValue:=λk v h=>by
  rcases cT h with ⟨i,t,rfl,rfl⟩ | ⟨x,t,rfl,rfl⟩ <;> rfl
 pyHash:=λc h=>by
  rcases cT c with ⟨i,t,rfl,rfl⟩ | ⟨x,t,rfl,rfl⟩
  . exact wpAny_pyHash_int h
  . exact wpAny_pyHash_str h
 eqBool:=λf c h=>by
  rcases cT f with ⟨i,t,rfl,rfl⟩ | ⟨x,t,rfl,rfl⟩
  . rcases cT c with ⟨j,u,rfl,rfl⟩ | ⟨y,u,rfl,rfl⟩
    . rw[MT]at h;exact wpAny_eqBool_int h
    . rw[MV]at h;exact SeqAt.EqAt.int_str i t y u _ _ _ _ h
  . rcases cT c with ⟨j,u,rfl,rfl⟩ | ⟨y,u,rfl,rfl⟩
    . rw[MW]at h;exact SeqAt.EqAt.str_int x t j u _ _ _ _ h
    . rw[MU]at h;exact wpAny_eqBool_str h
 «strs»:=λk x t v h=>by
  rcases cT h with ⟨i,u,rfl,e⟩ | ⟨y,u,rfl,e⟩
  . exact nomatch e
  . injection e with e1 _;subst e1;cases v <;> rfl
def FD(prog:Program)(w:World)(i:Int)(t:Tok):(dC prog w).is (.inl i) (.int i t)=true:=Ix i t
def FE(prog:Program)(w:World)(x:Str)(t:Tok):(dC prog w).is (.inr x) (.str x t)=true:=Iy x t
inductive V where
 | non | bl (b:Bool) | int (i:Int) | str (x:Str) | byt (b:Array UInt8) | flt (b:UInt64) | ref (a:Addr) | ty (n:String)
 deriving DecidableEq
def RelV:V->Value->Prop
 | .non,u=>u=Value.none
 | .bl b,u=>u=Value.bool b
 | .int i,u=>∃ t,u=Value.int i t
 | .str x,u=>∃ t,u=Value.str x t
 | .byt b,u=>∃ t,u=Value.bytes b t
 | .flt b,u=>∃ t,u=Value.float b t
 | .ref a,u=>u=Value.ref a
 | .ty n,u=>u=Value.type n
abbrev Vals:List V->List Value->Prop:=Paired RelV
def Vals.length{xs:List V}{us:List Value}(r:Vals xs us):xs.length=us.length:=WL r
theorem Vals.get:∀{xs:List V} {us:List Value} {i:Nat} {x:V},Vals xs us->xs[i]? =some x->∃ u,us[i]? =some u/\RelV x u
 | _,_,_,_,.nil,e=>by simp at e
 | _,_,0,_,.cons r _,e=>by simp at e;subst e;exact⟨_,rfl,r⟩
 | _,_,i+1,x,.cons _ t,e=>by
  obtain⟨u,h1,h2⟩:=Vals.get (i:=i) (x:=x) t (by simpa using e);exact⟨u,by simpa using h1,h2⟩
theorem Vals.append:∀{xs ys:List V} {us a:List Value},Vals xs us->Vals ys a->Vals (xs++ys) (us++a)
 | _,_,_,_,.nil,s=>s
 | _,_,_,_,.cons r t,s=>.cons r (Vals.append t s)
theorem Vals.take:∀{xs:List V} {us:List Value} (n:Nat),Vals xs us->Vals (xs.take n) (us.take n)
 | _,_,0,_=>.nil
 | _,_,_+1,.nil=>.nil
 | _,_,n+1,.cons r t=>.cons r (Vals.take n t)
theorem Vals.drop:∀{xs:List V} {us:List Value} (n:Nat),Vals xs us->Vals (xs.drop n) (us.drop n)
 | _,_,0,r=>r
 | _,_,_+1,.nil=>.nil
 | _,_,n+1,.cons _ t=>Vals.drop n t
def RelO:Option V->Option Value->Prop
 | some v,some u=>RelV v u
 | none,none=>True
 | _,_=>False
def KV{κ:Type}:List (κ × V)->List (κ × Value)->Prop:=Paired λ(p:κ × V) (q:κ × Value)=>p.1=q.1/\RelV p.2 q.2
def kV:Key->V
 | .inl i=>.int i
 | .inr x=>.str x
inductive HO where
  | lst (xs:List V)
  | tup (xs:List V)
  | dK (Sn:List (Key × V)) | dT (Sn:List (List Key × V))
  | set (S:Int->Bool) (n:Nat)
  | ins (C dx:Addr) (fs:List (Str × V))
  | own (x:Addr)
  | xd (fs:List (Str × V))
  | met (f x:Addr)
  | rng (lo hi:Int)
  | frz (o:Obj) (u:HO)
  | tbl (ps:Array Value)
  | ext (φ:Heap->Prop)
abbrev Hp:=Addr->Option HO
def upd(H:Hp)(a:Addr)(o:HO):Hp:=λb=>if b=a then some o else H b
variable{H:Hp}{a:Addr}{o:HO}
theorem aj:upd H a o a=some o:=by unfold upd;rw[SY rfl]
variable{b:Addr}
theorem ap(h:b≠a):upd H a o b=H b:=by unfold upd;rw[SS h]
theorem Ol{u:HO}(h:H a=some o)(h':H b=some u)(d:o≠u):a≠b:=by
 intro e;subst e;rw[h]at h';exact d (Uw h')
theorem aB(h:H a=some o)(h':H b=none):a≠b:=by
 intro e;subst e;rw[h]at h';cases h'
section
variable(P:Program)(w:World)
def ObjOk(H:Hp)(h:Heap)(a:Addr):HO->Prop
 | .lst xs=>xs.length<=sizeLine/\∃(So:List Value) (n:Nat),Vals xs So/\h.get? a=some {cls:=.type "list",data:=.seq So.toArray n}
 | .tup xs=>xs.length<=sizeLine/\∃ So:List Value,Vals xs So/\IsTup h a So.toArray
 | .dK c=>c.length<=sizeLine/\(a==sysModules)=false/\∃ vs,KV c vs/\h.DictOf (dC P w) a vs
 | .dT c=>c.length<=sizeLine/\(a==sysModules)=false/\∃ xs:List (List Key × Addr × Value),
   Paired (λ(p:List Key × V) (q:List Key × Addr × Value)=>p.1=q.1/\H q.2.1=some (.tup (p.1.map kV))/\RelV p.2 q.2.2) c xs/\
   ∃ o e j,h.get? a=some o/\o.ExactDict/\o.data=.dict e j/\e.toList=xs.map (entryOfKey (tupleKind (dC P w)))/\(xs.map (·.1)).Nodup
 | .set S n=>h.SetOf (intKind P w) a S n
 | .ins C d fs=>H d=some (.own a)/\fs.length<=1000/\d≠a/\h.get? a=some (PySem.W.instObj C d)/\
   ∃ b,h.Ns1 d b/\(∀ f,RelO (fs.lookup f) (b f))/\PySem.Within b (fs.map (·.1))
 | .own _=>∃ o,h.get? a=some o
 | .xd fs=>∃ b,h.Ns1 a b/\∀ f,RelO (fs.lookup f) (b f)
 | .rng g k=>∃ t u v,h.get? a=some {cls:=.type "range",data:=.fields #[.int g t,.int k u,.int 1 v]}
 | .frz o u=>h.get? a=some o/\ObjOk H h a u
 | .tbl i=>h.get? a=some {cls:=.none,data:=.fields i}
 | .met f x=>h.get? a=some (PySem.W.methodObj (.ref f) (.ref x))
 | .ext φ=>φ h/\(∃ o,h.get? a=some o)/\∀ h1 h2:Heap,φ h1->(∀ o,h1.get? a=some o->h2.get? a=some o)->φ h2
def HOk(H:Hp)(h:Heap):Prop:=∀ a o,H a=some o->ObjOk P w H h a o
end
section
variable{P:Program}{w:World}{H H':Hp}{h h':Heap}{a:Addr}{o:HO}
theorem ObjOk.lt(x:ObjOk P w H h a o):a<h.objs.size:=by
 cases o with
 | lst d=>obtain⟨_,_,_,_,e⟩:=x;exact Tc e
 | tup d=>obtain⟨_,_,_,p⟩:=x;exact p.lt
 | dK c=>obtain⟨_,_,_,_,o,_,_,e,_⟩:=x;exact Tc e
 | dT c=>obtain⟨_,_,_,_,o,_,_,e,_⟩:=x;exact Tc e
 | set S n=>obtain⟨o,_,_,_,e,_⟩:=x;exact Tc e
 | ins C j b=>obtain⟨_,_,_,e,_⟩:=x;exact Tc e
 | own y=>obtain⟨_,e⟩:=x;exact Tc e
 | xd b=>obtain⟨_,⟨_,_,_,e,_⟩,_⟩:=x;exact Tc e
 | rng g l=>obtain⟨_,_,_,e⟩:=x;exact Tc e
 | frz k u=>obtain⟨e,_⟩:=x;exact Tc e
 | tbl i=>exact Tc (show h.get? a=some _ from x)
 | met f y=>exact Tc (show h.get? a=some _ from x)
 | ext φ=>obtain⟨_,⟨_,e⟩,_⟩:=x;exact Tc e
theorem Paired.mapP{α β:Type}{F G:α->β->Prop}:∀{c:List α} {d:List β},Paired F c d->(∀ a b,F a b->G a b)->Paired G c d
 | _,_,.nil,_=>.nil
 | _,_,.cons r t,f=>.cons (f _ _ r) (Paired.mapP t f)
theorem ObjOk.stay (x:ObjOk P w H h a o) (k:∀ b u,(b=a\/H b=some (.own a))->h.get? b=some u->h'.get? b=some u)
  (E:∀ b,H b=some (.own a)->H' b=some (.own a)) (G:∀ b xs,H b=some (.tup xs)->H' b=some (.tup xs)):ObjOk P w H' h' a o:=by
 induction o with
 | lst xs=>obtain⟨z,l,n,r,e⟩:=x;exact⟨z,l,n,r,k _ _ (.inl rfl) e⟩
 | tup xs=>obtain⟨z,l,r,g,e,c⟩:=x;exact⟨z,l,r,g,k _ _ (.inl rfl) e,c⟩
 | dK J=>obtain⟨z,y,vs,r,g,i,j,e,c⟩:=x;exact⟨z,y,vs,r,g,i,j,k _ _ (.inl rfl) e,c⟩
 | dT J=>
  obtain⟨z,y,xs,r,g,i,j,e,c⟩:=x;exact⟨z,y,xs,Paired.mapP r λp q z=>⟨z.1,G _ _ z.2.1,z.2.2⟩,g,i,j,k _ _ (.inl rfl) e,c⟩
 | set S n=>obtain⟨g,i,j,t,e,c⟩:=x;exact⟨g,i,j,t,k _ _ (.inl rfl) e,c⟩
 | ins C L D=>
  obtain⟨d,z,I,e,m,⟨s,i,j,e2,c⟩,r⟩:=x;exact⟨E _ d,z,I,k _ _ (.inl rfl) e,m,⟨s,i,j,k _ _ (.inr d) e2,c⟩,r⟩
 | own y=>obtain⟨g,e⟩:=x;exact⟨g,k _ _ (.inl rfl) e⟩
 | xd D=>obtain⟨m,⟨s,i,j,e,c⟩,r⟩:=x;exact⟨m,⟨s,i,j,k _ _ (.inl rfl) e,c⟩,r⟩
 | rng K M=>obtain⟨t,u,v,e⟩:=x;exact⟨t,u,v,k _ _ (.inl rfl) e⟩
 | frz g u F=>obtain⟨e,q⟩:=x;exact⟨k _ _ (.inl rfl) e,F q⟩
 | tbl A=>
  have e:h.get? a=some {cls:=.none,data:=.fields A}:=x;show h'.get? a=some {cls:=.none,data:=.fields A};exact k a _ (.inl rfl) e
 | met f y=>
  have e:h.get? a=some (PySem.W.methodObj (.ref f) (.ref y)):=x;show h'.get? a=some (PySem.W.methodObj (.ref f) (.ref y));exact k a _ (.inl rfl) e
 | ext φ=>obtain⟨p,⟨o,e⟩,B⟩:=x;exact⟨B _ _ p λo q=>k _ _ (.inl rfl) q,⟨o,k _ _ (.inl rfl) e⟩,B⟩
def HOk.lt(x:HOk P w H h)(e:H a=some o):a<h.objs.size:=(x a o e).lt
theorem HOk.fresh(x:HOk P w H h)(e:h.objs.size<=a):H a=none:=by
 cases q:H a with
 | none=>rfl
 | some u=>exact absurd (Tl (x.lt q) e) (Uj _)
def HOk.kept(x:HOk P w H h)(k:∀ b u,h.get? b=some u->h'.get? b=some u):HOk P w H h':=λa o e=>
 (x a o e).stay (λb u _ q=>k b u q) (λ_ q=>q) λ_ _ q=>q
def HOk.laid(x:HOk P w H h)(k:∀ b u,h.get? b=some u->h'.get? b=some u)(i:h.objs.size<=a)(d:ObjOk P w (upd H a o) h' a o):HOk P w (upd H a o) h':=λb u e=>by
 have g:=x.fresh i;by_cases f:b=a
 . subst f;rw[aj]at e;cases e;exact d
 . rw[ap f]at e;exact(x b u e).stay (λc v _ q=>k c v q) (λc q=>by rw[ap (aB q g)];exact q) λc j q=>by rw[ap (aB q g)];exact q
end
def Rd(H:Hp)(a:Addr)(u:HO):Prop:=H a=some u\/∃ o,H a=some (.frz o u)
variable{h:Heap}
theorem Rd.ok{P:Program}{w:World}{u:HO}(r:Rd H a u)(x:HOk P w H h):ObjOk P w H h a u:=by
 rcases r with r | ⟨o,r⟩
 . exact x a u r
 . obtain⟨_,q⟩:=x a _ r;exact q
def Mut:Option HO->Prop
 | ↥_=>True
 | some (.dK _)=>True
 | some (.dT _)=>True
 | some (.set _ _)=>True
 | some (.ins _ _ _)=>True
 | some (.ext _)=>True
 | _=>False
section
variable{P:Program}{w:World}{H:Hp}{h h':Heap}{x e:Addr}{o':HO}
def HOk.write (t:HOk P w H h) (j:Mut (H x)) (o:e=x\/H e=some (.own x)) (k:∀ b u,b≠e->h.get? b=some u->h'.get? b=some u) (m:∃ u,h'.get? e=some u)
  (n:ObjOk P w (upd H x o') h' x o'):HOk P w (upd H x o') h':=λb u q=>by
 have d:∀ c y,H c=some (.own y)->c≠x:=λc y r z=>by subst z;rw[r]at j;exact j
 have f:∀ c g,H c=some (.tup g)->c≠x:=λc g r z=>by subst z;rw[r]at j;exact j
 by_cases i:b=x
 . subst i;rw[aj]at q;cases q;exact n
 . rw[ap i]at q;by_cases a:b=e
   . have p:H b=some (.own x):=by
      rcases o with z | z
      . exact absurd (a.trans z) i
      . rw[a];exact z
     rw[q]at p;cases p;obtain⟨v,s⟩:=m;exact⟨v,by rw[a];exact s⟩
   . refine(t b u q).stay (λc v l r=>k c v ?_ r) (λc r=>by rw[ap (d c b r)];exact r) λc g r=>by rw[ap (f c g r)];exact r
     rcases l with rfl | l
     . exact a
     . rintro rfl;rcases o with z | z
       . exact d c b l z
       . rw[l]at z;cases z;exact i rfl
end
structure Un(fs ex:List Addr)(H H':Hp)(h h':Heap):Prop where
 keep:∀ b o,h.get? b=some o->H b=none->b∉fs->b∉ex->h'.get? b=some o
 slot:∀ b o,h.get? b=some o->H b=none->b∈fs->b∉ex->∃ sl,h'.get? b=some {o with slots:=sl}
 free:∀ b o,h.get? b=some o->H b=none->b∉ex->H' b=none
 there:∀ b o,h.get? b=some o->b∉ex->∃ o',h'.get? b=some o'
 tups:∀ b xs,H b=some (.tup xs)->H' b=some (.tup xs)
 frzs:∀ b o u,H b=some (.frz o u)->H' b=some (.frz o u)
 tbls:∀ b ps,H b=some (.tbl ps)->∃ more,H' b=some (.tbl (ps++more))
section
variable{fs fs' ex ex':List Addr}{H H1 H2:Hp}{h h1 h2 h':Heap}{a x e:Addr}{o:HO}
theorem Un.any(u:Un fs ex H H1 h h1){b:Addr}{a:Obj}(q:h.get? b=some a)(n:H b=none)(c:b∉ex):∃ e,h1.get? b=some {a with slots:=e}:=by
 by_cases d:b∈fs
 . exact u.slot b a q n d c
 . exact⟨a.slots,u.keep b a q n d c⟩
def Un.kept(k:∀ b u,h.get? b=some u->h'.get? b=some u):Un fs ex H H h h':=
 ⟨λb a q _ _ _=>k b a q,λb a q _ _ _=>⟨a.slots,k b a q⟩,λ_ _ _ n _=>n,λb a q _=>⟨a,k b a q⟩,λ_ _ q=>q,λ_ _ _ q=>q,λ_ c q=>⟨#[],by rw[q];simp⟩⟩
def Un.refl:Un fs ex H H h h:=Un.kept λ_ _ q=>q
def Un.laid(k:∀ b u,h.get? b=some u->h'.get? b=some u)(e:h.objs.size<=a)(c:H a=none):Un fs ex H (upd H a o) h h' where
 keep:=λb u q _ _ _=>k b u q
 slot:=λb u q _ _ _=>⟨u.slots,k b u q⟩
 free:=λb u q n _=>by rw[ap (TB (Tl (Tc q) e))];exact n
 there:=λb u q _=>⟨u,k b u q⟩
 tups:=λb d q=>by rw[ap (aB q c)];exact q
 frzs:=λb u d q=>by rw[ap (aB q c)];exact q
 tbls:=λb f q=>⟨#[],by rw[ap (aB q c),q];simp⟩
theorem Un.write(c:Mut (H x))(m:e=x\/H e=some (.own x))(k:∀ b u,b≠e->h.get? b=some u->h'.get? b=some u)(d:∃ u,h'.get? e=some u):Un fs ex H (upd H x o) h h':=by
 have i:∀ b,H b=none->b≠x:=λb n z=>by subst z;rw[n]at c;exact c
 have g:∀ b,H b=none->b≠e:=λb n z=>by
  subst z;rcases m with r | r
  . exact i b n r
  . rw[n]at r;cases r
 have f:∀ b u,H b=some u->¬ Mut (some u)->b≠x:=λb u q j z=>by subst z;rw[q]at c;exact j c
 refine⟨λb u q n _ _=>k b u (g b n) q,λb u q n _ _=>⟨u.slots,k b u (g b n) q⟩,λb u q n _=>by rw[ap (i b n)];exact n,λb u q _=>?_,
  λb l q=>by rw[ap (f b _ q λz=>z)];exact q,λb u l q=>by rw[ap (f b _ q λz=>z)];exact q,λb p q=>⟨#[],by rw[ap (f b _ q λz=>z),q];simp⟩⟩
 by_cases a:b=e
 . subst a;exact d
 . exact⟨u,k b u a q⟩
end
def trk(h:Heap)(H:Hp):List Addr:=(List.range h.objs.size).filter λa=>(H a).isSome
def hidT(h:Heap)(H:Hp):Heap:=PySem.W.hideAll h (trk h H)
def Iz(h:Heap)(H:Hp):(hidT h H).objs.size=h.objs.size:=PySem.W.hideAll_size _ _
def Ks{o:Obj}(e:h.get? b=some o)(n:H b=none):(hidT h H).get? b=some o:=
 PySem.W.hideAll_get _ e λa=>by
  have q:(H b).isSome=true:=(SJ.mp a).2;rw[n]at q;simp at q
theorem LM{o:Obj}(e:(hidT h H).get? b=some o):h.get? b=some o/\H b=none:=by
 have a:h.get? b=some o:=PySem.W.of_hideAll (trk h H) e;refine⟨a,?_⟩
 cases q:H b with
 | none=>rfl
 | some x=>
  have c:b∈trk h H:=SJ.mpr ⟨SQ.mpr (Tc a),by simp[q]⟩;have z:(hidT h H).get? b=none:=PySem.W.hideAll_none (trk h H) c;rw[z]at e;cases e
structure Mod(K:Frag)(mg:Str->Option Value)(base:Heap):Prop where
 kin:K.In base
 glob:base.Ns mainGlobals mg
 blt:∃ mb,base.Ns builtinsNs mb/\∀ x:Str,x≠"__name__"->mb x=bootBuiltins x
 nolimit:base.NoLimit
structure Cx where
 prog:Program
 w:World
 K:Frag
 mg:Str->Option Value
 base:Heap
 A:Around
 N:List Str
 s₀:Shared
 H₀:Hp
 env:Env
 outer:List Env
 stack:List Env
 ex:List Addr
 fn:Str->Bool
 calm:Bool
 pn:List (Addr × Obj)
 xe:Value->Shared->Prop
def frs(l:List Env):List Addr:=l.filterMap (·.frame)
abbrev Cx.fs(X:Cx):List Addr:=frs X.outer
def Vis(a:Scope)(x:Str):Prop:=a.names.lookup x=some .local\/a.names.lookup x=some .cell\/a.names.lookup x=some .free
def Loc(a:Scope)(x:Str):Prop:=a.names.lookup x=some .local\/a.names.lookup x=some .cell
def Look(env:Env)(h:Heap)(m:Str->Option Value)(x:Str)(u:Value):Prop:=
 (env.kindOf x=some .local/\m x=some u)\/((env.kindOf x=some .cell\/env.kindOf x=some .free)/\∃ c,env.cells.lookup x=some c/\h.IsCell c (some u))
structure Cx.Ok(X:Cx):Prop where
 mod:Mod X.K X.mg X.base
 kind:X.env.scope.kind=.function
 glob:X.env.globals=mainGlobals
 blt:X.env.builtins=builtinsNs
 above:X.s₀.heap.objs.size<=X.env.locals
 inj:∀ x y c,X.env.cells.lookup x=some c->X.env.cells.lookup y=some c->x=y
 has:∀ x,(X.env.kindOf x=some .cell\/X.env.kindOf x=some .free)->∃ c,X.env.cells.lookup x=some c
 cab:∀ x c,X.fn x=true->X.env.cells.lookup x=some c->X.s₀.heap.objs.size<=c
 hd:X.calm=true->X.A.handled=none
 frames:X.A.frames=some X.stack
 stk:X.stack=X.outer\/(X.stack=X.env::X.outer/\X.env.frame=some X.env.locals)
 exf:∀ b∈X.ex,b≠X.env.locals/\∀ x c,X.env.cells.lookup x=some c->c≠b
 bs:∀ b o,X.base.get? b=some o->X.s₀.heap.get? b=some o/\X.H₀ b=none
 bsz:X.base.objs.size<=X.s₀.heap.objs.size
 noex:∀ b o,X.base.get? b=some o->b∉X.ex
 exfs:∀ b∈X.ex,b∉X.fs
 funs:X.s₀.heap.FunFrames X.base X.outer
 frf:∀ b∈X.fs,X.H₀ b=none
structure Inv(X:Cx)(Sk:List (Addr × Obj))(σ:List (Option V))(H:Hp)(s:Shared):Prop where
 ok:X.Ok
 os:s.os=X.s₀.os
 bare:AllBare s.gens
 base:Un X.fs X.ex X.H₀ H X.s₀.heap s.heap
 loc:∃ m,s.heap.Ns X.env.locals m/\∀(i:Nat) (x:Str) (v:V),X.N[i]? =some x->σ[i]? =some (some v)->Vis X.env.scope x->∃ u,RelV v u/\Look X.env s.heap m x u
 cell:∀ x c,X.env.cells.lookup x=some c->∃ v,s.heap.IsCell c v
 free:H X.env.locals=none
 freeC:∀ x c,X.env.cells.lookup x=some c->H c=none
 pin:∀ p∈X.pn++Sk,s.heap.get? p.1=some p.2/\H p.1=none/\p.1≠X.env.locals/\p.1∉X.fs/\∀ v,p.2.data≠.cell v
 hok:HOk X.prog X.w H s.heap
 len:σ.length=X.N.length
section
variable{X:Cx}{Sk:List (Addr × Obj)}{σ:List (Option V)}{H H':Hp}{s:Shared}{h':Heap}
def Cx.Ok.nofr(a:X.Ok){b:Addr}{o:Obj}(e:X.base.get? b=some o):b∉X.fs:=λc=>by
 have:=(a.funs.mem c).1;rw[e]at this;cases this
def Inv.bs(I:Inv X Sk σ H s):∀ b o,X.base.get? b=some o->s.heap.get? b=some o/\H b=none:=λb o e=>
 ⟨I.base.keep b o (I.ok.bs b o e).1 (I.ok.bs b o e).2 (I.ok.nofr e) (I.ok.noex b o e),I.base.free b o (I.ok.bs b o e).1 (I.ok.bs b o e).2 (I.ok.noex b o e)⟩
def Inv.bk(I:Inv X Sk σ H s):∀ b o,X.base.get? b=some o->s.heap.get? b=some o:=λb o e=>(I.bs b o e).1
def Inv.mod(I:Inv X Sk σ H s):Mod X.K X.mg X.base:=I.ok.mod
def Inv.kIn(I:Inv X Sk σ H s):X.K.In s.heap:=I.ok.mod.kin.keeps I.bk
def Inv.lt(I:Inv X Sk σ H s):X.env.locals<s.heap.objs.size:=let ⟨_,a,_⟩:=I.loc;a.lt
def Inv.sz(I:Inv X Sk σ H s):X.s₀.heap.objs.size<=s.heap.objs.size:=SW I.ok.above (Tv I.lt)
def Inv.nofs(I:Inv X Sk σ H s){a:Addr}(h:s.heap.objs.size<=a):a∉X.fs:=λc=>by
 obtain⟨_,o,b,_⟩:=I.ok.funs.mem c;exact absurd (Tl (Tc b) (SW I.sz h)) (Uj _)
def Inv.cne(I:Inv X Sk σ H s):∀ x c,X.env.cells.lookup x=some c->c≠X.env.locals:=λx c e z=>by
 obtain⟨v,o,d,f⟩:=I.cell x c e;obtain⟨m,⟨h,g,i,b,a,_⟩,_⟩:=I.loc;rw[z,b]at d;cases d;rw[a]at f;cases f
theorem Inv.funs(I:Inv X Sk σ H s):s.heap.FunFrames X.base X.outer:=by
 have a:∀(l:List Env),(∀ b∈frs l,b∈X.fs)->X.s₀.heap.FunFrames X.base l->s.heap.FunFrames X.base l:=by
  intro l
  induction l with
  | nil=>intro _ _;trivial
  | cons p r k=>
   intro g j;obtain⟨q,⟨L,o,f,n,i,m⟩,h⟩:=j;have c:L∈X.fs:=g L (by unfold frs;rw[VV,f];exact SN);obtain⟨t,e⟩:=I.base.slot L o i (I.ok.frf L c) c λz=>I.ok.exfs L z c;exact⟨q,⟨L,_,f,n,e,m⟩,k (λb d=>g b (by unfold frs;rw[VV,f];exact SM _ d)) h⟩
 exact a X.outer (λ_ d=>d) I.ok.funs
theorem Inv.stack(I:Inv X Sk σ H s):s.heap.FunFrames X.base X.stack:=by
 rcases I.ok.stk with e | ⟨e,b⟩
 . rw[e];exact I.funs
 . rw[e];obtain⟨m,a,_⟩:=I.loc;refine .cons (by rw[I.ok.kind];decide) b a ?_ I.funs;exact Heap.get?_none_of_le (SW I.ok.bsz I.ok.above)
def Inv.stkSub(I:Inv X Sk σ H s):∀ b∈frs X.stack,b∈X.env.locals::X.fs:=λb a=>by
 rcases I.ok.stk with e | ⟨e,c⟩
 . rw[e]at a;exact SM _ a
 . rw[e]at a;unfold frs at a;rw[VV,c]at a;exact a
def Inv.stkFree(I:Inv X Sk σ H s):∀ b∈frs X.stack,H b=none:=λb a=>by
 rcases SU.mp (I.stkSub b a) with e | a
 . rw[e];exact I.free
 . obtain⟨_,o,c,_⟩:=I.ok.funs.mem a;exact I.base.free b o c (I.ok.frf b a) λz=>I.ok.exfs b z a
def Inv.step {g':Array GenState} {t':Nat} {d':Drawn} {ch:List Addr} (I:Inv X Sk σ H s)
  (g:∀ b∈ch,(b∈X.ex\/X.s₀.heap.objs.size<=b)/\b≠X.env.locals/\(∀ x c,X.env.cells.lookup x=some c->c≠b)/\∀ p∈X.pn++Sk,p.1≠b)
  (j:∀ b o,b≠X.env.locals->b∉X.fs->b∉ch->s.heap.get? b=some o->H b=none->h'.get? b=some o)
  (A:∀ b o,b≠X.env.locals->b∈X.fs->b∉ch->s.heap.get? b=some o->H b=none->∃ N,h'.get? b=some {o with slots:=N}) (f:∀ b o,b∉ch->s.heap.get? b=some o->H b=none->H' b=none)
  (B:∀ b o,b∉ch->s.heap.get? b=some o->∃ J,h'.get? b=some J)
  (K:∀ b xs,H b=some (.tup xs)->H' b=some (.tup xs)) (E:∀ b o u,H b=some (.frz o u)->H' b=some (.frz o u)) (G:∀ b M,H b=some (.tbl M)->∃ F,H' b=some (.tbl (M++F)))
  (ns:∀ m,s.heap.Ns X.env.locals m->h'.Ns X.env.locals m) (Q:HOk X.prog X.w H' h') (Y:AllBare g'):
  Inv X Sk σ H' {s with heap:=h',gens:=g',drawn:=d',toks:=t'}:=by
 have L:∀ b o,X.s₀.heap.get? b=some o->b≠X.env.locals:=λb o e=>TB (Tl (Tc e) I.ok.above)
 have y:∀ b o,X.s₀.heap.get? b=some o->b∉X.ex->b∉ch:=λb o e a C=>by
  rcases(g b C).1 with z | z
  . exact a z
  . exact absurd (Tl (Tc e) z) (Uj _)
 have t:∀ x c,X.env.cells.lookup x=some c->∀ v,s.heap.IsCell c v->h'.IsCell c v:=λx c e v ⟨o,D,P⟩=>by
  have h:c∉ch:=λz=>(g c z).2.2.1 x c e rfl;by_cases S:c∈X.fs
  . obtain⟨N,q⟩:=A c o (I.cne x c e) S h D (I.freeC x c e);exact⟨_,q,P⟩
  . exact⟨o,j c o (I.cne x c e) S h D (I.freeC x c e),P⟩
 refine⟨I.ok,I.os,Y,⟨λb o e n C a=>?_,λb o e n C a=>?_,λb o e n a=>?_,λb o e a=>?_,λb xs e=>K b xs (I.base.tups b xs e),λb o xs e=>E b o xs (I.base.frzs b o xs e),λb M e=>?_⟩,?_,λx c e=>?_,?_,λx c e=>?_,λp U=>?_,Q,I.len⟩
 . exact j b o (L b o e) C (y b o e a) (I.base.keep b o e n C a) (I.base.free b o e n a)
 . obtain⟨N,e1⟩:=I.base.slot b o e n C a;obtain⟨O,e2⟩:=A b _ (L b o e) C (y b o e a) e1 (I.base.free b o e n a);exact⟨O,e2⟩
 . obtain⟨J,e1⟩:=I.base.there b o e a;exact f b J (y b o e a) e1 (I.base.free b o e n a)
 . obtain⟨J,e1⟩:=I.base.there b o e a;exact B b J (y b o e a) e1
 . obtain⟨m1,e1⟩:=I.base.tbls b M e;obtain⟨W,e2⟩:=G b _ e1;exact⟨m1++W,by rw[e2,Array.append_assoc]⟩
 . obtain⟨m,hn,Z⟩:=I.loc;refine⟨m,ns m hn,λi x v e1 e2 e3=>?_⟩;obtain⟨u,r,l⟩:=Z i x v e1 e2 e3;refine⟨u,r,?_⟩;rcases l with l | ⟨k,c,e,z⟩
   . exact .inl l
   . exact .inr ⟨k,c,e,t x c e _ z⟩
 . obtain⟨v,z⟩:=I.cell x c e;exact⟨v,t x c e v z⟩
 . obtain⟨m,⟨o,_,_,D,_⟩,_⟩:=I.loc;exact f _ o (λz=>(g _ z).2.1 rfl) D I.free
 . obtain⟨v,o,D,P⟩:=I.cell x c e;exact f c o (λz=>(g c z).2.2.1 x c e rfl) D (I.freeC x c e)
 . obtain⟨e,n,R,T,d⟩:=I.pin p U;have h:p.1∉ch:=λz=>(g p.1 z).2.2.2 p U rfl;exact⟨j p.1 p.2 R T h e n,f p.1 p.2 h e n,R,T,d⟩
theorem Inv.un{t':Nat}(I:Inv X Sk σ H s)(u:Un X.fs [] H H' s.heap h')(d:HOk X.prog X.w H' h'):Inv X Sk σ H' {s with heap:=h',toks:=t'}:=by
 obtain⟨m,⟨o,q,v,h,r⟩,_⟩:=id I.loc;obtain⟨p,j⟩:=u.any h I.free (by simp)
 exact I.step (g':=s.gens) (d':=s.drawn) (ch:=[]) (λ_ z=>nomatch z) (λb o _ f _ e n=>u.keep b o e n f (by simp)) (λb o _ f _ e n=>u.slot b o e n f (by simp)) (λb o _ e n=>u.free b o e n (by simp)) (λb o _ e=>u.there b o e (by simp)) u.tups u.frzs u.tbls (λl k=>by
  obtain⟨t,c,g,a,i⟩:=k;rw[h]at a;cases a;exact⟨_,c,g,j,i⟩) d I.bare
theorem Inv.call {g':Array GenState} {t':Nat} {d':Drawn} {ch:List Addr} (I:Inv X Sk σ H s) (u:Un (frs X.stack) ch H H' s.heap h') (i:HOk X.prog X.w H' h') (v:AllBare g')
  (d:∀ b∈ch,(b∈X.ex\/X.s₀.heap.objs.size<=b)/\b≠X.env.locals/\(∀ x c,X.env.cells.lookup x=some c->c≠b)/\∀ p∈X.pn++Sk,p.1≠b):
  Inv X Sk σ H' {s with heap:=h',gens:=g',drawn:=d',toks:=t'}:=by
 obtain⟨m,⟨o,B,D,k,r⟩,_⟩:=id I.loc;obtain⟨A,g⟩:=u.any k I.free λz=>(d _ z).2.1 rfl
 exact I.step (ch:=ch) d (λb o g t a e n=>u.keep b o e n (λz=>(SU.mp (I.stkSub b z)).elim g t) a) (λb o _ _ a e n=>u.any e n a) (λb o a e n=>u.free b o e n a) (λb o a e=>u.there b o e a) u.tups u.frzs u.tbls (λy q=>by
  obtain⟨C,h,j,f,l⟩:=q;rw[k]at f;cases f;exact⟨_,h,j,g,l⟩) i v
theorem Inv.turned {t':Nat} {it:Addr} (I:Inv X Sk σ H s) (k:∀ b o,b≠it->s.heap.get? b=some o->h'.get? b=some o) (j:H it=none) (f:it≠X.env.locals)
  (h1:it∈X.ex\/X.s₀.heap.objs.size<=it) (h2:∀ x c,X.env.cells.lookup x=some c->c≠it) (h3:∀ p∈X.pn++Sk,p.1≠it):Inv X Sk σ H {s with heap:=h',toks:=t'}:=by
 have d:∀ b u,H b=some u->b≠it:=λb u e z=>by rw[z,j]at e;cases e
 refine I.step (g':=s.gens) (d':=s.drawn) (ch:=[it]) (λb i=>?_) (λb o _ _ a e _=>k b o (λz=>a (by simp[z])) e) (λb o _ _ a e _=>⟨o.slots,k b o (λz=>a (by simp[z])) e⟩) (λ_ _ _ _ n=>n)
  (λb o a e=>⟨o,k b o (λz=>a (by simp[z])) e⟩) (λ_ _ e=>e) (λ_ _ _ e=>e) (λb w e=>⟨#[],by rw[e];simp⟩) (λm h=>?_) (λb u e=>?_) I.bare
 . have e:b=it:=by simpa using i
   subst e;exact⟨h1,f,h2,h3⟩
 . obtain⟨o,l,t,g,r⟩:=h;exact⟨o,l,t,k _ o (Vr f) g,r⟩
 . refine(I.hok b u e).stay (λc v a q=>k c v ?_ q) (λ_ q=>q) λ_ _ q=>q;rcases a with z | z
   . rw[z];exact d b u e
   . exact d c _ z
def Inv.tok(I:Inv X Sk σ H s)(t:Nat):Inv X Sk σ H {s with toks:=t}:=I.un (h':=s.heap) (t':=t) Un.refl I.hok
def Inv.kept{t':Nat}(I:Inv X Sk σ H s)(k:∀ b u,s.heap.get? b=some u->h'.get? b=some u):Inv X Sk σ H {s with heap:=h',toks:=t'}:=I.un (Un.kept k) (I.hok.kept k)
def Inv.laid{a:Addr}{o:HO}{t':Nat}(I:Inv X Sk σ H s)(k:∀ b u,s.heap.get? b=some u->h'.get? b=some u)(d:s.heap.objs.size<=a)(c:ObjOk X.prog X.w (upd H a o) h' a o):
  Inv X Sk σ (upd H a o) {s with heap:=h',toks:=t'}:=I.un (Un.laid k d (I.hok.fresh d)) (I.hok.laid k d c)
def Inv.write {x e:Addr} {o:HO} {t':Nat} (I:Inv X Sk σ H s) (f:Mut (H x)) (d:e=x\/H e=some (.own x)) (k:∀ b u,b≠e->s.heap.get? b=some u->h'.get? b=some u) (a:∃ u,h'.get? e=some u)
  (c:ObjOk X.prog X.w (upd H x o) h' x o):Inv X Sk σ (upd H x o) {s with heap:=h',toks:=t'}:=I.un (Un.write f d k a) (I.hok.write f d k a c)
def Inv.pins_of{a:List (Addr × Obj)}(I:Inv X Sk σ H s)(h:∀ p∈a,s.heap.get? p.1=some p.2/\H p.1=none/\p.1≠X.env.locals/\p.1∉X.fs/\∀ v,p.2.data≠.cell v):Inv X a σ H s:=
 ⟨I.ok,I.os,I.bare,I.base,I.loc,I.cell,I.free,I.freeC,λp b=>(SX.mp b).elim (λz=>I.pin p (TZ _ z)) (h p),I.hok,I.len⟩
theorem Dp{N:List Str}(c:N.Nodup){i j:Nat}{x:Str}(a:N[i]? =some x)(b:N[j]? =some x):i=j:=by
 obtain⟨h1,e1⟩:=SD.mp a;obtain⟨h2,e2⟩:=SD.mp b;exact(List.getElem_inj c).mp (e1.trans e2.symm)
theorem Bo {M:Model} {A:Around} {E:Value->Shared->Prop} {i:Nat} {x:Str} {v:V} {u:Value} {Q:Unit->Shared->Prop} (I:Inv X Sk σ H s) (hN:X.N.Nodup) (P:X.N[i]? =some x) (t:Loc X.env.scope x) (r:RelV v u)
  (h:∀ s',Inv X Sk (σ.set i (some v)) H s'->(∃ a,Heap.SameBut a s.heap s'.heap/\(a=X.env.locals\/X.env.cells.lookup x=some a))->Q () s') (hf:X.fn x=true\/X.env.scope.names.lookup x=some .local:=by first | exact .inl rfl | exact .inr rfl | assumption):wpAny M A (storeName X.env x u) Q E s:=by
 obtain⟨m,hn,hl⟩:=id I.loc;have O:(X.env.scope.kind==.class||(X.env.scope.kind==.module&&X.env.locals != X.env.globals))=false:=by rw[I.ok.kind];rfl
 have R:i<σ.length:=by rw[I.len];exact(SD.mp P).1
 have F:=I.cne
 have g:∀{a:Addr} {h':Heap},(∃ o,s.heap.get? a=some o/\H a=none)->Heap.SameBut a s.heap h'->HOk X.prog X.w H h':=λ{a h'} ha f b ob e=>by
  obtain⟨_,_,B⟩:=ha;refine(I.hok b ob e).stay (λc Y l q=>(f.2 c ?_).trans q) (λ_ q=>q) λ_ _ q=>q;rintro rfl;rcases l with rfl | l
  . rw[B]at e;cases e
  . rw[B]at l;cases l
 rcases t with C | C
 . refine wpAny_storeName_local C hn (λh' Z f=>?_) O;obtain⟨oL,_,_,ab,_⟩:=id hn;refine h _ ⟨I.ok,I.os,I.bare,⟨λb o e n J t=>?_,λb o e n J t=>?_,I.base.free,λb o e t=>?_,I.base.tups,I.base.frzs,I.base.tbls⟩,⟨_,Z,λj y v' e1 e2 e3=>?_⟩,λy c e=>?_,I.free,I.freeC,λp hp=>?_,g ⟨oL,ab,I.free⟩ f,by simpa using I.len⟩ ⟨_,f,.inl rfl⟩
   . exact(f.2 b (TB (Tl (Tc e) I.ok.above))).trans (I.base.keep b o e n J t)
   . obtain⟨sl,e1⟩:=I.base.slot b o e n J t;exact⟨sl,(f.2 b (TB (Tl (Tc e) I.ok.above))).trans e1⟩
   . obtain⟨o',e1⟩:=I.base.there b o e t;exact⟨o',(f.2 b (TB (Tl (Tc e) I.ok.above))).trans e1⟩
   . by_cases D:j=i
     . subst D;rw[P]at e1;cases e1;rw[Wv R]at e2;cases e2;exact⟨u,r,.inl ⟨C,by simp⟩⟩
     . rw[List.getElem?_set_ne (Vr D)]at e2;obtain⟨u',r',q⟩:=hl j y v' e1 e2 e3;refine⟨u',r',?_⟩;rcases q with ⟨k,e⟩ | ⟨k,c,e,z⟩
       . refine .inl ⟨k,?_⟩;have:y≠x:=λe=>D (Dp hN e1 (e ▸ P));simp[this,e]
       . exact .inr ⟨k,c,e,z.sameBut f (F y c e)⟩
   . obtain⟨Y,z⟩:=I.cell y c e;exact⟨Y,z.sameBut f (F y c e)⟩
   . obtain⟨e,n,W,nf,d⟩:=I.pin p hp;exact⟨(f.2 p.1 W).trans e,n,W,nf,d⟩
 . have G:X.fn x=true:=by
    rcases hf with z | z
    . exact z
    . rw[z]at C;cases C
   obtain⟨c,l⟩:=I.ok.has x (.inl C);obtain⟨Y,z⟩:=I.cell x c l;refine wpAny_storeName_cell I.ok.kind C l z (λh' K f=>?_);obtain⟨oc,T,S⟩:=id z;refine h {s with heap:=h'} ⟨I.ok,I.os,I.bare,⟨λb o e n J t=>?_,λb o e n J t=>?_,I.base.free,λb o e t=>?_,I.base.tups,I.base.frzs,I.base.tbls⟩,⟨m,hn.sameBut f (Vr (F x c l)),λj y v' e1 e2 e3=>?_⟩,λy U e=>?_,I.free,I.freeC,λp hp=>?_,g ⟨oc,T,I.freeC x c l⟩ f,by simpa using I.len⟩ ⟨c,f,.inr l⟩
   . exact(f.2 b (TB (Tl (Tc e) (I.ok.cab x c G l)))).trans (I.base.keep b o e n J t)
   . obtain⟨sl,e1⟩:=I.base.slot b o e n J t;exact⟨sl,(f.2 b (TB (Tl (Tc e) (I.ok.cab x c G l)))).trans e1⟩
   . obtain⟨o',e1⟩:=I.base.there b o e t;exact⟨o',(f.2 b (TB (Tl (Tc e) (I.ok.cab x c G l)))).trans e1⟩
   . by_cases D:j=i
     . subst D;rw[P]at e1;cases e1;rw[Wv R]at e2;cases e2;exact⟨u,r,.inr ⟨.inl C,c,l,K⟩⟩
     . rw[List.getElem?_set_ne (Vr D)]at e2;obtain⟨u',r',q⟩:=hl j y v' e1 e2 e3;refine⟨u',r',?_⟩;rcases q with q | ⟨k,U,e,z'⟩
       . exact .inl q
       . refine .inr ⟨k,U,e,z'.sameBut f ?_⟩;rintro rfl;exact D (Dp hN e1 (I.ok.inj _ _ _ e l ▸ P))
   . by_cases L:U=c
     . subst L;exact⟨_,K⟩
     . obtain⟨w2,z2⟩:=I.cell y U e;exact⟨w2,z2.sameBut f L⟩
   . obtain⟨e,n,W,nf,d⟩:=I.pin p hp;refine⟨(f.2 p.1 ?_).trans e,n,W,nf,d⟩;intro q;rw[q,T]at e;have q':oc=p.2:=Uw e;exact d Y (by rw[← q'];exact S)
def Dq {M:Model} {A:Around} {E:Value->Shared->Prop} {i:Nat} {x:Str} {v:V} {u:Value} {Q:Unit->Shared->Prop} (I:Inv X Sk σ H s) (a:X.N.Nodup) (e:X.N[i]? =some x) (d:Loc X.env.scope x) (r:RelV v u)
  (h:∀ s',Inv X Sk (σ.set i (some v)) H s'->Q () s') (b:X.fn x=true\/X.env.scope.names.lookup x=some .local:=by first | exact .inl rfl | exact .inr rfl | assumption):wpAny M A (storeName X.env x u) Q E s:=
 Bo I a e d r (λs' c _=>h s' c) b
theorem Inv.call' {s':Shared} {ch:List Addr} (I:Inv X Sk σ H s) (i:s'.os=s.os) (u:Un (frs X.stack) ch H H' s.heap s'.heap) (a:HOk X.prog X.w H' s'.heap) (k:AllBare s'.gens)
  (d:∀ b∈ch,(b∈X.ex\/X.s₀.heap.objs.size<=b)/\b≠X.env.locals/\(∀ x c,X.env.cells.lookup x=some c->c≠b)/\∀ p∈X.pn++Sk,p.1≠b):Inv X Sk σ H' s':=by
 obtain⟨h',h,g,f,j⟩:=s';have e:j=s.os:=i;subst e;exact I.call (g':=h) (t':=f) (d':=g) u a k d
end
abbrev XK:=Value->Option Addr->Hp->Prop
abbrev St:=List (Option V)
abbrev VK:=V->Hp->Prop
abbrev TE:=St->Hp->VK->Prop
abbrev TT:=St->Hp->(Bool->Hp->Prop)->Prop
abbrev TA:=St->Hp->(List V->Hp->Prop)->Prop
structure Ends where
 nx:St->Hp->Prop
 rt:VK
 bk:St->Hp->Prop:=λ_ _=>False
 ct:St->Hp->Prop:=λ_ _=>False
abbrev TS:=Ends->St->Hp->Prop
def EP(X:Cx)(b:List (Addr × Obj))(σ:St)(Q:VK)(u:Value)(s':Shared):Prop:=∃ v a,Inv X b σ a s'/\RelV v u/\Q v a
def TP(X:Cx)(c:List (Addr × Obj))(σ:St)(Q:Bool->Hp->Prop)(b:Bool)(s':Shared):Prop:=∃ a,Inv X c σ a s'/\Q b a
def AP(X:Cx)(b:List (Addr × Obj))(σ:St)(Q:List V->Hp->Prop)(us:List Value)(s':Shared):Prop:=∃ vs a,Inv X b σ a s'/\Vals vs us/\Q vs a
def SP(X:Cx)(c:List (Addr × Obj))(D:Ends)(f:Flow)(s':Shared):Prop:=
 match f with
 | .next=>∃ b a,Inv X c b a s'/\D.nx b a
 | .brk=>∃ b a,Inv X c b a s'/\D.bk b a
 | .cont=>∃ b a,Inv X c b a s'/\D.ct b a
 | .ret u=>∃ v b a,Inv X c b a s'/\RelV v u/\D.rt v a
def PE(X:Cx)(e:Expr)(t:TE):Prop:=
 ∀(a:List (Addr × Obj)) (s:Shared) (σ:St) (H:Hp) (Q:VK),Inv X a σ H s->t σ H Q->wpAny (model X.prog X.w) X.A (eval e X.env) (EP X a σ Q) X.xe s
def PT(X:Cx)(e:Expr)(t:TT):Prop:=
 ∀(a:List (Addr × Obj)) (s:Shared) (σ:St) (H:Hp) (Q:Bool->Hp->Prop),Inv X a σ H s->t σ H Q->wpAny (model X.prog X.w) X.A (isTrue e X.env (eval e X.env)) (TP X a σ Q) X.xe s
def PW(X:Cx)(e:Expr)(t:TT):Prop:=
 ∀(b:Sem Value) (a:List (Addr × Obj)) (s:Shared) (σ:St) (H:Hp) (Q:Bool->Hp->Prop),Inv X a σ H s->t σ H Q->wpAny (model X.prog X.w) X.A (isTrue e X.env b) (TP X a σ Q) X.xe s
def PW.pt{X:Cx}{e:Expr}{t:TT}(h:PW X e t):PT X e t:=h _
abbrev Va:=@PW.pt
def PA(X:Cx)(c:List Expr)(t:TA):Prop:=
 ∀(a:Pos) (b:List (Addr × Obj)) (s:Shared) (σ:St) (H:Hp) (Q:List V->Hp->Prop),Inv X b σ H s->t σ H Q->wpAny (model X.prog X.w) X.A (spliced (backTo a (starEach c X.env))) (AP X b σ Q) X.xe s
def PS(X:Cx)(st:Stmt)(t:TS):Prop:=
 ∀(a:List (Addr × Obj)) (s:Shared) (σ:St) (H:Hp) (D:Ends),Inv X a σ H s->t D σ H->wpAny (model X.prog X.w) X.A (exec st X.env) (SP X a D) X.xe s
def PSs(X:Cx)(st:List Stmt)(t:TS):Prop:=
 ∀(a:List (Addr × Obj)) (s:Shared) (σ:St) (H:Hp) (D:Ends),Inv X a σ H s->t D σ H->wpAny (model X.prog X.w) X.A (execs st X.env) (SP X a D) X.xe s
def thn{α:Type}{t:Sem α}{Q b:α->Shared->Prop}{M:Model}{A:Around}{E:Value->Shared->Prop}{s:Shared}(h:wpAny M A t Q E s)(c:∀ a s,Q a s->b a s):wpAny M A t b E s:=T4 h c λ_ _ x=>x
section
variable{X:Cx}
def vB:Option (Option V)->(V->Prop)->Prop
 | some (some v),k=>k v
 | _,_=>False
theorem Lv{o:Option (Option V)}{k:V->Prop}(h:vB o k):∃ v,o=some (some v)/\k v:=by
 rcases o with _ | _ | v
 . cases h
 . cases h
 . exact⟨v,rfl,h⟩
def sO{o:Option (Option V)}{k:V->Prop}{v:V}(e:o=some (some v))(h:k v):vB o k:=by subst e;exact h
def tVar(i:Nat):TE:=λσ H Q=>vB σ[i]? λv=>Q v H
def tC(v:V):TE:=λ_ H Q=>Q v H
theorem MX{i:Nat}{x:Str}{pos:Pos}(p:X.N[i]? =some x)(n:Vis X.env.scope x)(f:(x==("__debug__":Str))=false:=by decide)(d:(x==("__classdict__":Str))=false:=by decide):PE X (.Name x pos) (tVar i):=by
 intro k s σ H Q I h;obtain⟨v,e,h⟩:=Lv h;obtain⟨m,q,j⟩:=I.loc;obtain⟨u,r,l⟩:=j i x v p e n;have fin:EP X k σ Q u s:=⟨v,H,I,r,h⟩;rcases l with ⟨b,o⟩ | ⟨b,c,g,a⟩
 . exact wpAny_Name (wpAny_loadName_local I.ok.kind b q o fin) f
 . rcases b with b | b
   . exact wpAny_Name (wpAny_loadName_cell I.ok.kind b g a fin) f
   . exact wpAny_Name (wpAny_loadName_free I.ok.kind b g a fin d) f
def ah{i j pos}:PE X (.Constant (.int i) j pos) (tC (.int i)):=λ_ _ _ H _ I h=>wpAny_Constant_int ⟨.int i,H,I.tok _,⟨_,rfl⟩,h⟩
def bI{b j pos}:PE X (.Constant (.bool b) j pos) (tC (.bl b)):=λ_ _ _ H _ I h=>Constant_bool ⟨.bl b,H,I,rfl,h⟩
def iT{j pos}:PE X (.Constant .none j pos) (tC .non):=λ_ _ _ H _ I h=>Constant_none ⟨.non,H,I,rfl,h⟩
def aM{x j pos}:PE X (.Constant (.str x) j pos) (tC (.str x)):=λ_ _ _ H _ I h=>Calls.Constant_str ⟨.str x,H,I.tok _,⟨_,rfl⟩,h⟩
def Gl(X:Cx)(x:Str):Prop:=X.env.kindOf x=some .globalImplicit
def AC {E:Value->Shared->Prop} {d:List (Addr × Obj)} {s:Shared} {σ:St} {H:Hp} {x:Str} {u:Value} {pos:Pos} {Q:Value->Shared->Prop} (I:Inv X d σ H s) (c:Gl X x) (a:X.mg x=some u) (h:Q u s)
  (b:(x==("__debug__":Str))=false:=by decide):wpAny (model X.prog X.w) X.A (eval (.Name x pos) X.env) Q E s:=
 V6 I.ok.kind c (Calls.loadGlobal_global (by rw[I.ok.glob];exact I.mod.glob.keeps I.bk) a h) b
theorem fv {E:Value->Shared->Prop} {a:List (Addr × Obj)} {s:Shared} {σ:St} {H:Hp} {x:Str} {u:Value} {pos:Pos} {Q:Value->Shared->Prop} (I:Inv X a σ H s) (f:Gl X x) (c:X.mg x=none) (b:bootBuiltins x=some u) (h:Q u s)
  (e:x≠"__name__":=by decide) (d:(x==("__debug__":Str))=false:=by decide):wpAny (model X.prog X.w) X.A (eval (.Name x pos) X.env) Q E s:=by
 obtain⟨g,h1,h2⟩:=I.mod.blt;exact V6 I.ok.kind f (Calls.loadGlobal_builtin (by rw[I.ok.glob];exact I.mod.glob.keeps I.bk) c (by rw[I.ok.blt];exact h1.keeps I.bk) ((h2 x e).trans b) h) d
theorem cG{x:Str}{v:V}{u:Value}{pos:Pos}(c:Gl X x)(a:X.mg x=some u)(r:RelV v u)(b:(x==("__debug__":Str))=false:=by decide):PE X (.Name x pos) (tC v):=
 λ_ _ _ H _ I h=>AC I c a ⟨v,H,I,r,h⟩ b
theorem ra{x:Str}{v:V}{u:Value}{pos:Pos}(e:Gl X x)(a:X.mg x=none)(b:bootBuiltins x=some u)(r:RelV v u)(d:x≠"__name__":=by decide)(c:(x==("__debug__":Str))=false:=by decide):PE X (.Name x pos) (tC v):=
 λ_ _ _ H _ I h=>fv I e a b ⟨v,H,I,r,h⟩ d c
variable{a b:Expr}{ta tb:TE}{pos:Pos}
def tB(t:TE):TT:=λσ H Q=>t σ H λx a=>∃ c,x=.bl c/\Q c a
theorem aS{e:Expr}{t:TE}(h:PE X e t)(g:∀ a,isTrue e X.env a=(do let v ← a;standAt e.pos;holding [v] (truthy v)):=by intro _;rfl):PT X e (tB t):=by
 intro c s σ H Q I hw;refine isTrue_plain (thn (h c s σ H _ I hw) λv s1 ⟨x,f,i,r1,b⟩=>?_) (g _);obtain⟨d,rfl,q⟩:=b;cases r1;exact Ut ⟨f,i,q⟩
variable{tA tB':TT}{rest:List Expr}
def tAnd(t u:TT):TT:=λσ H Q=>t σ H λc a=>if c=true then u σ a Q else Q false a
def tOr(t u:TT):TT:=λσ H Q=>t σ H λc a=>if c=true then Q true a else u σ a Q
def tNot(t:TT):TT:=λσ H Q=>t σ H λc a=>Q (!c) a
theorem jK(d:PT X a tA):PW X (.BoolOp .And [a] pos) tA:=by
 intro f b s σ H Q I h;refine isTrue_and (thn (d b s σ H Q I h) λc s1 e=>?_)
 cases c with
 | true=>exact isTrue_and_nil e
 | false=>exact e
theorem da(d:PT X a tA):PW X (.BoolOp .Or [a] pos) tA:=by
 intro f b s σ H Q I h;refine isTrue_or (thn (d b s σ H Q I h) λc s1 e=>?_)
 cases c with
 | false=>exact isTrue_or_nil e
 | true=>exact e
theorem mq(i:PT X a tA)(k:PW X (.BoolOp .And (b::rest) pos) tB'):PW X (.BoolOp .And (a::b::rest) pos) (tAnd tA tB'):=by
 intro j e s σ H Q I h;refine isTrue_and (thn (i e s σ H _ I h) λc s1 ⟨f,g,d⟩=>?_)
 cases c with
 | true=>exact k j e s1 σ f Q g d
 | false=>exact⟨f,g,d⟩
theorem cU(i:PT X a tA)(k:PW X (.BoolOp .Or (b::rest) pos) tB'):PW X (.BoolOp .Or (a::b::rest) pos) (tOr tA tB'):=by
 intro j e s σ H Q I h;refine isTrue_or (thn (i e s σ H _ I h) λc s1 ⟨f,g,d⟩=>?_)
 cases c with
 | true=>exact⟨f,g,d⟩
 | false=>exact k j e s1 σ f Q g d
theorem bU(d:PT X a tA):PT X (.UnaryOp .Not a pos) (tNot tA):=by
 intro e s σ H Q I h;exact isTrue_not (d e s σ H (λc b=>Q (!c) b) I h)
def tAndV(ta tb:TE):TE:=λσ H Q=>ta σ H λx a=>∃ c,x=.bl c/\if c=true then tb σ a Q else Q (.bl false) a
def tOrV(ta tb:TE):TE:=λσ H Q=>ta σ H λx a=>∃ c,x=.bl c/\if c=true then Q (.bl true) a else tb σ a Q
def tNotV(ta:TE):TE:=λσ H Q=>ta σ H λx a=>∃ c,x=.bl c/\Q (.bl (!c)) a
def bV{op}{t:TE}(h:PE X a t):PE X (.BoolOp op [a] pos) t:=λb s σ H Q I hw=>BoolOp_one (h b s σ H Q I hw)
theorem bD(i:PE X a ta)(j:PE X (.BoolOp .And (b::rest) pos) tb):PE X (.BoolOp .And (a::b::rest) pos) (tAndV ta tb):=by
 intro e s σ H Q I h;refine BoolOp_and (thn (i e s σ H _ I h) λv s1 ⟨x,f,g,r1,d⟩=>?_);obtain⟨c,rfl,d⟩:=d;cases r1;refine Ut ?_
 cases c with
 | true=>exact j e s1 σ f Q g d
 | false=>exact⟨.bl false,f,g,rfl,d⟩
theorem yC(i:PE X a ta)(j:PE X (.BoolOp .Or (b::rest) pos) tb):PE X (.BoolOp .Or (a::b::rest) pos) (tOrV ta tb):=by
 intro e s σ H Q I h;refine BoolOp_or (thn (i e s σ H _ I h) λv s1 ⟨x,f,g,r1,d⟩=>?_);obtain⟨c,rfl,d⟩:=d;cases r1;refine Ut ?_
 cases c with
 | false=>exact j e s1 σ f Q g d
 | true=>exact⟨.bl true,f,g,rfl,d⟩
theorem Dr(e:PE X a ta):PE X (.UnaryOp .Not a pos) (tNotV ta):=by
 intro d s σ H Q I h;refine UnaryOp_ (thn (e d s σ H _ I h) λv s1 ⟨x,f,g,r1,b⟩=>?_);obtain⟨c,rfl,b⟩:=b;cases r1;exact not_of (Ut ⟨.bl (!c),f,g,rfl,b⟩)
def tIf(t:TT)(ta tb:TE):TE:=λσ H Q=>t σ H λc a=>if c=true then ta σ a Q else tb σ a Q
theorem fT{c:Expr}(l:PT X c tA)(j:PE X a ta)(k:PE X b tb):PE X (.IfExp c a b pos) (tIf tA ta tb):=by
 intro e s σ H Q I h;refine wpAny_IfExp (thn (l e s σ H _ I h) λd s1 ⟨g,i,f⟩=>?_)
 cases d with
 | true=>exact j e s1 σ g Q i f
 | false=>exact k e s1 σ g Q i f
end
def SqL(K:Frag)(H:Hp)(a:Addr)(xs:List V):Prop:=
 Rd H a (.lst xs)\/
  ∃(o:Obj) (b:Array Value) (n:Nat),K.lookup a=some o/\o.cls=.type "list"/\o.dict=none/\o.data=.seq b n/\b.size<=sizeLine/\Vals xs b.toList
def SqT(K:Frag)(H:Hp)(a:Addr)(xs:List V):Prop:=
 Rd H a (.tup xs)\/
  ∃(o:Obj) (b:Array Value) (n:Nat),K.lookup a=some o/\o.cls=.type "tuple"/\o.data=.seq b n/\b.size<=sizeLine/\Vals xs b.toList
def absV:Value->Option V
 | .none=>some .non
 | .bool b=>some (.bl b)
 | .int i _=>⇑i
 | .str x _=>some (.str x)
 | .bytes b _=>some (.byt b)
 | .float b _=>some (.flt b)
 | .ref a=>↑a
 | .type n=>some (.ty n)
 | _=>none
variable{u:Value}
theorem RelV.abs{x:V}(r:RelV x u):absV u=some x:=by
 cases x with
 | non=>cases r;rfl
 | bl _=>cases r;rfl
 | int _=>obtain⟨t,rfl⟩:=r;rfl
 | str _=>obtain⟨t,rfl⟩:=r;rfl
 | byt _=>obtain⟨t,rfl⟩:=r;rfl
 | flt _=>obtain⟨t,rfl⟩:=r;rfl
 | ref _=>cases r;rfl
 | ty _=>cases r;rfl
def RelV.inj{x y:V}(r:RelV x u)(q:RelV y u):x=y:=Uw (r.abs.symm.trans q.abs)
theorem Vals.inj:∀{xs ys:List V} {us:List Value},Vals xs us->Vals ys us->xs=ys
 | _,_,_,.nil,.nil=>rfl
 | _,_,_,.cons r t,.cons r' t'=>by rw[r.inj r',Vals.inj t t']
section
variable{X:Cx}{Sk:List (Addr × Obj)}{σ:St}{H:Hp}{s:Shared}{a:Addr}{xs ys:List V}
def SqL.of{K:Frag}(h:H a=↥xs):SqL K H a xs:=.inl (.inl h)
abbrev ST:=@SqL.of
def SqT.of{K:Frag}(h:H a=some (.tup xs)):SqT K H a xs:=.inl (.inl h)
abbrev WO:=@SqT.of
theorem Inv.list(I:Inv X Sk σ H s)(h:SqL X.K H a xs):∃ So:List Value,Vals xs So/\PlainL s.heap a So.toArray/\xs.length<=sizeLine:=by
 rcases h with h | ⟨o,So,n,f,d,b,c,g,r⟩
 . obtain⟨z,So,n,r,e⟩:=h.ok I.hok;exact⟨So,r,⟨_,n,e,rfl,rfl,rfl⟩,z⟩
 . refine⟨So.toList,r,⟨o,n,I.kIn a o f,d,b,by simpa using c⟩,?_⟩;have e:=r.length;simp only[UM]at e;lia
theorem Inv.tuple(I:Inv X Sk σ H s)(h:SqT X.K H a xs):∃ So:List Value,Vals xs So/\IsTup s.heap a So.toArray/\xs.length<=sizeLine:=by
 rcases h with h | ⟨o,So,n,b,d,c,f,r⟩
 . obtain⟨z,So,r,p⟩:=h.ok I.hok;exact⟨So,r,p,z⟩
 . refine⟨So.toList,r,⟨o,I.kIn a o b,d,n,by simpa using c⟩,?_⟩;have e:=r.length;simp only[UM]at e;lia
theorem Inv.list_inj(I:Inv X Sk σ H s)(h:SqL X.K H a xs)(h':SqL X.K H a ys):xs=ys:=by
 obtain⟨i,r,⟨o,n,e,_,_,d⟩,_⟩:=I.list h;obtain⟨b,g,⟨j,k,c,_,_,f⟩,_⟩:=I.list h';rw[e]at c;cases c;rw[d]at f;injection f with d1 _;have:i=b:=by simpa using congrArg Array.toList d1
 subst this;exact r.inj g
theorem Inv.tuple_inj(I:Inv X Sk σ H s)(h:SqT X.K H a xs)(h':SqT X.K H a ys):xs=ys:=by
 obtain⟨i,r,⟨o,e,_,n,d⟩,_⟩:=I.tuple h;obtain⟨b,g,⟨j,c,_,k,f⟩,_⟩:=I.tuple h';rw[e]at c;cases c;rw[d]at f;injection f with d1 _;have:i=b:=by simpa using congrArg Array.toList d1
 subst this;exact r.inj g
end
abbrev Cx.wish(X:Cx)(E:Value->Shared->Prop):Cx:={X with xe:=E}
abbrev Cx.nox(X:Cx):Cx:=X.wish λ_ _=>False
variable{X:Cx}
def Cx.Ok.wish(a:X.Ok)(E:Value->Shared->Prop):(X.wish E).Ok:=
 ⟨a.mod,a.kind,a.glob,a.blt,a.above,a.inj,a.has,a.cab,a.hd,a.frames,a.stk,a.exf,a.bs,a.bsz,a.noex,a.exfs,a.funs,a.frf⟩
variable{E:Value->Shared->Prop}
def Cx.Ok.unwish(a:(X.wish E).Ok):X.Ok:=
 ⟨a.mod,a.kind,a.glob,a.blt,a.above,a.inj,a.has,a.cab,a.hd,a.frames,a.stk,a.exf,a.bs,a.bsz,a.noex,a.exfs,a.funs,a.frf⟩
section
variable{X:Cx}{Sk:List (Addr × Obj)}{σ:St}{H:Hp}{s:Shared}{E:Value->Shared->Prop}
def Inv.wish(I:Inv X Sk σ H s)(E:Value->Shared->Prop):Inv (X.wish E) Sk σ H s:=⟨I.ok.wish E,I.os,I.bare,I.base,I.loc,I.cell,I.free,I.freeC,I.pin,I.hok,I.len⟩
def Inv.unwish(I:Inv (X.wish E) Sk σ H s):Inv X Sk σ H s:=⟨I.ok.unwish,I.os,I.bare,I.base,I.loc,I.cell,I.free,I.freeC,I.pin,I.hok,I.len⟩
theorem SP.unwish{D:Ends}{f:Flow}{s':Shared}(h:SP (X.wish E) Sk D f s'):SP X Sk D f s':=by
 cases f with
 | next=>obtain⟨b,a,I,q⟩:=h;exact⟨b,a,I.unwish,q⟩
 | brk=>obtain⟨b,a,I,q⟩:=h;exact⟨b,a,I.unwish,q⟩
 | cont=>obtain⟨b,a,I,q⟩:=h;exact⟨b,a,I.unwish,q⟩
 | ret u=>obtain⟨v,b,a,I,r,q⟩:=h;exact⟨v,b,a,I.unwish,r,q⟩
def PSs.nox{st:List Stmt}{t:TS}(h:PSs X.nox st t):PSs X st t:=λSk s σ H D I hw=>
 T4 (h Sk s σ H D (I.wish _) hw) (λ_ _ q=>q.unwish) λ_ _ z=>False.elim z
end
section
variable{X:Cx}{st:Stmt}{rest:List Stmt}{t u:TS}{e:Expr}{te:TE}{pos:Pos}
def tNext:TS:=λD σ H=>D.nx σ H
def tSeq(t u:TS):TS:=λD σ H=>t {D with nx:=u D} σ H
def aq:PSs X [] tNext:=λ_ _ σ H _ I h=>VP ⟨σ,H,I,h⟩
theorem ae(h1:PS X st t)(h2:PSs X rest u):PSs X (st::rest) (tSeq t u):=by
 intro a s σ H D I h;refine wpAny_execs_cons (thn (h1 a s σ H {D with nx:=u D} I h) λf s1 q=>?_)
 cases f with
 | next=>
  obtain⟨d,b,c,q⟩:=q;exact h2 a s1 d b D c q
 | ret v=>exact q
 | brk=>exact q
 | cont=>exact q
theorem af(h1:PS X st t):PSs X [st] t:=by
 intro a s σ H D I h;refine wpAny_execs_cons (thn (h1 a s σ H D I h) λf s1 q=>?_)
 cases f with
 | next=>exact VP q
 | ret v=>exact q
 | brk=>exact q
 | cont=>exact q
theorem Inv.quiet{a:List (Addr × Obj)}{σ:St}{H:Hp}{s:Shared}(I:Inv X a σ H s):interactive X.env=false:=by simp[interactive,I.ok.kind]
def tDrop(te:TE):TS:=λD σ H=>te σ H λ_ a=>D.nx σ a
theorem cy(c:PE X e te)(f:swapsWith e none pos.line X.env=pure false:=by rfl):PS X (.Expr e pos) (tDrop te):=by
 intro b s σ H D I h;exact wpAny_Expr_any (thn (c b s σ H _ I h) λv s1 ⟨x,d,g,r1,a⟩=>⟨σ,d,g,a⟩) I.quiet f
def tRet(te:TE):TS:=λD σ H=>te σ H D.rt
theorem ai(c:PE X e te):PS X (.Return (some e) pos) (tRet te):=by
 intro b s σ H D I h;exact wpAny_Return_some (thn (c b s σ H _ I h) λv s1 ⟨x,d,f,r1,a⟩=>⟨x,σ,d,f,r1,a⟩)
def tRetN:TS:=λD _ H=>D.rt .non H
def tIfS(c:TT)(t u:TS):TS:=λD σ H=>c σ H λb a=>if b=true then t D σ a else u D σ a
theorem aw{c:Expr}{a b:List Stmt}{i:TT}(m:PT X c i)(k:PSs X a t)(l:PSs X b u):PS X (.If c a b pos) (tIfS i t u):=by
 intro e s σ H D I h;refine wpAny_If (thn (m e s σ H _ I h) λd s1 ⟨g,j,f⟩=>?_)
 cases d with
 | true=>exact k e s1 σ g D j f
 | false=>exact l e s1 σ g D j f
def db:TS:=λ_ _ _=>False
def b3:PS X st db:=λ_ _ _ _ _ _ h=>h.elim
end
abbrev TG:=V->St->Hp->(St->Hp->Prop)->Prop
abbrev TGs:=List V->St->Hp->(St->Hp->Prop)->Prop
def PG(X:Cx)(a:Expr)(t:TG):Prop:=
 ∀(c:List (Addr × Obj)) (s:Shared) (σ:St) (H:Hp) (v:V) (u:Value) (Q:St->Hp->Prop),Inv X c σ H s->RelV v u->t v σ H Q->
  wpAny (model X.prog X.w) X.A (assign a X.env u) (λ_ e=>∃ d b,Inv X c d b e/\Q d b) X.xe s
def PGs(X:Cx)(ts:List Expr)(t:TGs):Prop:=
 ∀(c:List (Addr × Obj)) (s:Shared) (σ:St) (H:Hp) (vs:List V) (d:List Value) (Q:St->Hp->Prop),Inv X c σ H s->Vals vs d->t vs σ H Q->
  wpAny (model X.prog X.w) X.A (assignInOrder ((assignEach ts X.env).map (·.2)) d) (λ_ e=>∃ b a,Inv X c b a e/\Q b a) X.xe s
abbrev TSet:=V->V->V->Hp->(Hp->Prop)->Prop
def PSet(X:Cx)(t:TSet):Prop:=
 ∀(c:List (Addr × Obj)) (s:Shared) (σ:St) (H:Hp) (o i v:V) (b d u:Value) (Q:Hp->Prop),Inv X c σ H s->RelV o b->RelV i d->RelV v u->t o i v H Q->
  wpAny (model X.prog X.w) X.A (setItem b d u) (λ_ e=>∃ a,Inv X c σ a e/\Q a) X.xe s
section
variable{X:Cx}{pos:Pos}
def gName(i:Nat):TG:=λv σ H Q=>Q (σ.set i (some v)) H
theorem ar{i:Nat}{x:Str}(a:X.N.Nodup)(e:X.N[i]? =some x)(d:Loc X.env.scope x)(c:X.fn x=true\/X.env.scope.names.lookup x=some .local:=by first | exact .inl rfl | exact .inr rfl | assumption):PG X (.Name x pos) (gName i):=by
 intro f s σ H v u Q I r h;exact wpAny_assign_Name (Dq I a e d r (λg b=>⟨_,H,b,h⟩) c)
def gNil:TGs:=λvs σ H Q=>vs=[]/\Q σ H
def gCons(t:TG)(u:TGs):TGs:=λvs σ H Q=>∃ v r,vs=v::r/\t v σ H λb a=>u r b a Q
theorem jL:PGs X [] gNil:=by
 intro b s σ H vs a Q I r h;obtain⟨e,h⟩:=h;subst e;cases r;exact assignInOrder_nil ⟨σ,H,I,h⟩
theorem bA {e:Expr} {a:List Expr} {t:TG} {u:TGs} (h1:PG X e t) (h2:PGs X a u)
  (i:(assignEach (e::a) X.env).map (·.2)=assign e X.env::(assignEach a X.env).map (·.2):=by rfl):PGs X (e::a) (gCons t u):=by
 intro b s σ H vs l Q I r h;obtain⟨v,k,e1,h⟩:=h;subst e1
 cases r with
 | cons r f=>
  rw[i];refine assignInOrder_cons (thn (h1 b s σ H _ _ _ I r h) λ_ s1 ⟨d,g,j,c⟩=>?_);exact h2 b s1 d g _ _ Q j f c
def gTup(K:Frag)(n:Nat)(t:TGs):TG:=λv σ H Q=>∃ a b,v=.ref a/\SqT K H a b/\b.length=n/\t b σ H Q
theorem mr {c:List Expr} {k:Nat} {t:TGs} {n:Nat} (x:X.calm=true) (h:PGs X c t)
  (q:(assignEach c X.env).length=n:=by rfl) (d:(assignEach c X.env).findIdx? (·.1)=none:=by rfl):PG X (.Tuple c k pos) (gTup X.K n t):=by
 intro g s σ H v u Q I r hw;obtain⟨a,m,e1,j,i,hw⟩:=hw;subst e1;cases r;obtain⟨z,f,l,A⟩:=I.tuple j;refine assign_Tuple_tuple (I.ok.hd x) l (by simp[q,← i,f.length]) d λp y=>?_;have w:Inv X g σ H {s with heap:=p}:=I.kept (t':=s.toks) λb o e=>y b o (TB (Tc e)) e;exact h g _ σ H m _ Q w (by simpa using f) hw
def gSub(a b:TE)(t:TSet):TG:=λv σ H Q=>a σ H λo d=>b σ d λi e=>t o i v e λc=>Q σ c
theorem IA {o i:Expr} {e d:TE} {t:TSet} (w:PE X o e) (A:PE X i d) (g:PSet X t)
  (z:∀ v,assign (.Subscript o i pos) X.env v=(do
   let a ← holding [v] (eval o X.env);let b ← holding [v,a] (eval i X.env)
   standAt pos
   holding [v,a,b] (setItem a b v)
   release [v,a,b] []):=by intro _;rfl):PG X (.Subscript o i pos) (gSub e d t):=by
 intro c s σ H v u Q I r h;rw[z];refine To (Wq (thn (w c s σ H _ I h) λa s1 ⟨x,n,D,r1,j⟩=>?_));refine To (Wq (thn (A c s1 σ n _ D j) λb l ⟨y,f,p,B,q⟩=>?_));refine To (WM (To (Wq (thn (g c l σ f x y v a b u _ p r1 B r q) λ_ E ⟨m,C,k⟩=>?_))));exact wpAny_release ⟨σ,m,C,k⟩
def tAsg(te:TE)(g:TG):TS:=λD σ H=>te σ H λx a=>g x σ a D.nx
def yD {a e:Expr} {te:TE} {g:TG} (d:PE X e te) (k:PG X a g) (i:swapsWithSole [a] e pos.line X.env=pure false:=by rfl) (hw:swappedStores [a] e X.env=pure none:=by rfl)
  (h1:(assignEach [a] X.env).map (·.2)=[assign a X.env]:=by rfl):PS X (.Assign [a] e pos) (tAsg te g):=by
 intro b s σ H D I h;refine wpAny_Assign_stores (thn (d b s σ H _ I h) λv s1 ⟨x,f,j,r1,c⟩=>?_) i hw;rw[h1];exact thn (k b s1 σ f x v _ j r1 c) λ_ l q=>q
def cE{i:Nat}{x:Str}{e:Expr}{te:TE}{a:Pos}(d:X.N.Nodup)(o:X.N[i]? =some x)(n:Loc X.env.scope x)(f:PE X e te)(l:swapsWith e (some (.Name x a)) pos.line X.env=pure false:=by rfl)(m:X.fn x=true\/X.env.scope.names.lookup x=some .local:=by first | exact .inl rfl | exact .inr rfl | assumption):
  PS X (.Assign [.Name x a] e pos) (tAsg te (gName i)):=by
 intro c s σ H D I h;refine wpAny_Assign_Name (thn (f c s σ H _ I h) λv s1 ⟨y,g,k,r1,b⟩=>?_) l;exact Dq k d o n r1 (λp j=>⟨_,g,j,b⟩) m
end
section
variable{X:Cx}{pos:Pos}
def Ds(c:TT)(g:TS):TS:=λD σ H=>∃ W:Nat->St->Hp->Prop,(∃ m,W m σ H)/\∀ m σ H,W m σ H->
 c σ H λb d=>if b=true then ∃ N:St->Hp->Prop,(∀ f a,N f a->∃ e,e<m/\W e f a)/\g {D with nx:=N,ct:=N,bk:=D.nx} σ d else D.nx σ d
theorem Dt{c:Expr}{a:List Stmt}{z:TT}{E:TS}(C:PassesOwn (model X.prog X.w) X.A X.env X.xe)(F:PT X c z)(M:PSs X a E):PS X (.While c a [] pos) (Ds z E):=by
 intro m s σ H D I h;obtain⟨W,⟨L,O⟩,turn⟩:=h;refine wpAny_While (codeAny_whileLoop (λn J=>∃ r B,Inv X m r B J/\W n r B) ?_ L ⟨σ,H,I,O⟩);rintro n s1 ⟨j,y,P,K⟩;refine UH C (thn (F m s1 j y _ P (turn n j y K)) λb G ⟨t,x,i⟩=>?_)
 cases b with
 | true=>
  obtain⟨N,u,i⟩:=i;rw[SY rfl];refine UH C (thn (M m G j t _ x i) λf Q g=>?_)
  cases f with
  | next=>
   obtain⟨d,e,q,k⟩:=g;obtain⟨o,p,l⟩:=u d e k;exact⟨o,p,d,e,q,l⟩
  | cont=>
   obtain⟨d,e,q,k⟩:=g;obtain⟨o,p,l⟩:=u d e k;exact⟨o,p,d,e,q,l⟩
  | brk=>exact g
  | ret v=>exact g
 | false=>
  rw[SS SR];exact VP ⟨j,t,x,i⟩
end
structure It where
 go:Nat->Hp->Prop
 yld:Nat->Hp->V->Hp->Prop
 stop:Nat->Hp->Prop
def FpOk(X:Cx)(a:List (Addr × Obj))(H:Hp)(b:Addr):Prop:=
 H b=none/\b≠X.env.locals/\b∉X.fs/\(b∈X.ex\/X.s₀.heap.objs.size<=b)/\(∀ x c,X.env.cells.lookup x=some c->c≠b)/\∀ p∈X.pn++a,p.1≠b
variable{s:Shared}
theorem Inv.fpOk{f:List (Addr × Obj)}{σ:St}{H d:Hp}{b:Addr}(I:Inv X f σ H s)(a:s.heap.objs.size<=b)(h:d b=none):FpOk X f d b:=by
 refine⟨h,V2 (Tl I.lt a),I.nofs a,.inr (SW I.sz a),λx c e z=>?_,λp g z=>?_⟩
 . obtain⟨v,q⟩:=I.cell x c e;exact absurd (Tl q.lt (by rw[z];exact a)) (Uj _)
 . exact absurd (Tl (Tc (I.pin p g).1) (by rw[z];exact a)) (Uj _)
structure Turn(P:Program)(w:World)(K:Frag)(tg:Expr)(J:It)(fp:List Addr)(it:Addr)(tn:Nat->Heap->Prop):Prop where
 mem:it∈fp
 obj:∀ i h,tn i h->∀ b∈fp,∃ o,h.get? b=some o/\∀ v,o.data≠.cell v
 keep:∀ i h h',tn i h->(∀ b∈fp,∀ o,h.get? b=some o->h'.get? b=some o)->tn i h'
 item:∀(X:Cx),X.prog=P->X.w=w->X.K=K->X.calm=true->∀(i:Nat) (Sk:List (Addr × Obj)) (s:Shared) (σ:St) (H:Hp) (E:Value->Shared->Prop),Inv X Sk σ H s->(∀ b∈fp,FpOk X Sk H b)->tn i s.heap->J.go i H->
  wpAny (model P w) X.A (pyNext (.ref it)) (λr s1=>∃ u,r=some u/\
   wpAny (model P w) X.A (letOwnedTupleGo tg (.ref it) u) (λ_ s2=>∃ x H',Inv X Sk σ H' s2/\RelV x u/\J.yld i H x H'/\tn (i+1) s2.heap/\∀ b∈fp,H' b=none) E s1) E s
 done:∀(X:Cx),X.prog=P->X.w=w->X.K=K->X.calm=true->∀(i:Nat) (Sk:List (Addr × Obj)) (s:Shared) (σ:St) (H:Hp) (E:Value->Shared->Prop),Inv X Sk σ H s->(∀ b∈fp,FpOk X Sk H b)->tn i s.heap->J.stop i H->
  wpAny (model P w) X.A (pyNext (.ref it)) (λr s1=>r=none/\Inv X Sk σ H s1) E s
 self:∀(A:Around) (i:Nat) (s:Shared) (Q:Value->Shared->Prop) (E:Value->Shared->Prop),tn i s.heap->Q (.ref it) s->wpAny (model P w) A (pyIter (.ref it)) Q E s
abbrev TI:=St->Hp->(It->Hp->Prop)->Prop
def PIE(X:Cx)(e:List (Addr × Obj))(σ:St)(i:Expr)(R:It->Hp->Prop)(c:Value)(d:Shared):Prop:=
 ∃(g:Addr) (f:List Addr) (h:Nat->Heap->Prop) (J:It) (a:Hp),c=.ref g/\Inv X e σ a d/\Turn X.prog X.w X.K i J f g h/\h 0 d.heap/\(∀ b∈f,FpOk X e a b)/\R J a
def PI(X:Cx)(c a:Expr)(d:TI):Prop:=
 ∀(b:List (Addr × Obj)) (s:Shared) (σ:St) (H:Hp) (R:It->Hp->Prop),Inv X b σ H s->d σ H R->
  wpAny (model X.prog X.w) X.A (eval a X.env) (λv s1=>wpAny (model X.prog X.w) X.A (pyIter v) (PIE X b σ c R) X.xe s1) X.xe s
variable{tg:Expr}
theorem Df {M:Model} {A:Around} {it:Addr} {o:Obj} {n:String} {vs:Array Value} {Q:Unit->Shared->Prop} (b:s.heap.get? it=some o) (e:o.cls=.type n) (c:o.data=.fields vs)
  (d:["enumerate","zip","dict_itemiterator","dict_reverseitemiterator","odict_iterator","itertools.zip_longest","itertools.pairwise"].contains n=false) (a:Q () s):wpAny M A (letOwnedTupleGo tg (.ref it) u) Q E s:=by
 unfold letOwnedTupleGo
 cases tg <;> first
  | exact TL a
  | (cases u <;> first
    | exact TL a
    | (refine To (wpAny_load b ?_)
       rw[e,c];show wpAny M A (if (["enumerate","zip","dict_itemiterator","dict_reverseitemiterator","odict_iterator","itertools.zip_longest","itertools.pairwise"].contains n&&vs[0]? ==some (rawInt _))=true then _ else _) Q E s;rw[SS (by intro h;rw[d,S1]at h;cases h)];exact TL a))
def Itl(K:Frag)(a:Addr):It:=
 ⟨λi H=>∃ b x,SqL K H a b/\b[i]? =some x,λi H x c=>c=H/\∀ b,SqL K H a b->b[i]? =some x,λi H=>∃ b,SqL K H a b/\b.length<=i⟩
def Itt(K:Frag)(a:Addr):It:=
 ⟨λi H=>∃ b x,SqT K H a b/\b[i]? =some x,λi H x c=>c=H/\∀ b,SqT K H a b->b[i]? =some x,λi H=>∃ b,SqT K H a b/\b.length<=i⟩
def Itr(b:Int)(n:Nat):It:=⟨λi _=>i<n,λi H x a=>a=H/\x=.int (b+i),λi _=>n<=i⟩
variable{P:Program}{w:World}{K:Frag}
def IB(a it:Addr):Turn P w K tg (Itl K a) [it] it (λi h=>h.IsListIter it a i) where
 mem:=by simp
 obj:=λi h f b g=>by
  have e:b=it:=by simpa using g
  subst e;obtain⟨o,e,c,d⟩:=f;exact⟨o,e,λv z=>by rw[d]at z;cases z⟩
 keep:=λi h m f k=>f.at λo e=>k it (by simp) o e
 item:=by
  intro X A hw r J i L s σ H E I n f q;subst A hw r;obtain⟨O,x,l,G⟩:=q;obtain⟨Q,C,p,N⟩:=I.list l;obtain⟨u,M,U⟩:=C.get G;obtain⟨F,y,Y,t,D,B⟩:=n it (by simp);refine wpAny_pyNext_list_item f p.isList (x:=u) (by simpa using M) λm j R=>?_;have W:Inv X L σ H {s with heap:=m}:=I.turned (t':=s.toks) (λb o g e=>(R.2 b g).trans e) F y t D B;obtain⟨o,e,c,d⟩:=id j;exact⟨u,rfl,Df (s:={s with heap:=m}) e c d #[1] ⟨x,H,W,U,⟨rfl,λys T=>by rw[I.list_inj T l];exact G⟩,j,λb g=>(n b g).1⟩⟩
 done:=by
  intro X A hw r J i L s σ H E I n f q;subst A hw r;obtain⟨O,l,G⟩:=q;obtain⟨Q,C,p,N⟩:=I.list l;obtain⟨F,y,Y,t,D,B⟩:=n it (by simp);have Z:=C.length;exact wpAny_pyNext_list_end (I.ok.hd J) f p.isList (by simp;omega) λm S=>⟨rfl,I.turned (t':=s.toks) (λb o g e=>S b o g e) F y t D B⟩
 self:=λ_ _ _ _ _ f h=>wpAny_pyIter_listiter f h
def G1(a it:Addr):Turn P w K tg (Itt K a) [it] it (λi h=>h.IsTupleIter it a i) where
 mem:=by simp
 obj:=λi h f b g=>by
  have e:b=it:=by simpa using g
  subst e;obtain⟨o,e,c,d⟩:=f;exact⟨o,e,λv z=>by rw[d]at z;cases z⟩
 keep:=λi h m f k=>f.at λo e=>k it (by simp) o e
 item:=by
  intro X A hw r L i M s σ H E I n f q;subst A hw r;obtain⟨Q,x,l,J⟩:=q;obtain⟨B,D,p,O⟩:=I.tuple l;obtain⟨u,N,U⟩:=D.get J;obtain⟨G,y,Y,t,F,C⟩:=n it (by simp);refine wpAny_pyNext_tuple_item f (show s.heap.IsTuple a B.toArray from p) (x:=u) (by simpa using N) λm j R=>?_;have W:Inv X M σ H {s with heap:=m}:=I.turned (t':=s.toks) (λb o g e=>(R.2 b g).trans e) G y t F C;obtain⟨o,e,c,d⟩:=id j;exact⟨u,rfl,Df (s:={s with heap:=m}) e c d #[1] ⟨x,H,W,U,⟨rfl,λys T=>by rw[I.tuple_inj T l];exact J⟩,j,λb g=>(n b g).1⟩⟩
 done:=by
  intro X A hw r L i M s σ H E I n f q;subst A hw r;obtain⟨Q,l,J⟩:=q;obtain⟨B,D,p,O⟩:=I.tuple l;obtain⟨G,y,Y,t,F,C⟩:=n it (by simp);have Z:=D.length;exact wpAny_pyNext_tuple_end (I.ok.hd L) f (show s.heap.IsTuple a B.toArray from p) (by simp;omega) λm S=>⟨rfl,I.turned (t':=s.toks) (λb o g e=>S b o g e) G y t F C⟩
 self:=λ_ _ _ _ _ f h=>wpAny_pyIter_tupleiter f h
def G3(it:Addr)(f:Int)(n:Nat):Turn P w K tg (Itr f n) [it] it (λi h=>IsRangeIter h it (f+(i:Nat)*1) ((n:Int) - (i:Nat)) 1) where
 mem:=by simp
 obj:=λi h a b c=>by
  have e:b=it:=by simpa using c
  subst e
  exact⟨_,a,λv z=>by
   have D:Data.fields _=Data.cell v:=z;cases D⟩
 keep:=λi h g a k=>k it (by simp) _ a
 item:=by
  intro X u hw p l i C s σ H E I j a m;subst u hw p;obtain⟨A,r,M,q,y,x⟩:=j it (by simp);have W:=Walks.range (prog:=X.prog) (w:=X.w) (I.ok.hd l) it f 1 n;refine W.item i s _ _ m a λv g B G d F=>?_;obtain⟨t,rfl⟩:=G;have L:Inv X C σ H {s with heap:=g,toks:=B}:=I.turned (λb o c e=>F b o (by simpa using c) e) A r q y x;refine⟨_,rfl,Df (s:={s with heap:=g,toks:=B}) (n:="range_iterator") d rfl rfl #[1] ⟨.int (f+i),H,L,⟨t,?_⟩,⟨rfl,rfl⟩,d,λb c=>(j b c).1⟩⟩;rw[Int.mul_one]
 done:=by
  intro X u hw p l i C s σ H E I j a m;subst u hw p;obtain⟨A,r,M,q,y,x⟩:=j it (by simp);exact wpAny_pyNext_range_end (I.ok.hd l) a (by have:n<=i:=m;omega) λg J=>⟨rfl,I.turned (t':=s.toks) (λb o c e=>J b o c e) A r q y x⟩
 self:=λ_ _ _ _ _ a h=>wpAny_pyIter_rangeiter a h
section
variable{X:Cx}{tg:Expr}
def iList(K:Frag)(d:TE):TI:=λσ H R=>d σ H λx b=>∃ a,x=.ref a/\(∃ c,SqL K b a c)/\R (Itl K a) b
def iTup(K:Frag)(d:TE):TI:=λσ H R=>d σ H λx b=>∃ a,x=.ref a/\(∃ c,SqT K b a c)/\R (Itt K a) b
theorem ax{l:Expr}{d:TE}(g:PE X l d):PI X tg l (iList X.K d):=by
 intro j s σ H R I h;refine thn (g j s σ H _ I h) λv s1 ⟨x,k,c,r1,f⟩=>?_;obtain⟨a,e,⟨r,i⟩,q⟩:=f;subst e;cases r1;obtain⟨t,n,p,u⟩:=c.list i;refine Vs p.isList ?_;refine⟨s1.heap.objs.size,[s1.heap.objs.size],_,_,k,rfl,c.kept (t':=s1.toks) λb o e=>S5 _ e,IB a _,⟨_,Ts _ rfl,rfl,rfl⟩,λb m=>?_,q⟩;have e:b=s1.heap.objs.size:=by simpa using m
 subst e;exact c.fpOk (SZ _) (c.hok.fresh (SZ _))
theorem yE{l:Expr}{d:TE}(g:PE X l d):PI X tg l (iTup X.K d):=by
 intro j s σ H R I h;refine thn (g j s σ H _ I h) λv s1 ⟨x,m,c,r1,f⟩=>?_;obtain⟨a,e,⟨t,i⟩,q⟩:=f;subst e;cases r1;obtain⟨k,r,p,u⟩:=c.tuple i;refine wpAny_pyIter_tuple (show s1.heap.IsTuple a k.toArray from p) ?_;refine⟨s1.heap.objs.size,[s1.heap.objs.size],_,_,m,rfl,c.kept (t':=s1.toks) λb o e=>S5 _ e,G1 a _,⟨_,Ts _ rfl,rfl,rfl⟩,λb n=>?_,q⟩;have e:b=s1.heap.objs.size:=by simpa using n
 subst e;exact c.fpOk (SZ _) (c.hok.fresh (SZ _))
theorem Du {d:List (Addr × Obj)} {σ:St} {H:Hp} {s:Shared} {R:It->Hp->Prop} {E:Value->Shared->Prop} {a c:Int} {t u v:Tok} {g:Nat} (I:Inv X d σ H s) (h1: -(2^62)<=a) (h2:a<2^62) (h3: -(2^62)<=c) (h4:c<2^62)
  (q:R (Itr a (c-a).toNat) H):wpAny (model X.prog X.w) X.A (pyIter (.ref s.heap.objs.size)) (PIE X d σ tg R) E {s with heap:=s.heap.push {cls:=.type "range",data:=.fields #[.int a t,.int c u,.int 1 v]},toks:=g}:=by
 refine wpAny_pyIter_range (IsRange.new ..) (small_one h1 h2 h3 h4) ?_;have f:Inv X d σ H {s with heap:=s.heap.push {cls:=.type "range",data:=.fields #[.int a t,.int c u,.int 1 v]},toks:=g}:=I.kept λb o e=>S5 _ e
 refine⟨(s.heap.push {cls:=.type "range",data:=.fields #[.int a t,.int c u,.int 1 v]}).objs.size,[(s.heap.push {cls:=.type "range",data:=.fields #[.int a t,.int c u,.int 1 v]}).objs.size],_,_,H,rfl,
  f.kept (t':=g) λb o e=>S5 _ e,G3 _ a (c-a).toNat,?_,λb h=>?_,q⟩
 . have e1:a+((0:Nat):Int)*1=a:=by simp
   have e2:(((c-a).toNat:Nat):Int) - ((0:Nat):Int)=Builtin.Range.rangeSize a c 1:=by rw[rangeSize_one];split <;> lia
   show IsRangeIter _ _ (a+((0:Nat):Int)*1) ((((c-a).toNat:Nat):Int) - ((0:Nat):Int)) 1;rw[e1,e2];exact Ts _ rfl
 . have e:b=(s.heap.push {cls:=.type "range",data:=.fields #[.int a t,.int c u,.int 1 v]}).objs.size:=by simpa using h
   subst e;exact f.fpOk (SZ _) (f.hok.fresh (SZ _))
def hX(a:TA):TI:=λσ H R=>a σ H λvs b=>∃ j:Int,vs=[.int j]/\ -(2^62)<=j/\j<2^62/\R (Itr 0 j.toNat) b
def vX(a:TA):TI:=λσ H R=>a σ H λvs b=>∃ i j:Int,vs=[.int i,.int j]/\(-(2^62)<=i/\i<2^62/\ -(2^62)<=j/\j<2^62)/\R (Itr i (j-i).toNat) b
theorem d0{a:Expr}{c:TA}{p pos:Pos}(n:Gl X "range")(g:X.mg "range"=none)(d:PA X [a] c)(l:starEach [a] X.env=[(false,eval a X.env)]:=by rfl):PI X tg (.Call (.Name "range" p) [a] [] pos) (hX c):=by
 intro f s σ H R I h;refine Call_ (fv I n g WN (Tt (thn (d pos f s σ H _ I h) λu s1 ⟨vs,o,m,r1,b⟩=>?_) l rfl));obtain⟨j,e,b,k,q⟩:=b;subst e
 cases r1 with
 | cons r i=>
  cases i;obtain⟨t,rfl⟩:=r;exact call_range_1 (Du m #[4] #[4] b k (by simpa using q))
theorem Bp{a b:Expr}{g:TA}{p pos:Pos}(y:Gl X "range")(o:X.mg "range"=none)(m:PA X [a,b] g)(w:starEach [a,b] X.env=[(false,eval a X.env),(false,eval b X.env)]:=by rfl)(c:starEach [b] X.env=[(false,eval b X.env)]:=by rfl):
  PI X tg (.Call (.Name "range" p) [a,b] [] pos) (vX g):=by
 intro n s σ H R I h;refine Call_ (fv I y o WN (Tt (thn (m pos n s σ H _ I h) λB s1 ⟨vs,A,x,r1,d⟩=>?_) (by rw[w,c]) (by rw[c];rfl)));obtain⟨i,j,e,⟨d,u,l,v⟩,q⟩:=d;subst e
 cases r1 with
 | cons r f=>
  cases f with
  | cons k f=>
   cases f;obtain⟨t,rfl⟩:=r;obtain⟨z,rfl⟩:=k;exact call_range_2 (Du x d u l v q)
def tFor(f:TI)(g:TG)(d:TS):TS:=λD σ H=>f σ H λJ e=>∃ W:Nat->Nat->St->Hp->Prop,(∃ m,W 0 m σ e)/\∀ i m σ H,W i m σ H->
 (J.stop i H/\D.nx σ H)\/(J.go i H/\∃ N:St->Hp->Prop,(∀ c a,N c a->∃ b,b<m/\W (i+1) b c a)/\∀ x a,J.yld i H x a->g x σ a λh j=>d {D with nx:=N,ct:=N,bk:=D.nx} h j)
def ur(fp:List Addr)(h:Heap):List (Addr × Obj):=fp.filterMap λb=>(h.get? b).map λo=>(b,o)
def nO{fp:List Addr}{h:Heap}{b:Addr}{o:Obj}(a:b∈fp)(e:h.get? b=some o):(b,o)∈ur fp h:=List.mem_filterMap.mpr ⟨b,a,by rw[e];rfl⟩
theorem IC{fp:List Addr}{h:Heap}{p:Addr × Obj}(d:p∈ur fp h):p.1∈fp/\h.get? p.1=some p.2:=by
 obtain⟨b,c,e⟩:=List.mem_filterMap.mp d
 cases q:h.get? b with
 | none=>rw[q]at e;cases e
 | some o=>
  rw[q]at e;have a:(b,o)=p:=Uw e;subst a;exact⟨c,q⟩
def Inv.pinned{a:List (Addr × Obj)}{σ:St}{H:Hp}{s:Shared}{fp:List Addr}(I:Inv X a σ H s)(k:∀ b∈fp,FpOk X a H b)(g:∀ b∈fp,∃ o,s.heap.get? b=some o/\∀ v,o.data≠.cell v):Inv X (a++ur fp s.heap) σ H s:=
 I.pins_of λp i=>(SX.mp i).elim (λz=>I.pin p (Tu _ z)) λz=>by
  obtain⟨f,e⟩:=IC z;obtain⟨j,h,l,_⟩:=k p.1 f;obtain⟨o,c,d⟩:=g p.1 f;rw[e]at c;cases c;exact⟨e,j,h,l,d⟩
def Inv.unpinned{a pl:List (Addr × Obj)}{σ:St}{H:Hp}{s:Shared}(I:Inv X (a++pl) σ H s):Inv X a σ H s:=I.pins_of λp b=>I.pin p (Tu _ (TZ _ b))
theorem bq {k:Expr} {y:List Stmt} {wi:TI} {g:TG} {tb:TS} {pos:Pos} (M:PassesOwn (model X.prog X.w) X.A X.env X.xe) (hc:X.calm=true) (hi:PI X tg k wi) (hg:PG X tg g) (p:PSs X y tb)
  (hs:∀ x,foldedSetIterable k X.env x=pure x:=by intro _;rfl):PS X (.For tg k y [] pos) (tFor wi g tb):=by
 intro B s σ H D I h;refine wpAny_For (thn (hi B s σ H _ I h) λv s1 h1=>thn h1 λac s2 h2=>?_) hs;obtain⟨it,Q,tn,J,H2,e,I2,T,Y,f2,W,⟨m0,w0⟩,turn⟩:=h2;subst e;have c:∀{t:Hp},(∀ b∈Q,t b=none)->∀ b∈Q,FpOk X B t b:=λhn b p=>⟨hn b p,(f2 b p).2⟩;refine codeAny_forLoop_any (λn s'=>∃ i F t,Inv X B F t s'/\tn i s'.heap/\(∀ b∈Q,t b=none)/\W i n F t) ?_ m0 ⟨0,σ,H2,I2,Y,λb p=>(f2 b p).1,w0⟩;rintro n s3 ⟨i,G,R,I3,L,E,w3⟩;rcases turn i n G R w3 with ⟨K,qn⟩ | ⟨go,N,hN,P⟩
 . refine UH M (thn (T.done X rfl rfl rfl hc i B s3 G R X.xe I3 (c E) L K) λr s4 ⟨U,I4⟩=>?_);subst U;exact VP ⟨G,R,I4,qn⟩
 . refine UH M (thn (T.item X rfl rfl rfl hc i B s3 G R X.xe I3 (c E) L go) λr s4 ⟨u,U,h4⟩=>?_);subst U;refine UH M (thn h4 λ_ s5 ⟨x,H5,I5,r5,y5,C,S⟩=>?_);have ab:=I5.pinned (c S) (T.obj _ _ C);refine UH M (thn (hg _ s5 G H5 x u _ ab r5 (P x H5 y5)) λ_ s6 ⟨σ6,H6,I6,q6⟩=>?_);refine UH M (thn (p _ s6 σ6 H6 _ I6 q6) λf Z z=>?_)
   have l:∀{q:St} {j:Hp},Inv X (B++ur Q s5.heap) q j Z->N q j->∃ m,m<n/\∃ i F t,Inv X B F t Z/\tn i Z.heap/\(∀ b∈Q,t b=none)/\W i m F t:=λ{q j} a O=>by
    obtain⟨m',hm,w7⟩:=hN q j O;refine⟨m',hm,i+1,q,j,a.unpinned,T.keep _ _ _ C λb p o e=>(a.pin (b,o) (Tu _ (Tu _ (nO p e)))).1,λb p=>?_,w7⟩;obtain⟨o,e,d⟩:=T.obj _ _ C b p;exact(a.pin (b,o) (Tu _ (Tu _ (nO p e)))).2.1
   cases f with
   | next=>obtain⟨q,j,a,O⟩:=z;exact l a O
   | cont=>obtain⟨q,j,a,O⟩:=z;exact l a O
   | brk=>obtain⟨q,j,a,z⟩:=z;exact⟨q,j,a.unpinned,z⟩
   | ret v=>obtain⟨x7,q,j,a,r7,z⟩:=z;exact⟨x7,q,j,a.unpinned,r7,z⟩
end
theorem bg {K:Frag} {a:Addr} {xs:List V} {g:TG} {k:TS} {D:Ends} {σ:St} {H:Hp} (b:Nat->St->Hp->Prop) (h0:b 0 σ H) (l:∀ i σ H,i<=xs.length->b i σ H->SqL K H a xs)
  (o:∀ i x σ H,xs[i]? =some x->b i σ H->g x σ H λf j=>k {D with nx:=b (i+1),ct:=b (i+1),bk:=D.nx} f j) (n:∀ σ H,b xs.length σ H->D.nx σ H):
  ∃ W:Nat->Nat->St->Hp->Prop,(∃ m,W 0 m σ H)/\∀ i m σ H,W i m σ H->
   ((Itl K a).stop i H/\D.nx σ H)\/((Itl K a).go i H/\∃ N:St->Hp->Prop,(∀ h c,N h c->∃ m',m'<m/\W (i+1) m' h c)/\∀ x c,(Itl K a).yld i H x c->g x σ c λf j=>k {D with nx:=N,ct:=N,bk:=D.nx} f j):=by
 refine⟨λi m σ H=>m=xs.length-i/\i<=xs.length/\b i σ H,⟨xs.length,by simp,TF _,h0⟩,?_⟩;rintro i m σ H ⟨rfl,s,p⟩;have q:=l i σ H s p;by_cases d:i<xs.length
 . refine .inr ⟨⟨xs,xs[i],q,by simp[d]⟩,b (i+1),λh c r=>⟨xs.length - (i+1),by lia,rfl,d,r⟩,λx c y=>?_⟩;obtain⟨e,y⟩:=y;subst e;exact o i x σ _ (y xs q) p
 . have e:i=xs.length:=by lia
   subst e;exact .inl ⟨⟨xs,q,SZ _⟩,n σ H p⟩
theorem pA {d:Int} {n:Nat} {g:TG} {k:TS} {D:Ends} {σ:St} {H:Hp} (b:Nat->St->Hp->Prop) (h0:b 0 σ H)
  (o:∀ i σ H,i<n->b i σ H->g (.int (d+i)) σ H λf j=>k {D with nx:=b (i+1),ct:=b (i+1),bk:=D.nx} f j) (l:∀ σ H,b n σ H->D.nx σ H):
  ∃ W:Nat->Nat->St->Hp->Prop,(∃ m,W 0 m σ H)/\∀ i m σ H,W i m σ H->
   ((Itr d n).stop i H/\D.nx σ H)\/((Itr d n).go i H/\∃ N:St->Hp->Prop,(∀ h a,N h a->∃ m',m'<m/\W (i+1) m' h a)/\∀ x a,(Itr d n).yld i H x a->g x σ a λf j=>k {D with nx:=N,ct:=N,bk:=D.nx} f j):=by
 refine⟨λi m σ H=>m=n-i/\i<=n/\b i σ H,⟨n,by simp,TF _,h0⟩,?_⟩;rintro i m σ H ⟨rfl,r,p⟩;by_cases c:i<n
 . refine .inr ⟨c,b (i+1),λh a q=>⟨n - (i+1),by lia,rfl,c,q⟩,λx a y=>?_⟩;obtain⟨e,y⟩:=y;subst e y;exact o i σ _ c p
 . have e:i=n:=by lia
   subst e;exact .inl ⟨SZ _,l σ H p⟩
abbrev R2:=V->V->Hp->VK->Prop
def OpR(X:Cx)(f:Value->Value->Sem Value)(r:R2):Prop:=
 ∀(a:List (Addr × Obj)) (s:Shared) (σ:St) (H:Hp) (x y:V) (v u:Value) (Q:VK),Inv X a σ H s->RelV x v->RelV y u->r x y H Q->
  wpAny (model X.prog X.w) X.A (f v u) (EP X a σ Q) X.xe s
def UnR(X:Cx)(f:Value->Sem Value)(r:V->Hp->VK->Prop):Prop:=
 ∀(a:List (Addr × Obj)) (s:Shared) (σ:St) (H:Hp) (x:V) (v:Value) (Q:VK),Inv X a σ H s->RelV x v->r x H Q->
  wpAny (model X.prog X.w) X.A (f v) (EP X a σ Q) X.xe s
def CallR(X:Cx)(f:Value)(r:List V->Hp->VK->Prop):Prop:=
 ∀(c:List (Addr × Obj)) (s:Shared) (σ:St) (H:Hp) (a:List V) (b:List Value) (Q:VK),Inv X c σ H s->Vals a b->r a H Q->
  wpAny (model X.prog X.w) X.A (call f b) (EP X c σ Q) X.xe s
def tOp(r:R2)(b c:TE):TE:=λσ H Q=>b σ H λx d=>c σ d λy a=>r x y a Q
def tUn(r:V->Hp->VK->Prop)(a:TE):TE:=λσ H Q=>a σ H λx b=>r x b Q
def rI(C:Int->Int->Prop)(g:Int->Int->V):R2:=λx y H Q=>∃ i j,x=.int i/\y=.int j/\C i j/\Q (g i j) H
def rI0(g:Int->Int->V):R2:=λx y H Q=>∃ i j,x=.int i/\y=.int j/\Q (g i j) H
def rU(g:Int->V):V->Hp->VK->Prop:=λx H Q=>∃ i,x=.int i/\Q (g i) H
section
variable{X:Cx}{a b c:Expr}{ta tb tc:TE}{pos:Pos}
theorem binT (k:PE X a ta) (l:PE X b tb) {e:List (Addr × Obj)} {s:Shared} {σ:St} {H:Hp} {R:V->V->Hp->Prop} (I:Inv X e σ H s)
  (h:ta σ H λx g=>tb σ g λy c=>R x y c) {Q:Value->Shared->Prop} {f:Value->Value->Sem Value}
  (q:∀ v u d x y c,Inv X e σ c d->RelV x v->RelV y u->R x y c->wpAny (model X.prog X.w) X.A (f v u) Q X.xe d):
  wpAny (model X.prog X.w) X.A (eval a X.env) (λv n=>wpAny (model X.prog X.w) X.A (eval b X.env) (λu r=>wpAny (model X.prog X.w) X.A (f v u) Q X.xe r) X.xe n) X.xe s:=by
 refine thn (k e s σ H _ I h) λv s1 ⟨x,g,o,r1,i⟩=>?_;refine thn (l e s1 σ g _ o i) λu d ⟨y,c,m,j,p⟩=>?_;exact q v u d x y c m r1 j p
theorem av{c:Operator}{r:R2}(d:OpR X (binaryOp c) r)(g:PE X a ta)(k:PE X b tb):PE X (.BinOp a c b pos) (tOp r ta tb):=by
 intro i s σ H Q I h;exact wpAny_BinOp (binT g k I h λv u f x y m l e j q=>d i f σ m x y v u Q l e j q)
theorem G4{c:UnaryOp}{r:V->Hp->VK->Prop}(e:UnR X (unaryOp c) r)(f:PE X a ta):PE X (.UnaryOp c a pos) (tUn r ta):=by
 intro b s σ H Q I h;exact UnaryOp_ (thn (f b s σ H _ I h) λv s1 ⟨x,g,i,r1,d⟩=>e b s1 σ g x v Q i r1 d)
theorem opI {f:Value->Value->Sem Value} {C:Int->Int->Prop} {g:Int->Int->Int}
  (a:∀(i j:Int) (t u:Tok) (s:Shared) (Q:Value->Shared->Prop) (E:Value->Shared->Prop),C i j->Q (.int (g i j) s.toks) {s with toks:=s.toks+1}->wpAny (model X.prog X.w) X.A (f (.int i t) (.int j u)) Q E s):
  OpR X f (rI C λi j=>.int (g i j)):=by
 intro k s σ H x y v u Q I c d h;obtain⟨i,j,rfl,rfl,e,q⟩:=h;obtain⟨t,rfl⟩:=c;obtain⟨b,rfl⟩:=d;exact a i j t b s _ _ e ⟨.int (g i j),H,I.tok _,⟨_,rfl⟩,q⟩
theorem Kt {f:Value->Value->Sem Value} {g:Int->Int->Int}
  (a:∀(i j:Int) (t u:Tok) (s:Shared) (Q:Value->Shared->Prop) (E:Value->Shared->Prop),Q (.int (g i j) s.toks) {s with toks:=s.toks+1}->wpAny (model X.prog X.w) X.A (f (.int i t) (.int j u)) Q E s):
  OpR X f (rI0 λi j=>.int (g i j)):=by
 intro e s σ H x y v u Q I c d h;obtain⟨i,j,rfl,rfl,q⟩:=h;obtain⟨t,rfl⟩:=c;obtain⟨b,rfl⟩:=d;exact a i j t b s _ _ ⟨.int (g i j),H,I.tok _,⟨_,rfl⟩,q⟩
theorem G5 {f:Value->Value->Sem Value} {g:Int->Int->Bool}
  (a:∀(i j:Int) (t u:Tok) (s:Shared) (Q:Value->Shared->Prop) (E:Value->Shared->Prop),Q (.bool (g i j)) s->wpAny (model X.prog X.w) X.A (f (.int i t) (.int j u)) Q E s):
  OpR X f (rI0 λi j=>.bl (g i j)):=by
 intro e s σ H x y v u Q I c d h;obtain⟨i,j,rfl,rfl,q⟩:=h;obtain⟨t,rfl⟩:=c;obtain⟨b,rfl⟩:=d;exact a i j t b s _ _ ⟨.bl (g i j),H,I,rfl,q⟩
def CDiv(i j:Int):Prop:=0<j/\j<1073741824
def CPow(i j:Int):Prop:=0<=j/\j<=1000000/\i.natAbs<2^64
def CMul(i j:Int):Prop:=(-(2^64)<i/\i<2^64)\/(-(2^64)<j/\j<2^64)
theorem CMul.ok{i j:Int}(h:CMul i j):IntMulOk i j:=by
 rcases h with ⟨h1,h2⟩ | ⟨h1,h2⟩
 . exact .of_left (intBits_le_64 h1 h2)
 . exact .of_right (intBits_le_64 h1 h2)
theorem G6(k:Nat):(0:Int)<=2^k:=by
 rw[two_pow_cast];exact Int.natCast_nonneg _
def MY:OpR X (binaryOp .Add) (rI0 λi j=>.int (i+j)):=Kt λ_ _ _ _ _ _ _ q=>add_int q
def MZ:OpR X (binaryOp .Sub) (rI0 λi j=>.int (i-j)):=Kt λ_ _ _ _ _ _ _ q=>sub_int q
def M0:OpR X (binaryOp .Mult) (rI CMul λi j=>.int (i*j)):=opI λ_ _ _ _ _ _ _ a q=>mul_int q a.ok
def LN:OpR X (binaryOp .FloorDiv) (rI CDiv λi j=>.int (i/j)):=opI λi j _ _ _ _ _ a q=>by
 have h1:(0:Int)<j:=a.1;have h2:j<1073741824:=a.2;exact floordiv_int #[0] (by rw[V7 i #[0]];exact q) (.inl (PyProof.noPylong_small #[0]))
def M2:OpR X (binaryOp .Mod) (rI (λ_ j=>0<j) λi j=>.int (i%j)):=opI λi j _ _ _ _ _ a q=>by
 have h1:(0:Int)<j:=a;exact mod_int' #[0] (by rw[Int.fmod_eq_emod_of_nonneg i #[0]];exact q)
def M3:OpR X (binaryOp .Pow) (rI CPow λi j=>.int (i^j.toNat)):=opI λ_ _ _ _ _ _ _ a q=>pow_int_small a.1 a.2.1 a.2.2 q
def M4:OpR X (binaryOp .RShift) (rI (λ_ j=>0<=j) λi j=>.int (i/2^j.toNat)):=opI λi j _ _ _ _ _ a q=>
 rshift_int a (by rw[V7 i (G6 _)];exact q)
def Om:OpR X (binaryOp .BitOr) (rI0 λi j=>.int (Builtin.bitOr i j)):=Kt λ_ _ _ _ _ _ _ q=>or_int q
theorem unI {f:Value->Sem Value} {g:Int->Int}
  (a:∀(i:Int) (t:Tok) (s:Shared) (Q:Value->Shared->Prop) (E:Value->Shared->Prop),Q (.int (g i) s.toks) {s with toks:=s.toks+1}->wpAny (model X.prog X.w) X.A (f (.int i t)) Q E s):
  UnR X f (rU λi=>.int (g i)):=by
 intro c s σ H x v Q I b h;obtain⟨i,rfl,q⟩:=h;obtain⟨t,rfl⟩:=b;exact a i t s _ _ ⟨.int (g i),H,I.tok _,⟨_,rfl⟩,q⟩
def Dv:UnR X (unaryOp .USub) (rU λi=>.int (-i)):=unI λ_ _ _ _ _ q=>neg_int q
end
def scal:V->V->Bool
 | .non,.non=>true | .non,.int _=>true | .int _,.non=>true | .non,.bl _=>true | .bl _,.non=>true | .non,.str _=>true | .str _,.non=>true
 | .int _,.int _=>true | .bl _,.bl _=>true | .str _,.str _=>true | .byt _,.byt _=>true
 | .int _,.str _=>true | .str _,.int _=>true | .bl _,.str _=>true | .str _,.bl _=>true
 | _,_=>false
def rEq:R2:=λx y H Q=>scal x y=true/\Q (.bl (decide (x=y))) H
def rNe:R2:=λx y H Q=>scal x y=true/\Q (.bl (!decide (x=y))) H
theorem Gj{i j:Int}:decide (V.int i=V.int j)=(i==j):=by
 rw[Tb];simp
theorem ID{i j:Bool}:decide (V.bl i=V.bl j)=(i==j):=by
 rw[Tb];simp
theorem Gk{i j:Str}:decide (V.str i=V.str j)=(i==j):=by
 rw[Tb];simp
theorem Gm{i j:Array UInt8}:decide (V.byt i=V.byt j)=(i.toList==j.toList):=by
 rw[Tb];cases i;cases j;simp
section
variable{X:Cx}{a b c:Expr}{ta tb tc:TE}{pos:Pos}
theorem a7{b:List (Addr × Obj)}{σ:St}{H:Hp}{s:Shared}{Q:VK}{k a:Bool}(I:Inv X b σ H s)(q:Q (.bl k) H)(e:k=a):EP X b σ Q (.bool a) s:=by
 subst e;exact⟨.bl k,H,I,rfl,q⟩
theorem G7:OpR X (compareOp .Eq) rEq:=by
 intro e s σ H x y v u Q I d a h;obtain⟨c,q⟩:=h
 cases x with
 | non=>
  cases d
  cases y with
  | non=>cases a;exact PySem.EqNone.eq_none_none (a7 I q (by simp))
  | bl j=>cases a;exact PySem.EqNone.eq_none_bool (a7 I q (by simp))
  | int j=>obtain⟨b,rfl⟩:=a;exact PySem.EqNone.eq_none_int (a7 I q (by simp))
  | str j=>obtain⟨b,rfl⟩:=a;exact PySem.EqNone.eq_none_str (a7 I q (by simp))
  | _=>exact absurd (show false=true from c) SR
 | bl i=>
  cases d
  cases y with
  | non=>cases a;exact PySem.EqNone.eq_bool_none (a7 I q (by simp))
  | bl j=>cases a;exact eq_bool (a7 I q ID)
  | str j=>obtain⟨b,rfl⟩:=a;exact PySem.EqMixed.eq_bool_str (a7 I q (by simp))
  | _=>exact absurd (show false=true from c) SR
 | int i=>
  obtain⟨t,rfl⟩:=d
  cases y with
  | non=>cases a;exact PySem.EqNone.eq_int_none (a7 I q (by simp))
  | int j=>obtain⟨b,rfl⟩:=a;exact eq_int (a7 I q Gj)
  | str j=>obtain⟨b,rfl⟩:=a;exact PySem.EqMixed.eq_int_str (a7 I q (by simp))
  | _=>exact absurd (show false=true from c) SR
 | str i=>
  obtain⟨t,rfl⟩:=d
  cases y with
  | non=>cases a;exact PySem.EqNone.eq_str_none (a7 I q (by simp))
  | bl j=>cases a;exact PySem.EqMixed.eq_str_bool (a7 I q (by simp))
  | int j=>obtain⟨b,rfl⟩:=a;exact PySem.EqMixed.eq_str_int (a7 I q (by simp))
  | str j=>obtain⟨b,rfl⟩:=a;exact eq_str (a7 I q Gk)
  | _=>exact absurd (show false=true from c) SR
 | byt i=>
  obtain⟨t,rfl⟩:=d
  cases y with
  | byt j=>obtain⟨b,rfl⟩:=a;exact PySem.W.eq_bytes (a7 I q Gm)
  | _=>exact absurd (show false=true from c) SR
 | _=>cases y <;> exact absurd (show false=true from c) SR
theorem G8:OpR X (compareOp .NotEq) rNe:=by
 intro e s σ H x y v u Q I d a h;obtain⟨c,q⟩:=h
 cases x with
 | non=>
  cases d
  cases y with
  | non=>cases a;exact PySem.EqNone.ne_none_none (a7 I q (by simp))
  | bl j=>cases a;exact PySem.EqNone.ne_none_bool (a7 I q (by simp))
  | int j=>obtain⟨b,rfl⟩:=a;exact PySem.EqNone.ne_none_int (a7 I q (by simp))
  | str j=>obtain⟨b,rfl⟩:=a;exact PySem.EqNone.ne_none_str (a7 I q (by simp))
  | _=>exact absurd (show false=true from c) SR
 | bl i=>
  cases d
  cases y with
  | non=>cases a;exact PySem.EqNone.ne_bool_none (a7 I q (by simp))
  | bl j=>cases a;exact ne_bool (a7 I q (congrArg not ID))
  | str j=>obtain⟨b,rfl⟩:=a;exact PySem.EqMixed.ne_bool_str (a7 I q (by simp))
  | _=>exact absurd (show false=true from c) SR
 | int i=>
  obtain⟨t,rfl⟩:=d
  cases y with
  | non=>cases a;exact PySem.EqNone.ne_int_none (a7 I q (by simp))
  | int j=>obtain⟨b,rfl⟩:=a;exact ne_int (a7 I q (congrArg not Gj))
  | str j=>obtain⟨b,rfl⟩:=a;exact PySem.EqMixed.ne_int_str (a7 I q (by simp))
  | _=>exact absurd (show false=true from c) SR
 | str i=>
  obtain⟨t,rfl⟩:=d
  cases y with
  | non=>cases a;exact PySem.EqNone.ne_str_none (a7 I q (by simp))
  | bl j=>cases a;exact PySem.EqMixed.ne_str_bool (a7 I q (by simp))
  | int j=>obtain⟨b,rfl⟩:=a;exact PySem.EqMixed.ne_str_int (a7 I q (by simp))
  | str j=>obtain⟨b,rfl⟩:=a;exact ne_str (a7 I q (congrArg not Gk))
  | _=>exact absurd (show false=true from c) SR
 | byt i=>
  obtain⟨t,rfl⟩:=d
  cases y with
  | byt j=>obtain⟨b,rfl⟩:=a;exact PySem.W.ne_bytes (a7 I q (congrArg not Gm))
  | _=>exact absurd (show false=true from c) SR
 | _=>cases y <;> exact absurd (show false=true from c) SR
def On:OpR X (compareOp .Lt) (rI0 λi j=>.bl (decide (i<j))):=G5 λ_ _ _ _ _ _ _ q=>lt_int q
def Oo:OpR X (compareOp .LtE) (rI0 λi j=>.bl (decide (i<=j))):=G5 λ_ _ _ _ _ _ _ q=>le_int q
def Op:OpR X (compareOp .Gt) (rI0 λi j=>.bl (decide (j<i))):=G5 λ_ _ _ _ _ _ _ q=>gt_int q
def Oq:OpR X (compareOp .GtE) (rI0 λi j=>.bl (decide (j<=i))):=G5 λ_ _ _ _ _ _ _ q=>ge_int q
theorem IE:OpR X (compareOp .In) (λx y H Q=>∃ i j,x=.str i/\y=.str j/\Q (.bl (!(Builtin.Str.occurrences j i 0 j.length 1).isEmpty)) H):=by
 intro d s σ H x y v u Q I b a h;obtain⟨i,j,rfl,rfl,q⟩:=h;obtain⟨t,rfl⟩:=b;obtain⟨c,rfl⟩:=a;exact in_str (a7 I q rfl)
theorem Dw:OpR X (compareOp .Is) (λx y H Q=>y=.non/\Q (.bl (decide (x=.non))) H):=by
 intro c s σ H x y v u Q I a b h;obtain⟨rfl,q⟩:=h;cases b;refine is_none_gen (a7 I q ?_)
 cases x <;> first
  | (cases a;rfl)
  | (obtain⟨t,rfl⟩:=a;rfl)
theorem Gn:OpR X (compareOp .IsNot) (λx y H Q=>y=.non/\Q (.bl (!decide (x=.non))) H):=by
 intro c s σ H x y v u Q I a b h;obtain⟨rfl,q⟩:=h;cases b;refine isnot_none_gen (a7 I q ?_)
 cases x <;> first
  | (cases a;rfl)
  | (obtain⟨t,rfl⟩:=a;rfl)
theorem ak(b:Expr){a:CmpOp}(h:a≠.In:=by decide)(h2:a≠.NotIn:=by decide):behindInMarks a b=false:=by
 have e1:(a==CmpOp.In)=false:=by cases a <;> first | rfl | exact absurd rfl h
 have e2:(a==CmpOp.NotIn)=false:=by cases a <;> first | rfl | exact absurd rfl h2
 cases b <;> simp[behindInMarks,e1,e2]
theorem aC{c:CmpOp}{r:R2}(d:OpR X (compareOp c) r)(g:PE X a ta)(l:PE X b tb)(j:behindInMarks c b=false):PE X (.Compare a [c] [b] pos) (tOp r ta tb):=by
 intro i s σ H Q I h;exact wpAny_Compare1 (binT g l I h λv u f x y n m e k q=>d i f σ n x y v u Q m e k q) j
def tTest(t:TE):TT:=λσ H Q=>t σ H λx a=>∃ k,x=.bl k/\Q k a
theorem ao{d:CmpOp}{r:R2}(t:OpR X (compareOp d) r)(w:PE X a ta)(C:PE X b tb)(B:behindInMarks d b=false):PT X (.Compare a [d] [b] pos) (tTest (tOp r ta tb)):=by
 intro f s σ H Q I h
 refine wpAny_isTrue_Compare1 (thn (w f s σ H _ I h) λv s1 ⟨x,n,E,r1,i⟩=>thn (C f s1 σ n _ E i) λu l ⟨y,g,o,A,p⟩=>
  thn (t f l σ g x y v u _ o r1 A p) λc F ⟨z,m,D,q,k,e,j⟩=>?_) B
 subst e;cases q;exact Ut ⟨m,D,j⟩
theorem ut:(sizeLine:Nat)<2^63:=by rw[sizeLine_eq];decide
theorem G9:OpR X (binaryOp .Add) (λx y H Q=>∃ i j,x=.str i/\y=.str j/\i.length+j.length<=sizeLine/\Q (.str (i++j)) H):=by
 intro e s σ H x y v u Q I b c h;obtain⟨i,j,rfl,rfl,d,q⟩:=h;obtain⟨t,rfl⟩:=b;obtain⟨a,rfl⟩:=c;exact add_str (λa f=>⟨.str (i++j),H,I.tok _,⟨_,rfl⟩,q⟩) d
theorem dN{x:V}{us:List Value}(r:Vals [x] us):∃ u,us=[u]/\RelV x u:=by
 cases r with
 | cons r1 a=>cases a;exact⟨_,rfl,r1⟩
theorem Ha{x y:V}{us:List Value}(r:Vals [x,y] us):∃ u a,us=[u,a]/\RelV x u/\RelV y a:=by
 cases r with
 | cons r1 d=>
  cases d with
  | cons b c=>cases c;exact⟨_,_,rfl,r1,b⟩
theorem IF(b:X.calm=true):CallR X (.builtin "max") (λxs H Q=>∃ i j,xs=[.int i,.int j]/\Q (.int (if j>i then j else i)) H):=by
 intro d s σ H xs g Q I r h;obtain⟨i,j,rfl,q⟩:=h;obtain⟨u,e,rfl,⟨t,rfl⟩,⟨c,rfl⟩⟩:=Ha r;refine max_two_ints (I.ok.hd b) λf l k=>⟨_,H,I.kept k,?_,q⟩;by_cases a:j>i
 . rw[SY a,SY a];exact⟨_,rfl⟩
 . rw[SS a,SS a];exact⟨_,rfl⟩
theorem Bq:CallR X (.type "int") (λxs H Q=>(∃ i,xs=[.int i]/\Q (.int i) H)\/∃ k,xs=[.bl k]/\Q (.int (if k then 1 else 0)) H):=by
 intro b s σ H xs a Q I r h;rcases h with ⟨i,rfl,q⟩ | ⟨k,rfl,q⟩
 . obtain⟨u,rfl,t,rfl⟩:=dN r;exact call_int_int ⟨.int i,H,I,⟨_,rfl⟩,q⟩
 . obtain⟨u,rfl,r1⟩:=dN r;cases r1;exact call_int_bool ⟨.int (if k then 1 else 0),H,I.tok _,⟨_,rfl⟩,q⟩
end
structure ObjM(h:Heap)(x dx C:Addr)(mA:Str->Option Value):Prop where
 obj:h.get? x=some (PySem.W.instObj C dx)
 ns:h.Ns1 dx mA
 ne:dx≠x
variable{mA:Str->Option Value}
theorem IG{h:Heap}{c:Addr}(n:h.Ns1 c mA):∃ f,h.get? c=some f/\∀ name,PySem.W.lookIn name f=some (mA name):=by
 obtain⟨o,d,p,g,k,m,_,i⟩:=n;refine⟨o,g,λname=>?_⟩;have e:=i name;unfold nsFind findBy at e;rw[← Array.find?_toList]at e;unfold PySem.W.lookIn;rw[k];dsimp only
 split
 . rename_i y q
   rw[q]at e;exact congrArg some e
 . rename_i q
   rw[q]at e
   have a:d.toList.any (·.refKey)=false:=by
    rw[Vt];intro y l;obtain⟨z,t,b⟩:=m y (Array.mem_toList_iff.mp l);simp[DictEntry.refKey,b]
   have j:¬ d.toList.any (·.refKey)=true:=by rw[a];exact SR
   rw[SS j];exact congrArg some e
variable{C:Addr}
def ObjM.look{h:Heap}{x b:Addr}(I:ObjM h x b C mA):∃ a,PySem.W.InstAt h x (PySem.W.instObj C b) C (some a)/\∀ name,PySem.W.lookIn name a=some (mA name):=
 let ⟨a,c,d⟩:=IG I.ns
 ⟨a,⟨I.obj,rfl,rfl,c⟩,d⟩
section
variable{prog:Program}{w:World}{A:Around}{E:Value->Shared->Prop}{s:Shared}{K:Frag}{x dx C f:Addr}{mA:Str->Option Value}{name:Str}{v:Value}
theorem LO {a:Bool} {Q:Value->Shared->Prop} (X:K.In s.heap) (I:ObjM s.heap x dx C mA) (g:PySem.W.plainGet K C name=true) (f:PySem.W.hasDictIn K C=true)
  (e:findIn K (.ref C) name=some none) (d:mA name=some v) (b:PySem.W.handedIn v=true) (h:Q v {s with toks:=s.toks+1}):
  wpAny (model prog w) A (getAttr (.ref x) name a) Q E s:=by
 obtain⟨i,J,c⟩:=I.look;exact PySem.W.get_value X J (VW g).1 (PySem.W.findObj_own f e rfl (by rw[c,d])) b h
theorem Ku {pl:Sem Bool} {Q:Value × List Value->Shared->Prop} (X:K.In s.heap) (I:ObjM s.heap x dx C mA) (a:PySem.W.plainGet K C name=true)
  (g:findIn K (.ref C) name=some ↑f) (d:isFn K (.ref f)=true) (c:mA name=none) (h:Q (.ref f,[.ref x]) s):
  wpAny (model prog w) A (getMethod (.ref x) name pl) Q E s:=by
 obtain⟨e,J,b⟩:=I.look;exact PySem.W.method_fn X J (VW a).1 (VW a).2 g (UJ.mp d) (by show(PySem.W.lookIn name e).map (·.isSome)=some false;rw[b,c];rfl) h
theorem LP {ns:List Str} {Q:Unit->Shared->Prop} (X:K.In s.heap) (I:ObjM s.heap x dx C mA)
  (o:findIn K (.ref C) "__setattr__"=some (some (.builtin "object.__setattr__"))) (j:PySem.W.plainOver K C=true) (l:PySem.W.takerIn K C name=some none) (n:PySem.W.hasDictIn K C=true)
  (hw:PySem.Within mA ns) (hsz:ns.length<=sizeLine)
  (h:∀ h',ObjM h' x dx C (λy=>if y=name then some v else mA y)->Heap.SameBut dx s.heap h'->Q () {s with heap:=h',toks:=s.toks+2}):
  wpAny (model prog w) A (setAttr (.ref x) name v) Q E s:=by
 obtain⟨u,J,z⟩:=I.look;refine PySem.W.set_plain X J o (PySem.W.osa_open (s:={s with toks:=s.toks+1}) (r:=none) X J j l λb=>?_);obtain⟨B,p,g⟩:=PySem.W.any_some n;have q:s.heap.get? x=some ⟨.ref C,some dx,.plain,#[]⟩:=I.obj;refine To (TL (To (To (wpAny_loadPart q (To (PySem.W.Looks.here (s:={s with toks:=s.toks+1}) (PySem.W.looks_clsIn X p) ?_))))));rw[g];refine TL (a:=some dx) (To (TL (To ?_)));refine wpAny_nsSet1 (s:={s with toks:=s.toks+1}) I.ns λh' c d=>?_;obtain⟨t,k,m,f,e,i⟩:=c.count (PySem.Within.cons name v hw);refine To (wpAny_lookBehind f (by rw[e];exact pastItsLine_dict (SW i (by rw[S2];lia))) ?_);exact TL (h _ ⟨(d.2 _ (Vr I.ne)).trans I.obj,c,I.ne⟩ d)
theorem Kv {R:Result->Shared->Prop} {vs:List Value} {b:List (Str × Value)} (X:K.In s.heap) (c:PySem.W.makesIn K C=true)
  (i:findIn K (.ref C) "__init__"=some ↑f) (e:PySem.W.typeIn K (.ref f)=some (.type "function"))
  (h:codeAny (model prog w) (A.under (.builtin "type.__call__" ⟨.ref C::vs,b⟩)) (.call (.ref f) ⟨.ref (s.heap.objs.size+1)::vs,b⟩) (PySem.W.InitBack (s.heap.objs.size+1) R)
   {s with heap:=(s.heap.push PySem.W.emptyDict).push (PySem.W.instObj C s.heap.objs.size)}):
  codeAny (model prog w) A (.call (.ref C) ⟨vs,b⟩) R s:=by
 obtain⟨j,g,d,t,k⟩:=s;exact PySem.W.make_core (PySem.W.makes_of X c) (PySem.W.looks_findIn X i) (λa=>PySem.W.bind_fn X a e) (.inl rfl) h
end
def putF(f:Str)(v:V):List (Str × V)->List (Str × V)
 | []=>[(f,v)]
 | (g,x)::r=>if g=f then(g,v)::r else(g,x)::putF f v r
theorem wD(f g:Str)(v:V):∀ fs:List (Str × V),(putF f v fs).lookup g=if g=f then some v else fs.lookup g
 | []=>by
  show List.lookup g [(f,v)]=_;by_cases h:g=f
  . have a:(g==f)=true:=UJ.mpr h;simp only[List.lookup,a,SY h]
  . have a:(g==f)=false:=Vd.mpr h;simp only[List.lookup,a,SS h]
 | (k,x)::r=>by
  have c:=wD f g v r;rw[show putF f v ((k,x)::r)=(if k=f then(k,v)::r else(k,x)::putF f v r) from rfl];by_cases b:k=f
  . rw[SY b];by_cases h:g=k
    . have a:(g==k)=true:=UJ.mpr h;simp only[List.lookup,a,SY (h.trans b)]
    . have a:(g==k)=false:=Vd.mpr h;simp only[List.lookup,a,SS (λe:g=f=>h (e.trans b.symm))]
  . rw[SS b];by_cases h:g=k
    . have a:(g==k)=true:=UJ.mpr h;simp only[List.lookup,a,SS (λe:g=f=>b (h.symm.trans e))]
    . have a:(g==k)=false:=Vd.mpr h;simp only[List.lookup,a];exact c
theorem uu(f:Str)(v:V):∀ fs:List (Str × V),f∈(putF f v fs).map (·.1)/\∀ g,g∈fs.map (·.1)->g∈(putF f v fs).map (·.1)
 | []=>⟨by simp[putF],λg h=>by simp at h⟩
 | (k,x)::r=>by
  obtain⟨b,c⟩:=uu f v r;rw[show putF f v ((k,x)::r)=(if k=f then(k,v)::r else(k,x)::putF f v r) from rfl];by_cases a:k=f
  . rw[SY a];subst a;exact⟨by simp,λg h=>by simpa using h⟩
  . rw[SS a];refine⟨?_,λg h=>?_⟩
    . rw[S6];exact SM _ b
    . rw[S6]at h ⊢;rcases SU.mp h with e | e
      . exact SU.mpr (.inl e)
      . exact SM _ (c g e)
theorem wE(f:Str)(v:V):∀ fs:List (Str × V),(putF f v fs).length<=fs.length+1
 | []=>by simp[putF]
 | (k,x)::r=>by
  have b:=wE f v r;rw[show putF f v ((k,x)::r)=(if k=f then(k,v)::r else(k,x)::putF f v r) from rfl];by_cases a:k=f
  . rw[SY a,S2,S2];lia
  . rw[SS a,S2,S2];lia
variable{o:Option Value}
theorem RelO.some_of{v:V}(r:RelO (some v) o):∃ u,o=some u/\RelV v u:=by
 cases o with
 | none=>exact(show False from r).elim
 | some u=>exact⟨u,rfl,r⟩
abbrev WP:=@RelO.some_of
theorem RelO.none_of(r:RelO none o):o=none:=by
 cases o with
 | none=>rfl
 | some u=>exact(show False from r).elim
theorem IH{v:V}{u:Value}(r:RelV v u):PySem.W.handedIn u=true:=by
 cases v with
 | non=>cases (show u=Value.none from r);rfl
 | bl b=>cases (show u=Value.bool b from r);rfl
 | int i=>obtain⟨t,e⟩:=(show ∃ t,u=Value.int i t from r);cases e;rfl
 | str x=>obtain⟨t,e⟩:=(show ∃ t,u=Value.str x t from r);cases e;rfl
 | byt b=>obtain⟨t,e⟩:=(show ∃ t,u=Value.bytes b t from r);cases e;rfl
 | flt b=>obtain⟨t,e⟩:=(show ∃ t,u=Value.float b t from r);cases e;rfl
 | ref a=>cases (show u=Value.ref a from r);rfl
 | ty n=>cases (show u=Value.type n from r);rfl
section
variable{P:Program}{w:World}{H H':Hp}{h h':Heap}{a C dx:Addr}{fs fs':List (Str × V)}
theorem vY(b:HOk P w H h)(e:H a=some (.ins C dx fs)):∃ mA,ObjM h a dx C mA/\(∀ f,RelO (fs.lookup f) (mA f))/\PySem.Within mA (fs.map (·.1))/\fs.length<=1000/\H dx=some (.own a):=by
 obtain⟨d,z,g,c,mA,n,r,q⟩:=(show ObjOk P w H h a (.ins C dx fs) from b a _ e);exact⟨mA,⟨c,n,g⟩,r,q,z,d⟩
end
structure Cls(K:Frag)(C:Addr):Prop where
 pg:PySem.W.plainGet K C Str.empty=true
 hd:PySem.W.hasDictIn K C=true
 po:PySem.W.plainOver K C=true
 sa:findIn K (.ref C) "__setattr__"=some (some (.builtin "object.__setattr__"))
def Cls.get{K:Frag}(c:Cls K C)(f:Str):PySem.W.plainGet K C f=true:=c.pg
def NoAttr(K:Frag)(C:Addr)(f:Str):Prop:=findIn K (.ref C) f=some none
theorem NoAttr.taker{K:Frag}{f:Str}(n:NoAttr K C f):PySem.W.takerIn K C f=some none:=by
 unfold PySem.W.takerIn;rw[show findIn K (.ref C) f=some none from n];rfl
structure Meth(K:Frag)(C:Addr)(m:Str)(f:Addr):Prop where
 at_:findIn K (.ref C) m=some ↑f
 fn:isFn K (.ref f)=true
 kp:keepIn K (.ref f)=true
section
variable{X:Cx}{Sk:List (Addr × Obj)}{σ:St}{H:Hp}{s:Shared}{a C dx:Addr}{fs:List (Str × V)}{f:Str}{v:V}{A:Around}{E:Value->Shared->Prop}
theorem Hc {b:Bool} {Q:Value->Shared->Prop} (I:Inv X Sk σ H s) (e:H a=some (.ins C dx fs)) (c:Cls X.K C) (n:NoAttr X.K C f) (l:fs.lookup f=some v)
  (h:∀ u s',Inv X Sk σ H s'->RelV v u->Q u s'):wpAny (model X.prog X.w) A (getAttr (.ref a) f b) Q E s:=by
 obtain⟨mA,O,r,_,_,_⟩:=vY I.hok e;obtain⟨u,g,d⟩:=WP (v:=v) (o:=mA f) (by rw[← l];exact r f);exact LO I.kIn O (c.get f) c.hd n g (IH d) (h u _ (I.tok _) d)
theorem yF {m:Str} {g:Addr} {pl:Sem Bool} {Q:Value × List Value->Shared->Prop} (I:Inv X Sk σ H s) (e:H a=some (.ins C dx fs)) (c:Cls X.K C) (k:Meth X.K C m g) (l:fs.lookup m=none)
  (h:Q (.ref g,[.ref a]) s):wpAny (model X.prog X.w) A (getMethod (.ref a) m pl) Q E s:=by
 obtain⟨mA,O,r,_,_,_⟩:=vY I.hok e;have b:mA m=none:=RelO.none_of (by rw[← l];exact r m);exact Ku I.kIn O (c.get m) k.at_ k.fn b h
theorem Hd {y:V} {u:Value} {Q:Unit->Shared->Prop} (I:Inv X Sk σ H s) (e:H a=some (.ins C dx fs)) (c:Cls X.K C) (n:NoAttr X.K C f) (F:fs.length<1000) (l:RelV y u)
  (h:∀ s',Inv X Sk σ (upd H a (.ins C dx (putF f y fs))) s'->Q () s'):wpAny (model X.prog X.w) A (setAttr (.ref a) f u) Q E s:=by
 obtain⟨mA,O,r,j,_,i⟩:=vY I.hok e;have D:(fs.map (·.1)).length<=sizeLine:=by rw[Sx,sizeLine_eq];lia
 refine LP I.kIn O c.sa c.po n.taker c.hd j D λv d p=>h _ ?_;have m:∃ o,v.get? dx=some o:=let ⟨o,_,_,k,_⟩:=d.ns;⟨o,k⟩;refine I.write (x:=a) (e:=dx) (by rw[e];exact True.intro) (.inr i) (λb q t z=>(p.2 b t).trans z) m ?_;refine⟨by rw[ap O.ne];exact i,?_,O.ne,d.obj,_,d.ns,λg=>?_,λg B=>?_⟩
 . have:=wE f y fs;lia
 . show RelO ((putF f y fs).lookup g) (if g=f then some u else mA g);rw[wD];by_cases q:g=f
   . rw[SY q,SY q];exact l
   . rw[SS q,SS q];exact r g
 . by_cases q:g=f
   . rw[q];exact(uu f y fs).1
   . refine(uu f y fs).2 g (j g λz=>B ?_);show(if g=f then some u else mA g)=none;rw[SS q];exact z
theorem Inv.made(I:Inv X Sk σ H s):Inv X Sk σ (upd (upd H s.heap.objs.size (.own (s.heap.objs.size+1))) (s.heap.objs.size+1) (.ins C s.heap.objs.size []))
  {s with heap:=(s.heap.push PySem.W.emptyDict).push (PySem.W.instObj C s.heap.objs.size)}:=by
 have e1:(s.heap.push PySem.W.emptyDict).get? s.heap.objs.size=some PySem.W.emptyDict:=Ts s.heap rfl
 have e2:((s.heap.push PySem.W.emptyDict).push (PySem.W.instObj C s.heap.objs.size)).get? (s.heap.objs.size+1)=some (PySem.W.instObj C s.heap.objs.size):=by
  have:=Ts (s.heap.push PySem.W.emptyDict) (o:=PySem.W.instObj C s.heap.objs.size) rfl
  rwa [UO]at this
 have d:(s.heap.push PySem.W.emptyDict).Ns s.heap.objs.size (λ_=>none):=⟨PySem.W.emptyDict,#[],_,e1,rfl,(λe f=>absurd f (by simp)),λ_=>rfl⟩;have h:=I.laid (a:=s.heap.objs.size) (o:=.own (s.heap.objs.size+1)) (h':=s.heap.push PySem.W.emptyDict) (t':=s.toks) (λb u q=>S5 _ q) (SZ _) ⟨_,e1⟩;refine h.laid (a:=s.heap.objs.size+1) (o:=.ins C s.heap.objs.size []) (t':=s.toks) (λb u q=>S5 _ q) (Nat.le_of_eq (UO _ _)) ?_;have c:s.heap.objs.size≠s.heap.objs.size+1:=TB (Vz _);refine⟨by rw[ap c,aj],TF _,c,e2,λ_=>none,(Heap.Ns1.of_empty d).at λo q=>S5 _ q,λ_=>True.intro,λy g=>absurd rfl g⟩
def LQ {prog:Program} {w:World} {env:Env} {e:Expr} {f:Str} {pos:Pos} {s:Shared} {Q:Value->Shared->Prop} (b:attributeBase e f env (eval e env)=eval e env)
  (h:wpAny (model prog w) A (eval e env) (λo a=>wpAny (model prog w) A (getAttr o f true) Q E a) E s):wpAny (model prog w) A (eval (.Attribute e f pos) env) Q E s:=
 Attribute_any_ h (by rw[arm_eval_Attribute,b])
end
section
variable{X:Cx}{o e value:Expr}{f:Str}{pos pos' tpos:Pos}{ta tv:TE}
end
section
variable{X:Cx}{Sk:List (Addr × Obj)}{σ:St}{H:Hp}{s:Shared}{A:Around}{E:Value->Shared->Prop}{Q:Value->Shared->Prop}{c:Value}{b:Bool}
inductive TyOf(K:Frag)(H:Hp):V->Value->Prop where
 | non:TyOf K H .non (.type "NoneType")
 | bl (x:Bool):TyOf K H (.bl x) (.type "bool")
 | int (i:Int):TyOf K H (.int i) (.type "int")
 | str (x:Str):TyOf K H (.str x) (.type "str")
 | flt (x:UInt64):TyOf K H (.flt x) (.type "float")
 | lst {a:Addr} {xs:List V} (e:H a=↥xs):TyOf K H (.ref a) (.type "list")
 | frz {a:Addr} {o:Obj} {xs:List V} (e:H a=some (.frz o (.lst xs))):TyOf K H (.ref a) (.type "list")
 | tup {a:Addr} {xs:List V} (e:H a=some (.tup xs)):TyOf K H (.ref a) (.type "tuple")
 | dK {a:Addr} {Sn:List (Key × V)} (e:H a=some (.dK Sn)):TyOf K H (.ref a) (.type "dict")
 | dT {a:Addr} {Sn:List (List Key × V)} (e:H a=some (.dT Sn)):TyOf K H (.ref a) (.type "dict")
 | ins {a C dx:Addr} {fs:List (Str × V)} (e:H a=some (.ins C dx fs)) (cl:Cls K C) (ha:findIn K (.ref C) "__class__"=some (some (.builtin "object.__class__")))
   (hn:PySem.W.specialIn K (.builtin "object.__class__") "__get__"=some (some (.builtin "getset_descriptor.__get__"))) (htk:PySem.W.takesIn K (.builtin "object.__class__")=some true)
   (hm:PySem.W.mroIn K C (.type "object")=some true):TyOf K H (.ref a) (.ref C)
theorem II{x:V}{u t:Value}(I:Inv X Sk σ H s)(d:RelV x u)(r:TyOf X.K H x t)(e:PySem.W.kitOne X.K t c=some b)(h:∀ G,Q (.bool b) {s with toks:=G}):
  wpAny (model X.prog X.w) A (call (.builtin "isinstance") [u,c]) Q E s:=by
 cases r with
 | non=>cases (show u=Value.none from d);exact T9 PySem.W.kitx_none I.kIn True.intro e (λz=>nomatch z) h
 | bl y=>cases (show u=Value.bool y from d);exact T9 PySem.W.kitx_bool I.kIn True.intro e (λz=>nomatch z) h
 | int i=>obtain⟨t,q⟩:=(show ∃ t,u=Value.int i t from d);cases q;exact T9 PySem.W.kitx_int I.kIn True.intro e (λz=>nomatch z) h
 | str y=>obtain⟨t,q⟩:=(show ∃ t,u=Value.str y t from d);cases q;exact T9 PySem.W.kitx_str I.kIn True.intro e (λz=>nomatch z) h
 | flt y=>obtain⟨t,q⟩:=(show ∃ t,u=Value.float y t from d);cases q;exact T9 PySem.W.kitx_float I.kIn True.intro e (λz=>nomatch z) h
 | @lst a g f=>
  cases (show u=Value.ref a from d);obtain⟨_,_,n,_,h1⟩:=(show ObjOk X.prog X.w H s.heap a (.lst g) from I.hok a _ f);exact T9 PySem.W.kitx_list I.kIn ⟨_,h1,rfl⟩ e (λz=>nomatch z) h
 | @frz a F g f=>
  cases (show u=Value.ref a from d);obtain⟨_,_,_,n,_,h1⟩:=(show ObjOk X.prog X.w H s.heap a (.frz F (.lst g)) from I.hok a _ f);exact T9 PySem.W.kitx_list I.kIn ⟨_,h1,rfl⟩ e (λz=>nomatch z) h
 | @tup a g f=>
  cases (show u=Value.ref a from d);obtain⟨_,_,_,p⟩:=(show ObjOk X.prog X.w H s.heap a (.tup g) from I.hok a _ f);obtain⟨o,h1,h2,_⟩:=p;exact T9 PySem.W.kitx_tuple I.kIn ⟨o,h1,h2⟩ e (λz=>nomatch z) h
 | @dK a k f=>
  cases (show u=Value.ref a from d);obtain⟨_,_,vs,_,p⟩:=(show ObjOk X.prog X.w H s.heap a (.dK k) from I.hok a _ f);obtain⟨o,D,L,h1,h2,_⟩:=p;exact T9 PySem.W.kitx_dict I.kIn ⟨o,h1,h2.1⟩ e (λz=>nomatch z) h
 | @dT a k f=>
  cases (show u=Value.ref a from d);obtain⟨_,_,g,_,o,D,L,h1,h2,_⟩:=(show ObjOk X.prog X.w H s.heap a (.dT k) from I.hok a _ f);exact T9 PySem.W.kitx_dict I.kIn ⟨o,h1,h2.1⟩ e (λz=>nomatch z) h
 | @ins a C N M f l m B j v=>
  cases (show u=Value.ref a from d);obtain⟨mA,O,_⟩:=vY I.hok f;obtain⟨P,J,_⟩:=O.look;exact T9 (PySem.W.kitx_own (l.get _) l.hd m B j v) I.kIn J e (λz=>nomatch z) h
end
structure Room(k:Nat)(A:Around):Prop where
 hd:A.handled=none
 dp:A.depth+3*k+5<recursionLimit
 un:A.units+16*k+200<cLine
variable{A:Around}
def Room.mono{j k:Nat}(r:Room k A)(h:j<=k):Room j A:=⟨r.hd,by have:=r.dp;omega,by have:=r.un;omega⟩
def Room.deeper{k:Nat}(r:Room (k+1) A)(env:Env):Room k (A.deeper env):=
 ⟨r.hd,by have:=r.dp;show A.depth+1+3*k+5<_;omega,by have:=r.un;show A.units+3+16*k+200<_;omega⟩
variable{us:List Value}{kw:List (Str × Value)}
theorem He{C:Addr}:(A.under (.builtin "type.__call__" ⟨.ref C::us,kw⟩)).depth=A.depth+1:=by
 first | rfl | simp[Around.under,Code.weight,Code.isCreation,Code.isGuard,Code.isCaller,Code.frames,Code.isFrame,guardIds]
theorem Hf{C:Addr}:(A.under (.builtin "type.__call__" ⟨.ref C::us,kw⟩)).units=A.units+1:=by
 first | rfl | simp[Around.under,Code.cUnits,Code.frames,Code.isFrame]
def Room.make{k:Nat}(r:Room (k+1) A)(C:Addr)(us:List Value)(kw:List (Str × Value)):Room k (A.under (.builtin "type.__call__" ⟨.ref C::us,kw⟩)):=
 ⟨r.hd,by have:=r.dp;rw[He];omega,by have:=r.un;rw[Hf];omega⟩
def Room.depth{k:Nat}(r:Room k A):A.depth<recursionLimit:=by have:=r.dp;omega
def Room.units{k:Nat}(r:Room k A):A.units+64<cLine:=by have:=r.un;omega
def tNil:TA:=λ_ H Q=>Q [] H
def tCons(b:TE)(a:TA):TA:=λσ H Q=>b σ H λx d=>a σ d λc e=>Q (x::c) e
section
variable{X:Cx}{e:Expr}{es:List Expr}{te:TE}{t:TA}{pos:Pos}
def ad:PA X [] tNil:=λ_ _ _ _ H Q I h=>U5 ⟨[],H,I,.nil,h⟩
theorem ab(f:PE X e te)(c:PA X es t)(m:starEach (e::es) X.env=(false,eval e X.env)::starEach es X.env:=by rfl):PA X (e::es) (tCons te t):=by
 intro pos a s σ H Q I h;rw[m];show wpAny _ _ (spliced ((false,eval e X.env)::backTo pos (starEach es X.env))) _ _ s;refine UX (thn (f a s σ H _ I h) λu s1 ⟨x,i,n,r1,b⟩=>?_);exact thn (c pos a s1 σ i _ n b) λus o ⟨g,l,j,d,k⟩=>⟨x::g,l,j,.cons r1 d,k⟩
def tTup(t:TA):TE:=λσ H Q=>t σ H λa b=>a.length<=sizeLine/\∀ p,b p=none->Q (.ref p) (upd b p (.tup a))
def tLst(t:TA):TE:=λσ H Q=>t σ H λa b=>a.length<=sizeLine/\∀ p,b p=none->Q (.ref p) (upd b p (.lst a))
theorem cq{x1}(h:PA X es t):PE X (.Tuple es x1 pos) (tTup t):=by
 intro d s σ H Q I f;refine wpAny_Tuple_spliced (thn (h pos d s σ H _ I f) λus s1 ⟨g,a,c,r,z,q⟩=>⟨by rw[← r.length];exact z,?_⟩);have i:a s1.heap.objs.size=none:=c.hok.fresh (SZ _);refine⟨.ref s1.heap.objs.size,upd a s1.heap.objs.size (.tup g),c.laid (t':=s1.toks) (λb u e=>S5 _ e) (SZ _) ?_,rfl,q _ i⟩;exact⟨z,us,r,⟨_,Ts _ rfl,rfl,_,rfl⟩⟩
theorem aI(h:PA X es t):PE X (.List es pos) (tLst t):=by
 intro d s σ H Q I f;refine wpAny_List_spliced (thn (h pos d s σ H _ I f) λus s1 ⟨g,a,c,r,z,q⟩=>⟨by rw[← r.length];exact z,?_⟩);have i:a s1.heap.objs.size=none:=c.hok.fresh (SZ _);refine⟨.ref s1.heap.objs.size,upd a s1.heap.objs.size (.lst g),c.laid (t':=s1.toks) (λb u e=>S5 _ e) (SZ _) ?_,rfl,q _ i⟩;exact⟨z,us,0,r,Ts _ rfl⟩
end
abbrev Sp:=List V->Hp->VK->XK->Prop
abbrev CXT:=List Env->Hp->Shared->XK->Value->Shared->Prop
structure Env0(P:Program)(w:World)(K:Frag)(mg:Str->Option Value)(base:Heap)(A:Around)(outer:List Env)(s:Shared)(H:Hp):Prop where
 frames:A.frames=some outer
 mod:Mod K mg base
 bs:∀ b o,base.get? b=some o->s.heap.get? b=some o/\H b=none
 bsz:base.objs.size<=s.heap.objs.size
 funs:s.heap.FunFrames base outer
 frf:∀ b∈frs outer,H b=none
 hok:HOk P w H s.heap
 bare:AllBare s.gens
def CE(a:List Env)(P:Program)(w:World)(H:Hp)(s:Shared)(Q:VK)(u:Value)(s':Shared):Prop:=
 ∃ v b,s'.os=s.os/\AllBare s'.gens/\Un (frs a) [] H b s.heap s'.heap/\HOk P w b s'.heap/\RelV v u/\Q v b
def CR(CX:CXT)(a:List Env)(P:Program)(w:World)(H:Hp)(s:Shared)(Q:VK)(E:XK)(r:Result)(s':Shared):Prop:=
 match r with
 | .ok (.ret u)=>CE a P w H s Q u s'
 | .ok _=>False
 | .error e=>CX a H s E e s'
structure FnOk(P:Program)(w:World)(K:Frag)(mg:Str->Option Value)(base:Heap)(CX:CXT)(k:Nat)(f:Addr)(fd:FuncData)(ps:List Str)(sp:Sp):Prop where
 len:∀ vs H Q E,sp vs H Q E->vs.length=ps.length
 run:∀(A:Around) (outer:List Env) (s:Shared) (H:Hp) (args:Args) (us:List Value) (vs:List V) (Q:VK) (E:XK),Room k A->Env0 P w K mg base A outer s H->BindsTo s fd args (ps.zip us)->Vals vs us->sp vs H Q E->
  codeAny (model P w) A (.call (.ref f) args) (CR CX outer P w H s Q E) s
variable{P:Program}{w:World}{K:Frag}{mg:Str->Option Value}{base:Heap}{CX:CXT}{f:Addr}{fd:FuncData}{ps:List Str}
def FnOk.mono{j k:Nat}{sp:Sp}(F:FnOk P w K mg base CX j f fd ps sp)(h:j<=k):
  FnOk P w K mg base CX k f fd ps sp:=⟨F.len,λA a s H b us vs Q E c=>F.run A a s H b us vs Q E (c.mono h)⟩
def FnOk.imp {k:Nat} {sp b:Sp} (F:FnOk P w K mg base CX k f fd ps sp)
  (h:∀ vs H Q E,b vs H Q E->sp vs H Q E):FnOk P w K mg base CX k f fd ps b:=
 ⟨λvs H Q E q=>F.len vs H Q E (h _ _ _ _ q),λA a s H c us vs Q E d i g e j=>F.run A a s H c us vs Q E d i g e (h _ _ _ _ j)⟩
variable{outer:List Env}
def Env0.make{s:Shared}{H:Hp}(e:Env0 P w K mg base A outer s H)(C:Addr)(us:List Value)(kw:List (Str × Value)):
  Env0 P w K mg base (A.under (.builtin "type.__call__" ⟨.ref C::us,kw⟩)) outer s H:=⟨by first | exact e.frames | (simpa [Around.under,Code.envs,Code.isFrame,pushEnvs] using e.frames),e.mod,e.bs,e.bsz,e.funs,e.frf,e.hok,e.bare⟩
section
variable{X:Cx}{Sk:List (Addr × Obj)}{σ:St}{H:Hp}{s s':Shared}
def Inv.env0(I:Inv X Sk σ H s):Env0 X.prog X.w X.K X.mg X.base X.A X.stack s H:=
 ⟨I.ok.frames,I.ok.mod,I.bs,SW I.ok.bsz I.sz,I.stack,I.stkFree,I.hok,I.bare⟩
theorem Inv.after{Q:VK}{u:Value}(I:Inv X Sk σ H s)(h:CE X.stack X.prog X.w H s Q u s'):EP X Sk σ Q u s':=by
 obtain⟨v,f,k,a,i,c,r,q⟩:=h;obtain⟨j,g,d,t,e⟩:=s';obtain rfl:e=s.os:=k;exact⟨v,f,I.call (h':=j) (g':=g) (d':=d) (t':=t) (ch:=[]) i c a (λb z=>absurd z (by simp)),r,q⟩
end
def tCall(sp:Sp)(a:List V)(E:XK)(t:TA):TE:=λσ H Q=>t σ H λvs b=>sp (vs++a) b Q E
def tMake(C:Addr)(sp:Sp)(b:List V)(E:XK)(t:TA):TE:=λσ H Q=>t σ H λvs c=>∀ x a,c x=none->c a=none->a≠x->
 sp (.ref x::(vs++b)) (upd (upd c a (.own x)) x (.ins C a [])) (λv d=>v=.non/\Q (.ref x) d) E
def Binds(K:Frag)(fd:FuncData)(ps:List Str)(a:List Value):Prop:=
 ∀(s:Shared) (us:List Value),K.In s.heap->(us++a).length=ps.length->BindsTo s fd ⟨us,[]⟩ (ps.zip (us++a))
def Binds.all(h:∀ us:List Value,us.length=ps.length->bindArgs fd ⟨us,[]⟩=pure (ps.zip us)):Binds K fd ps []:=λs us _ a=>by
 rw[Vn]at a ⊢;exact .of_eq (h us a)
def uv(CX:CXT)(X:Cx)(E:XK):Prop:=∀(b:List (Addr × Obj)) (σ:St) (H:Hp) (s:Shared) (e:Value) (a:Shared),Inv X b σ H s->CX X.stack H s E e a->X.xe e a
section
variable{X:Cx}{CX:CXT}{k:Nat}{f C:Addr}{fd:FuncData}{ps:List Str}{sp:Sp}{dvs:List V}{ds:List Value}{E:XK}{x m:Str}{p pos apos:Pos}{e o:Expr}{es:List Expr}{ta:TE}{t:TA}
theorem Dx {b:List (Addr × Obj)} {σ:St} {H:Hp} {s:Shared} {Q:VK} {us:List Value} {vs:List V} (F:FnOk X.prog X.w X.K X.mg X.base CX k f fd ps sp) (d:Room k X.A) (m:Binds X.K fd ps ds) (l:Vals dvs ds) (n:uv CX X E)
  (I:Inv X b σ H s) (r:Vals vs us) (h:sp (vs++dvs) H Q E):wpAny (model X.prog X.w) X.A (call (.ref f) us) (EP X b σ Q) X.xe s:=by
 have c:Vals (vs++dvs) (us++ds):=r.append l;have i:(us++ds).length=ps.length:=by rw[← c.length];exact F.len _ _ _ _ h
 refine wpAny_call (WQ (F.run X.A X.stack s H ⟨us,[]⟩ (us++ds) (vs++dvs) Q E d I.env0 (m s us I.kIn i) c h) λr j a=>?_)
 cases r with
 | error e=>exact n b σ H s e j I a
 | ok g=>
  cases g with
  | ret u=>exact I.after a
  | next=>exact False.elim a
  | brk=>exact False.elim a
  | cont=>exact False.elim a
theorem LR (F:FnOk X.prog X.w X.K X.mg X.base CX k f fd ps sp) (d:Room k X.A) (u:Gl X x) (j:X.mg x=↑f) (v:keepIn X.K (.ref f)=true) (m:Binds X.K fd ps ds) (l:Vals dvs ds) (o:uv CX X E)
  (g:PA X (e::es) t) (a:(x==("__debug__":Str))=false:=by decide) (n:starEach (e::es) X.env=(false,eval e X.env)::starEach es X.env:=by rfl) (b:(backTo pos (starEach es X.env)).any (·.1)=false:=by rfl):
  PE X (.Call (.Name x p) (e::es) [] pos) (tCall sp dvs E t):=by
 intro i s σ H Q I h;refine Uf (AC I u j ?_ a);refine V8 (h₀:=X.base) I.ok.mod.kin v (thn (g pos i s σ H _ I h) λus s1 ⟨vs,y,c,r,q⟩=>⟨c.kIn,?_⟩) n b;exact Dx F d m l o c r q
structure Mk(K:Frag)(C f:Addr):Prop where
 makes:PySem.W.makesIn K C=true
 init:findIn K (.ref C) "__init__"=some ↑f
 fn:isFn K (.ref f)=true
 kp:keepIn K (.ref C)=true
theorem Kw {d:List (Addr × Obj)} {σ:St} {H:Hp} {s:Shared} {Q:VK} {us:List Value} {vs:List V} (M:Mk X.K C f) (F:FnOk X.prog X.w X.K X.mg X.base CX k f fd ps sp) (q:Room (k+1) X.A) (B:Binds X.K fd ps ds) (t:Vals dvs ds)
  (G:uv CX X E) (I:Inv X d σ H s) (r:Vals vs us)
  (h:∀ x c,H x=none->H c=none->c≠x->sp (.ref x::(vs++dvs)) (upd (upd H c (.own x)) x (.ins C c [])) (λv j=>v=.non/\Q (.ref x) j) E):
  wpAny (model X.prog X.w) X.A (call (.ref C) us) (EP X d σ Q) X.xe s:=by
 have g:=h (s.heap.objs.size+1) s.heap.objs.size (I.hok.fresh (VL _)) (I.hok.fresh (SZ _)) (TB (Vz _));have b:=Inv.made (C:=C) I;have i:Vals (V.ref (s.heap.objs.size+1)::(vs++dvs)) (Value.ref (s.heap.objs.size+1)::(us++ds)):=.cons rfl (r.append t)
 have m:(Value.ref (s.heap.objs.size+1)::us++ds).length=ps.length:=by
  have e:=i.length;rw[F.len _ _ _ _ g]at e;exact e.symm
 refine wpAny_call (Kv (f:=f) I.kIn M.makes M.init (UJ.mp M.fn) (WQ (F.run _ X.stack _ _ ⟨Value.ref (s.heap.objs.size+1)::us,[]⟩ (Value.ref (s.heap.objs.size+1)::(us++ds)) _ _ E (q.make C us [])
  (b.env0.make C us []) (B _ (Value.ref (s.heap.objs.size+1)::us) b.kIn m) i g) λr n a=>?_))
 cases r with
 | error e=>exact G d σ _ _ e n b a
 | ok z=>
  cases z with
  | ret u=>
   obtain⟨v,p,D,y,o,l⟩:=b.after a;subst o;exact⟨y,⟨V.ref (s.heap.objs.size+1),p,D,rfl,l⟩⟩
  | next=>exact False.elim a
  | brk=>exact False.elim a
  | cont=>exact False.elim a
theorem LS (M:Mk X.K C f) (F:FnOk X.prog X.w X.K X.mg X.base CX k f fd ps sp) (d:Room (k+1) X.A) (u:Gl X x) (j:X.mg x=↑C) (m:Binds X.K fd ps ds) (l:Vals dvs ds) (o:uv CX X E)
  (g:PA X (e::es) t) (a:(x==("__debug__":Str))=false:=by decide) (n:starEach (e::es) X.env=(false,eval e X.env)::starEach es X.env:=by rfl) (b:(backTo pos (starEach es X.env)).any (·.1)=false:=by rfl):
  PE X (.Call (.Name x p) (e::es) [] pos) (tMake C sp dvs E t):=by
 intro i s σ H Q I h;refine Uf (AC I u j ?_ a);refine V8 (h₀:=X.base) I.ok.mod.kin M.kp (thn (g pos i s σ H _ I h) λus s1 ⟨vs,v,c,r,q⟩=>⟨c.kIn,?_⟩) n b;exact Kw M F d m l o c r q
end
section
variable{X:Cx}{CX:CXT}{k:Nat}{f C:Addr}{fd:FuncData}{ps ks:List Str}{sp:Sp}{E:XK}{x m:Str}{p pos apos kpos:Pos}{e o:Expr}{es:List Expr}{kws:List Keyword}{te ta:TE}{t tk:TA}{nm:Option Str}
variable{g:List Value->List Value->List Value}{gV:List V->List V->List V}
end
structure jM(N P:List Str)(sc:Scope):Prop where
 kind:sc.kind=.function
 co:sc.isCoroutine=false
 gen:sc.isGenerator=false
 nd:N.Nodup
 pre:N.take P.length=P
 par:∀ x∈P,sc.names.lookup x=some .local\/sc.names.lookup x=some .cell
 nofree:∀ y∈sc.names,y.2≠.free
theorem Br{b:Str->Option NameKind}{x:Str}:∀{a:List (Str × Value)} {m:Str->Option Value},(∀ v,(x,v)∉a)->bindL b a m x=m x
 | [],_,_=>rfl
 | (n,v)::r,m,h=>by
  unfold bindL;rw[Br λw hw=>h w (SM _ hw)]
  split
  . have:x≠n:=by rintro rfl;exact h v SN
    simp[this]
  . rfl
theorem Bs{b:Str->Option NameKind}{x:Str}:∀{a:List (Str × Value)} {m:Str->Option Value},(∀ v,(x,v)∉a)->bindC b a m x=m x
 | [],_,_=>rfl
 | (n,v)::r,m,h=>by
  unfold bindC;rw[Bs λw hw=>h w (SM _ hw)]
  split
  . rfl
  . have:x≠n:=by rintro rfl;exact h v SN
    simp[this]
theorem Bu{a:Str->Option NameKind}{x:Str}{v:Value}:∀{P:List Str} {vs:List Value} {i:Nat} {m:Str->Option Value},P.Nodup->P[i]? =some x->vs[i]? =some v->a x=some .local->
  bindL a (P.zip vs) m x=some v
 | [],_,_,_,_,h,_,_=>by simp at h
 | _::_,[],_,_,_,_,h,_=>by simp at h
 | p::P,w::vs,0,m,nd,h1,h2,hk=>by
  simp at h1 h2;subst h1;subst h2;show bindL a ((p,w)::P.zip vs) m p=_;unfold bindL;rw[Br λv b=>(Ty.mp nd).1 (WE b).1,SY hk];simp
 | p::P,w::vs,i+1,m,nd,h1,h2,hk=>by
  show bindL a ((p,w)::P.zip vs) m x=_;unfold bindL;exact Bu (i:=i) (Ty.mp nd).2 (by simpa using h1) (by simpa using h2) hk
theorem Bv{a:Str->Option NameKind}{x:Str}{v:Value}:∀{P:List Str} {vs:List Value} {i:Nat} {m:Str->Option Value},P.Nodup->P[i]? =some x->vs[i]? =some v->a x≠some .local->
  bindC a (P.zip vs) m x=some v
 | [],_,_,_,_,h,_,_=>by simp at h
 | _::_,[],_,_,_,_,h,_=>by simp at h
 | p::P,w::vs,0,m,nd,h1,h2,hk=>by
  simp at h1 h2;subst h1;subst h2;show bindC a ((p,w)::P.zip vs) m p=_;unfold bindC;rw[Bs λv b=>(Ty.mp nd).1 (WE b).1,SS hk];simp
 | p::P,w::vs,i+1,m,nd,h1,h2,hk=>by
  show bindC a ((p,w)::P.zip vs) m x=_;unfold bindC;exact Bv (i:=i) (Ty.mp nd).2 (by simpa using h1) (by simpa using h2) hk
def start(N:List Str)(vs:List V):St:=vs.map some++List.replicate (N.length-vs.length) none
def cxOf(CX:CXT)(P:Program)(w:World)(K:Frag)(mg:Str->Option Value)(base:Heap)(N:List Str)(a:Str)(scope:Scope)(f:Addr)(c:Value)(A:Around)(outer:List Env)(s:Shared)(H:Hp)(E:XK):Cx where
 prog:=P
 w:=w
 K:=K
 mg:=mg
 base:=base
 A:=A.deeper (envOfC a scope s.heap.objs.size f c)
 N:=N
 s₀:=s
 H₀:=H
 env:=envOfC a scope s.heap.objs.size f c
 outer:=outer
 stack:=envOfC a scope s.heap.objs.size f c::outer
 ex:=[]
 calm:=true
 fn:=λ_=>true
 pn:=[]
 xe:=λe g=>wpAny (model P w) (A.deeper (envOfC a scope s.heap.objs.size f c)) (leaving (envOfC a scope s.heap.objs.size f c) e) (λ_ b=>CX outer H s E e b) (λd b=>CX outer H s E d b) g
theorem sP{a:Scope}{n:Nat}{x:Str}(h:a.names.lookup x=some .cell):∃ c,(cellsFrom n a.names []).lookup x=some c:=by
 have q:=Ww a.names n [] (.inl h);exact Option.isSome_iff_exists.mp q
variable{scope:Scope}
theorem IJ {N:List Str} {d:Str} {t:Value} {s s1:Shared} {H:Hp} {E:XK} {vs:List V}
  (S:jM N ps scope) (I:A.handled=none) (g:Env0 P w K mg base A outer s H) (L:vs.length=ps.length) (r:Vals vs us)
  (x:InCallC s s.heap.objs.size (bindL (envOfC d scope s.heap.objs.size f t).kindOf (ps.zip us) λ_=>none) (cellsFrom (s.heap.objs.size+1) scope.names []) (bindC (envOfC d scope s.heap.objs.size f t).kindOf (ps.zip us) λ_=>none) s1):
  Inv (cxOf CX P w K mg base N d scope f t A outer s H E) [] (start N vs) H s1:=by
 have J:ps.length<=N.length:=by have:=congrArg List.length S.pre;rw[Tx]at this;lia
 obtain⟨h1,M,rfl,D⟩:=x.done;have j:∀ b:Addr,b∉(cxOf CX P w K mg base N d scope f t A outer s H E).ex:=λb z=>absurd (show b∈([]:List Addr) from z) (by simp)
 refine⟨⟨g.mod,S.kind,rfl,rfl,SZ _,λy z c h1 h2=>?_,λy l=>?_,λy c _ h=>?_,λ_=>I,Around.frames_deeper g.frames,.inr ⟨rfl,rfl⟩,λb z=>absurd z (j b),g.bs,g.bsz,λb _ _=>j b,λb z=>absurd z (j b),g.funs,g.frf⟩,
  rfl,g.bare,Un.kept D,⟨_,x.toInCall.ns,λi y v h1 h2 h3=>?_⟩,λy c h=>⟨_,x.cell y c h⟩,g.hok.fresh (SZ _),λy c h=>?_,λp o=>absurd (show p∈([]:List (Addr × Obj)) from o) (by simp),g.hok.kept D,?_⟩
 . exact name_of_addr x.apart (T3 h1) (T3 h2)
 . have l:scope.names.lookup y=some .cell\/scope.names.lookup y=some .free:=l;rcases l with l | l
   . exact sP l
   . exact absurd rfl (S.nofree _ (T3 l))
 . exact Tv (x.above y c (T3 h))
 . have B:i<vs.length:=by
    unfold start at h2;by_cases B:i<vs.length
    . exact B
    . rw[Tp (by simpa using B)]at h2;rw[Vq]at h2
      split at h2 <;> cases h2
   have G:vs[i]? =some v:=by
    unfold start at h2;rw[Tn (by simpa using B),SI]at h2
    cases e:vs[i]? with
    | none=>rw[e]at h2;cases h2
    | some a=>rw[e]at h2;cases h2;rfl
   obtain⟨u,C,F⟩:=r.get G
   have o:ps[i]? =some y:=by
    rw[← S.pre,List.getElem?_take_of_lt #[4]];exact h1
   have m:ps.Nodup:=by rw[← S.pre];exact S.nd.sublist (List.take_sublist _ _)
   refine⟨u,F,?_⟩;rcases S.par y (SH o) with k | k
   . exact .inl ⟨k,Bu m o C k⟩
   . obtain⟨c,e⟩:=sP (n:=s.heap.objs.size+1) k;refine .inr ⟨.inl k,c,e,?_⟩;have q:=x.cell y c e;rw[Bv m o C (by show scope.names.lookup y≠_;rw[k];decide)]at q;exact q
 . exact g.hok.fresh (Tv (x.above y c (T3 h)))
 . unfold start;show _=N.length;rw[Ta,Sx,U1];lia
theorem Lw {k:Nat} {name a:Str} {c:Arguments} {d:List Stmt} {U X p Z j ct oc:Value} {T od:Option Addr}
  {F:Array (Option Value)} {N ps:List Str} {sp:Sp} (lk:K.lookup f=some ⟨oc,od,.func (fnOf name a c d scope U X p Z T j ct),F⟩) (M:codeIn K j a=true) (S:jM N ps scope)
  (z:∀ vs H Q E,sp vs H Q E->vs.length=ps.length)
  (h:∀(A:Around) (outer:List Env) (s:Shared) (H:Hp) (vs:List V) (Q:VK) (E:XK),Room k (A.deeper (envOfC a scope s.heap.objs.size f j))->sp vs H Q E->
   ∃ t,PSs (cxOf CX P w K mg base N a scope f j A outer s H E) d t/\t {nx:=λ_ g=>Q .non g,rt:=Q} (start N vs) H):
  FnOk P w K mg base CX (k+1) f (fnOf name a c d scope U X p Z T j ct) ps sp:=by
 refine⟨z,λA outer s H R us vs Q E L m hb r B=>?_⟩;have hl:=z _ _ _ _ B;have Y:K.In s.heap:=m.mod.kin.keeps λb o e=>(m.bs b o e).1;have D:s.heap.NoLimit:=m.mod.nolimit.keeps λb o e=>(m.bs b o e).1
 have i:∀ y∈ps.zip us,scope.names.lookup y.1=some .local\/(scope.names.lookup y.1=some .cell/\((cellsFrom (s.heap.objs.size+1) scope.names []).lookup y.1).isSome=true):=λ⟨n,v⟩ hy=>by
  rcases S.par n (WE hy).1 with q | q
  . exact .inl q
  . exact .inr ⟨q,Ww _ _ _ (.inl q)⟩
 refine codeAny_call_function L.depth (Y _ _ lk) rfl S.co S.gen rfl (PySem.W.codeRec_of Y M) (hb _ _ _ _ ?_);refine wpAny_newFunctionEnv_cells S.kind i λab he s1 x=>?_;subst he;refine⟨D.keeps x.toInCall.keep,codeAny_func ?_⟩;obtain⟨t,ht,hq⟩:=h A outer s H vs Q E (L.deeper _) B;have I:Inv (cxOf CX P w K mg base N a scope f j A outer s H E) [] (start N vs) H s1:=IJ S L.hd m hl r x;refine T4 (ht [] s1 (start N vs) H _ I hq) (λfl G l=>?_) λe G l=>l
 have fin:∀{C:St} {g:Hp} {v:V} {u:Value},Inv (cxOf CX P w K mg base N a scope f j A outer s H E) [] C g G->RelV v u->Q v g->CE outer P w H s Q u G:=
  λ{C g v u} J O q=>⟨v,g,J.os,J.bare,J.base,J.hok,O,q⟩
 cases fl with
 | ret u=>
  obtain⟨v,C,g,J,O,q⟩:=l;exact fin J O q
 | next=>
  obtain⟨C,g,J,q⟩:=l;exact fin (v:=V.non) (u:=Value.none) J rfl q
 | brk=>
  obtain⟨_,_,_,q⟩:=l;exact False.elim q
 | cont=>
  obtain⟨_,_,_,q⟩:=l;exact False.elim q
section
variable{X:Cx}{x:Str}{p pos:Pos}{e:Expr}{es:List Expr}{t:TA}{id T:String}{r:List V->Hp->VK->Prop}
def tCB(r:List V->Hp->VK->Prop)(t:TA):TE:=λσ H Q=>t σ H λvs a=>r vs a Q
theorem au (n:CallR X (.builtin id) r) (o:Gl X x) (i:X.mg x=none) (g:bootBuiltins x=some (.builtin id)) (f:PA X (e::es) t) (l:x≠"__name__":=by decide) (b:(x==("__debug__":Str))=false:=by decide)
  (k:starEach (e::es) X.env=(false,eval e X.env)::starEach es X.env:=by rfl) (a:(backTo pos (starEach es X.env)).any (·.1)=false:=by rfl):PE X (.Call (.Name x p) (e::es) [] pos) (tCB r t):=by
 intro c s σ H Q I h;refine Uf (fv I o i g ?_ l b);exact VA (thn (f pos c s σ H _ I h) λus s1 ⟨vs,j,m,r1,d⟩=>n c s1 σ j vs us Q m r1 d) k a
theorem aV (n:CallR X (.type T) r) (o:Gl X x) (i:X.mg x=none) (g:bootBuiltins x=some (.type T)) (f:PA X (e::es) t) (l:x≠"__name__":=by decide) (b:(x==("__debug__":Str))=false:=by decide)
  (k:starEach (e::es) X.env=(false,eval e X.env)::starEach es X.env:=by rfl) (a:(backTo pos (starEach es X.env)).any (·.1)=false:=by rfl):PE X (.Call (.Name x p) (e::es) [] pos) (tCB r t):=by
 intro c s σ H Q I h;refine Uf (fv I o i g ?_ l b);exact Tt (thn (f pos c s σ H _ I h) λus s1 ⟨vs,j,m,r1,d⟩=>n c s1 σ j vs us Q m r1 d) k a
end
end L2
namespace HT
open PySem PyProof.Rows
section
open PySem.SeqAt
open PySem.AutoSeq1 (wpAny_loadPart')
open PySem.MeetsSeq PySem.MeetsSeq2 PySem.MeetsSeq3
end
section
variable{prog:Program}{w:World}{A:Around}{E:Value->Shared->Prop}{s:Shared}
def sIx(n d:Nat):Option Int->Nat
 | none=>d
 | some v=>if v<0 then(v+(n:Int)).toNat else min v.toNat n
def sIx_none(n d:Nat):sIx n d none=d:=rfl
theorem sIx_nat(n d k:Nat):sIx n d (some (k:Int))=min k n:=by
 show(if (k:Int)<0 then((k:Int)+(n:Int)).toNat else min (k:Int).toNat n)=min k n;rw[if_neg #[4],Int.toNat_natCast]
end
end HT
namespace L2
open PySem PySem.Spec PyProof.Rows
abbrev TO:=St->Hp->(Option Int->Hp->Prop)->Prop
def PO(X:Cx)(e:Option Expr)(t:TO):Prop:=
 ∀(b:List (Addr × Obj)) (s:Shared) (σ:St) (H:Hp) (Q:Option Int->Hp->Prop),Inv X b σ H s->t σ H Q->
  wpAny (model X.prog X.w) X.A (evalPart e X.env) (λu c=>∃ o a,Inv X b σ a c/\IsPart u o/\Q o a) X.xe s
def gi:TO:=λ_ H Q=>Q none H
def tPart(t:TE):TO:=λσ H Q=>t σ H λx a=>∃ i,x=.int i/\Q (some i) a
theorem yG{ns:∅}:∀{us:List Value},Vals (ns.map V.int) us->IntsAre us ns:=by
 induction ns with
 | nil=>intro us r;rw[List.map_nil]at r;cases r;exact .nil
 | cons n ns b=>
  intro us r;rw[S6]at r
  cases r with
  | cons r1 a=>
   obtain⟨t,e⟩:=r1;subst e;exact .cons n t (b a)
section
variable{X:Cx}{e:Expr}{te:TE}{lo hi:Option Expr}{tl th:TO}{pos p2:Pos}
theorem h9:PO X none gi:=by
 intro a s σ H Q I h;rw[evalPart_none];exact TL ⟨none,H,I,.none,h⟩
theorem dU(h:PE X e te):PO X (some e) (tPart te):=by
 intro c s σ H Q I hw;rw[evalPart_some];refine thn (h c s σ H _ I hw) λu s1 ⟨x,d,b,r1,a⟩=>?_;obtain⟨i,rfl,q⟩:=a;obtain⟨t,rfl⟩:=r1;exact⟨some i,d,b,.int i t,q⟩
def SlR(X:Cx)(r:V->Option Int->Option Int->Hp->VK->Prop):Prop:=
 ∀(d:List (Addr × Obj)) (s:Shared) (σ:St) (H:Hp) (x:V) (v c a:Value) (lo hi:Option Int) (b:Addr) (Q:VK),Inv X d σ H s->RelV x v->s.heap.IsSliceOf b c a .none->IsPart c lo->IsPart a hi->r x lo hi H Q->
  ∃ T id,typeLookup (.type T) "__getitem__"=pure (some (.builtin id))/\s.TypeIs v T/\wpAny (model X.prog X.w) X.A (getItem v (.ref b)) (EP X d σ Q) X.xe s
def tSl(r:V->Option Int->Option Int->Hp->VK->Prop)(te:TE)(tl th:TO):TE:=λσ H Q=>te σ H λx c=>tl σ c λl a=>th σ a λu b=>r x l u b Q
theorem fU{r:V->Option Int->Option Int->Hp->VK->Prop}(F:SlR X r)(i:PE X e te)(z:PO X lo tl)(k:PO X hi th):PE X (.Subscript e (.Slice lo hi none p2) pos) (tSl r te tl th):=by
 intro c s σ H Q I h;refine Subscript_ (thn (i c s σ H _ I h) λv s1 ⟨x,B,L,r1,o⟩=>?_);refine wpAny_Slice (thn (z c s1 σ B _ L o) λf t ⟨l,j,C,G,D⟩=>thn (k c t σ j _ C D) λd a ⟨u,g,K,E,p⟩=>?_);rw[evalPart_none];refine TL ?_;have y:Inv X c σ g {a with heap:=a.heap.push {cls:=.type "slice",data:=.fields #[f,d,.none]}}:=K.kept (t':=a.toks) λb M q=>S5 _ q;obtain⟨T,id,m,J,n⟩:=F c {a with heap:=a.heap.push {cls:=.type "slice",data:=.fields #[f,d,.none]}} σ g x v f d l u a.heap.objs.size Q y r1 (Heap.IsSliceOf.new ..) G E p;show wpAny (model X.prog X.w) X.A (subscriptTail e (.Slice lo hi none p2) v (.ref a.heap.objs.size)) (EP X c σ Q) X.xe {a with heap:=a.heap.push {cls:=.type "slice",data:=.fields #[f,d,.none]}};exact WR (ops:=[.ref a.heap.objs.size,v]) J m n (by with_unfolding_all rfl)
def cutV(xs:List V)(lo hi:Option Int):List V:=(xs.drop (HT.sIx xs.length 0 lo)).take (HT.sIx xs.length xs.length hi-HT.sIx xs.length 0 lo)
theorem FF(xs:List V)(lo hi:Option Int):(cutV xs lo hi).length<=xs.length:=by
 unfold cutV;rw[Tx,UP];lia
end
def ixN(n:Nat)(i:Int):Option Nat:=if 0<=i then(if i<n then some i.toNat else none) else if -(n:Int)<=i then some (i+n).toNat else none
def atI{α:Type}(xs:List α)(i:Int):Option α:=(ixN xs.length i).bind λj=>xs[j]?
theorem LT{n:Nat}{i:Int}{j:Nat}(h:ixN n i=some j):seqIndex? i n=some j/\j<n/\ -(n:Int)<=i/\i<n:=by
 unfold ixN at h;by_cases h0:0<=i
 . rw[SY h0]at h;by_cases h1:i<n
   . rw[SY h1]at h;have e:i.toNat=j:=Uw h;exact⟨by rw[seqIndex_of h0 h1,e],by lia,by lia,h1⟩
   . rw[SS h1]at h;cases h
 . rw[SS h0]at h;by_cases h1: -(n:Int)<=i
   . rw[SY h1]at h;have e:(i+n).toNat=j:=Uw h;exact⟨by rw[seqIndex_neg #[4] h1,e],by lia,h1,by lia⟩
   . rw[SS h1]at h;cases h
theorem AD{α:Type}{xs:List α}{i:Int}{v:α}(h:atI xs i=some v):∃ j,seqIndex? i xs.length=some j/\xs[j]? =some v/\j<xs.length/\ -(xs.length:Int)<=i/\i<xs.length:=by
 unfold atI at h
 cases e:ixN xs.length i with
 | none=>rw[e]at h;cases h
 | some j=>
  rw[e]at h;obtain⟨h1,h2,h3,h4⟩:=LT e;exact⟨j,h1,h,h2,h3,h4⟩
theorem fw{α:Type}{xs:List α}{j:Nat}{v:α}(h:xs[j]? =some v):atI xs (j:Int)=some v:=by
 have a:j<xs.length:=(SD.mp h).1
 have e:ixN xs.length (j:Int)=some j:=by
  unfold ixN;rw[SY #[4],SY #[4]];simp
 unfold atI;rw[e];exact h
def AE(b:Expr):Prop:=∀ o i,subscripted b false o i=operate [o,i] (getItem o i)
def IxR(X:Cx)(r:R2):Prop:=
 ∀(b a:Expr) (c:List (Addr × Obj)) (s:Shared) (σ:St) (H:Hp) (x y:V) (v u:Value) (Q:VK),Inv X c σ H s->RelV x v->RelV y u->r x y H Q->
  subscripted a false v u=operate [v,u] (getItem v u)->wpAny (model X.prog X.w) X.A (subscriptTail b a v u) (EP X c σ Q) X.xe s
def MtR(X:Cx)(id:String)(r:V->List V->Hp->VK->Prop):Prop:=
 ∀(c:List (Addr × Obj)) (s:Shared) (σ:St) (H:Hp) (x:V) (a:List V) (v:Value) (b:List Value) (Q:VK),Inv X c σ H s->RelV x v->Vals a b->r x a H Q->
  wpAny (model X.prog X.w) X.A (call (.builtin id) (v::b)) (EP X c σ Q) X.xe s
section
variable{X:Cx}{a b:Expr}{ta tb:TE}{pos:Pos}
theorem Dg{r:R2}(c:IxR X r)(f:PE X a ta)(j:PE X b tb)(m:AE b):PE X (.Subscript a b pos) (tOp r ta tb):=by
 intro g s σ H Q I h;exact Subscript_ (binT f j I h λv u e x y l k d i q=>c a b g e σ l x y v u Q k d i q (m _ _))
def rIxL(K:Frag):R2:=λx y H Q=>∃ p a i v,x=.ref p/\y=.int i/\SqL K H p a/\atI a i=some v/\Q v H
def rIxT(K:Frag):R2:=λx y H Q=>∃ p a i v,x=.ref p/\y=.int i/\SqT K H p a/\atI a i=some v/\Q v H
def rIxS:R2:=λx y H Q=>∃ z i c,x=.str z/\y=.int i/\z.length<=sizeLine/\atI z.cps.toList i=some c/\Q (.str ⟨#[c]⟩) H
theorem Gp:IxR X (rIxL X.K):=by
 intro d e g s σ H x y v u Q I l o h k;obtain⟨p,D,i,z,rfl,rfl,m,C,q⟩:=h;cases l;obtain⟨t,rfl⟩:=o;obtain⟨B,r,b,F⟩:=I.list m;obtain⟨j,h1,h2,h3,h4,h5⟩:=AD C;obtain⟨w,f,c⟩:=r.get h2;have n:=r.length;have E:=ut;have fin:EP X g σ Q w s:=⟨z,H,I,c,q⟩;by_cases h0:0<=i
 . have a:i.toNat=j:=by
    rw[seqIndex_of h0 h5]at h1;exact Uw h1
   exact item_listR b.isList h0 #[4] (by rw[a];simpa using f) fin k
 . have a:(i+(B.toArray.size:Int)).toNat=j:=by
    rw[seqIndex_neg #[4] h4]at h1;rw[S8,← n];exact Uw h1
   exact Wx (x:=w) b.isList.typeIs slot_list_getitem.lookup
    (wpAny_getItem_list_neg (Q:=λr A=>r=w/\EP X g σ Q r A) b.isList #[4] (by rw[S8] <;> lia) #[4] (by rw[a];simpa using f) ⟨rfl,fin⟩) k
theorem M5:IxR X (rIxT X.K):=by
 intro b c e s σ H x y v u Q I g m h A;obtain⟨p,B,i,z,rfl,rfl,k,o,q⟩:=h;cases g;obtain⟨t,rfl⟩:=m;obtain⟨C,r,d,E⟩:=I.tuple k;obtain⟨j,h1,h2,h3,h4,h5⟩:=AD o;obtain⟨w,f,a⟩:=r.get h2;have l:=r.length;have D:=ut;have fin:EP X e σ Q w s:=⟨z,H,I,a,q⟩
 exact Wx (x:=w) d.typeIs slot_tuple_getitem.lookup
  (getItem_tuple (j:=j) (Q:=λr n=>r=w/\EP X e σ Q r n) d #[4] #[4] (by rw[S8,← l];exact h1) (by simpa using f) ⟨rfl,fin⟩) A
theorem M6:IxR X rIxS:=by
 intro a b m s σ H x y v u Q I d f h k;obtain⟨z,i,c,rfl,rfl,o,g,q⟩:=h;obtain⟨t,rfl⟩:=d;obtain⟨l,rfl⟩:=f;obtain⟨j,h1,h2,h3,h4,h5⟩:=AD g;have e:z.cps.toList.length=z.length:=by simp[Str.length]
 rw[e]at h1 h4 h5;have n:=ut
 exact WR (VB s z t) slot_str_getitem.lookup (getItem_str (c:=c) (by
  have e1:decide (i < -(2^63:Int))=false:=SE #[4];have e2:decide (i ≥ 2^63)=false:=SE #[4];rw[e1,e2,Bool.or_false]) (by rw[h1];simpa using h2) ⟨.str ⟨#[c]⟩,H,I.tok _,⟨_,rfl⟩,q⟩) k
theorem Inv.lst{a:List (Addr × Obj)}{σ:St}{H:Hp}{s:Shared}{p:Addr}{xs:List V}(I:Inv X a σ H s)(h:H p=↥xs):
  ∃(So:List Value) (n:Nat),Vals xs So/\s.heap.get? p=some {cls:=.type "list",data:=.seq So.toArray n}/\xs.length<=sizeLine:=by
 obtain⟨z,So,n,r,e⟩:=I.hok p _ h;exact⟨So,n,r,e,z⟩
theorem Dy(b a:Option Int)(n:Nat):(sliceBounds b a none n).1=((HT.sIx n 0 b:Nat):Int)/\(sliceBounds b a none n).2.1=((HT.sIx n n a:Nat):Int)/\(sliceBounds b a none n).2.2=1:=by
 refine⟨?_,?_,rfl⟩
 . cases b with
   | none=>simp[sliceBounds,HT.sIx]
   | some i=>
    simp only[sliceBounds,HT.sIx,Option.getD_none,show(1:Int)>0 by decide,UA];by_cases h:i<0
    . simp only[h,UA] <;> lia
    . simp only[h,UQ] <;> lia
 . cases a with
   | none=>simp[sliceBounds,HT.sIx]
   | some i=>
    simp only[sliceBounds,HT.sIx,Option.getD_none,show(1:Int)>0 by decide,UA];by_cases h:i<0
    . simp only[h,UA] <;> lia
    . simp only[h,UQ] <;> lia
theorem Cn(So:List Value)(a b:Option Int):slicePick So.toArray a b none=((So.drop (HT.sIx So.length 0 a)).take (HT.sIx So.length So.length b-HT.sIx So.length 0 a)).toArray:=by
 obtain⟨h1,h2,h3⟩:=Dy a b So.toArray.size;unfold slicePick;rw[h1,h2,h3];simp only[sliceRange_one,pick_run,S8] <;> rfl
def rSlL(K:Frag):V->Option Int->Option Int->Hp->VK->Prop:=λx d c H Q=>∃ a b,x=.ref a/\SqL K H a b/\∀ p,H p=none->Q (.ref p) (upd H p (.lst (cutV b d c)))
theorem LU:SlR X (rSlL X.K):=by
 intro p s σ H x v z u d e w Q I i m j l h;obtain⟨a,c,rfl,k,q⟩:=h;cases i;obtain⟨t,r,f,n⟩:=I.list k;have g:=r.length;refine⟨"list",_,slot_list_getitem.lookup,f.isList.typeIs,?_⟩;refine Wr f.isList m j l .none (by simp) ?_ (by rw[S8] <;> lia);rw[Cn,← g];refine⟨.ref s.heap.objs.size,_,I.laid (t':=s.toks) (o:=.lst (cutV c d e)) (λb y q=>S5 _ q) (SZ _) ?_,rfl,q _ (I.hok.fresh (SZ _))⟩;exact⟨SW (FF c d e) n,_,0,(r.drop (HT.sIx c.length 0 d)).take (HT.sIx c.length c.length e-HT.sIx c.length 0 d),Ts _ rfl⟩
def flatV:V->Bool
 | .non=>true
 | .bl _=>true
 | .int _=>true
 | .str _=>true
 | _=>false
def eqV:V->V->Bool
 | .non,.non=>true
 | .bl a,.bl b=>a==b
 | .bl a,.int b=>(if a then 1 else 0)==b
 | .int a,.bl b=>a==(if b then 1 else 0)
 | .int a,.int b=>a==b
 | .str a,.str b=>a==b
 | _,_=>false
theorem M7{A:Around}{s:Shared}{y x:V}{u v:Value}(e:RelV y u)(c:RelV x v)(g:flatV y=true)(f:flatV x=true):SeqAt.EqAt A s u v (eqV y x):=by
 cases y with
 | non=>
  cases e
  cases x with
  | non=>cases c;exact SeqAt.EqAt.same _
  | bl b=>cases c;exact SeqAt.EqAt.none_bool b
  | int b=>obtain⟨t,rfl⟩:=c;exact SeqAt.EqAt.none_int b t
  | str b=>obtain⟨t,rfl⟩:=c;exact SeqAt.EqAt.none_str b t
  | _=>exact absurd (show false=true from f) SR
 | bl a=>
  cases e
  cases x with
  | non=>cases c;exact SeqAt.EqAt.bool_none a
  | bl b=>cases c;exact SeqAt.EqAt.bool_bool a b
  | int b=>obtain⟨t,rfl⟩:=c;exact SeqAt.EqAt.bool_int a b t
  | str b=>obtain⟨t,rfl⟩:=c;exact SeqAt.EqAt.bool_str a b t
  | _=>exact absurd (show false=true from f) SR
 | int a=>
  obtain⟨d,rfl⟩:=e
  cases x with
  | non=>cases c;exact SeqAt.EqAt.int_none a d
  | bl b=>cases c;exact SeqAt.EqAt.int_bool a d b
  | int b=>obtain⟨t,rfl⟩:=c;exact SeqAt.EqAt.int_int a d b t
  | str b=>obtain⟨t,rfl⟩:=c;exact SeqAt.EqAt.int_str a d b t
  | _=>exact absurd (show false=true from f) SR
 | str a=>
  obtain⟨d,rfl⟩:=e
  cases x with
  | non=>cases c;exact SeqAt.EqAt.str_none a d
  | bl b=>cases c;exact SeqAt.EqAt.str_bool a d b
  | int b=>obtain⟨t,rfl⟩:=c;exact SeqAt.EqAt.str_int a d b t
  | str b=>obtain⟨t,rfl⟩:=c;exact SeqAt.EqAt.str_str a d b t
  | _=>exact absurd (show false=true from f) SR
 | _=>exact absurd (show false=true from g) SR
def eqU(x:V)(u:Value):Bool:=match u with
 | .none=>eqV .non x
 | .bool b=>eqV (.bl b) x
 | .int i _=>eqV (.int i) x
 | .str z _=>eqV (.str z) x
 | _=>false
theorem IK{x y:V}{u:Value}(r:RelV y u)(f:flatV y=true):eqU x u=eqV y x:=by
 cases y with
 | non=>cases r;rfl
 | bl b=>cases r;rfl
 | int i=>obtain⟨t,rfl⟩:=r;rfl
 | str z=>obtain⟨t,rfl⟩:=r;rfl
 | _=>exact absurd (show false=true from f) SR
theorem rb{x:V}:∀{xs:List V} {us:List Value},Vals xs us->xs.all flatV=true->us.any (eqU x)=xs.any λy=>eqV y x
 | _,_,.nil,_=>rfl
 | y::xs,u::us,.cons r t,f=>by
  rw[VI,SA]at f;rw[UZ,UZ,IK r f.1,rb t f.2]
theorem oo{A:Around}{s:Shared}{x:V}{v:Value}(b:RelV x v)(c:flatV x=true):∀{xs:List V} {us:List Value},Vals xs us->xs.all flatV=true->∀ u∈us,SeqAt.EqAt A s u v (eqU x u)
 | _,_,.nil,_=>λu a=>by cases a
 | y::xs,u::us,.cons r t,f=>λd a=>by
  rw[VI,SA]at f;rcases SU.mp a with rfl | a
  . rw[IK r f.1];exact M7 r b f.1 c
  . exact oo b c t f.2 d a
def inV(x:V)(xs:List V):Bool:=xs.any λy=>eqV y x
def rIn(K:Frag)(b:Bool):R2:=λx y H Q=>∃ p a,y=.ref p/\(SqL K H p a\/SqT K H p a)/\flatV x=true/\a.all flatV=true/\Q (.bl (if b then !inV x a else inV x a)) H
theorem pB:OpR X (compareOp .In) (rIn X.K false):=by
 intro j s σ H x y v u Q I e g h;obtain⟨p,k,rfl,a,f,c,q⟩:=h;cases g;rcases a with a | a
 . obtain⟨b,r,d,i⟩:=I.list a;refine SeqAt.in_listAt (eqU x) d.isList (λw hw=>oo e f r c w (by simpa using hw)) ⟨.bl _,H,I,rfl,?_⟩;rw[show b.toArray.any (eqU x)=b.any (eqU x) by simp,rb r c];exact q
 . obtain⟨b,r,d,i⟩:=I.tuple a;refine SeqAt.in_tupleAt (eqU x) d (λw hw=>oo e f r c w (by simpa using hw)) ⟨.bl _,H,I,rfl,?_⟩;rw[show b.toArray.any (eqU x)=b.any (eqU x) by simp,rb r c];exact q
theorem uw:OpR X (compareOp .NotIn) (rIn X.K true):=by
 intro j s σ H x y v u Q I e g h;obtain⟨p,k,rfl,a,f,c,q⟩:=h;cases g;rcases a with a | a
 . obtain⟨b,r,d,i⟩:=I.list a;refine SeqAt.notIn_listAt (eqU x) d.isList (λw hw=>oo e f r c w (by simpa using hw)) ⟨.bl _,H,I,rfl,?_⟩;rw[show b.toArray.any (eqU x)=b.any (eqU x) by simp,rb r c];exact q
 . obtain⟨b,r,d,i⟩:=I.tuple a;refine SeqAt.notIn_tupleAt (eqU x) d (λw hw=>oo e f r c w (by simpa using hw)) ⟨.bl _,H,I,rfl,?_⟩;rw[show b.toArray.any (eqU x)=b.any (eqU x) by simp,rb r c];exact q
theorem Dz:OpR X (compareOp .NotIn) (λx y H Q=>∃ i j,x=.str i/\y=.str j/\Q (.bl (!(!(Builtin.Str.occurrences j i 0 j.length 1).isEmpty))) H):=by
 intro d s σ H x y v u Q I b a h;obtain⟨i,j,rfl,rfl,q⟩:=h;obtain⟨t,rfl⟩:=b;obtain⟨c,rfl⟩:=a;exact notIn_str ⟨.bl _,H,I,rfl,q⟩
theorem jV:CallR X (.builtin "len") (λxs H Q=>∃ p ys,xs=[.ref p]/\(SqL X.K H p ys\/SqT X.K H p ys)/\Q (.int ys.length) H):=by
 intro i s σ H xs k Q I r h;obtain⟨p,ys,rfl,a,q⟩:=h;obtain⟨u,rfl,e⟩:=dN r;cases e;have j:=ut;rcases a with a | a
 . obtain⟨f,b,d,g⟩:=I.list a;have c:=b.length;exact Calls.call_len_list d.isList (by simp only[S8] <;> lia) ⟨.int ys.length,H,I.tok _,⟨s.toks+1,by rw[S8,c]⟩,q⟩
 . obtain⟨f,b,d,g⟩:=I.tuple a;have c:=b.length;exact len_tuple d (by simp only[S8] <;> lia) ⟨.int ys.length,H,I.tok _,⟨s.toks+1,by rw[S8,c]⟩,q⟩
theorem DA:CallR X (.builtin "len") (λxs H Q=>∃ z,xs=[.str z]/\z.length<=sizeLine/\Q (.int z.length) H):=by
 intro d s σ H xs c Q I r h;obtain⟨z,rfl,a,q⟩:=h;obtain⟨u,rfl,t,rfl⟩:=dN r;have b:=ut;exact len_str #[4] ⟨.int z.length,H,I.tok _,⟨_,rfl⟩,q⟩
theorem ux:CallR X (.type "list") (λxs H Q=>∃ p ys,xs=[.ref p]/\(SqL X.K H p ys\/SqT X.K H p ys)/\∀ l,H l=none->Q (.ref l) (upd H l (.lst ys))):=by
 intro A s σ H xs B Q I r h;obtain⟨p,ys,rfl,g,q⟩:=h;obtain⟨u,rfl,z⟩:=dN r;cases z
 have fin:∀(c:List Value),Vals ys c->ys.length<=sizeLine->∀(a:Heap) (f:Nat),(∀ b x,s.heap.get? b=some x->a.get? b=some x)->
   a.get? s.heap.objs.size=some {cls:=.type "list",dict:=none,data:=.seq c.toArray f,slots:=#[]}->EP X A σ Q (.ref s.heap.objs.size) {s with heap:=a}:=λc d j a f i e=>
  ⟨.ref s.heap.objs.size,_,I.laid (t':=s.toks) i (SZ _) (show ObjOk X.prog X.w _ a _ (.lst ys) from⟨j,c,f,d,e⟩),rfl,q _ (I.hok.fresh (SZ _))⟩
 rcases g with g | g
 . obtain⟨c,d,m,j⟩:=I.list g;have y:=d.length;obtain⟨o,k,v,n,t⟩:=m.isList;exact call_list_seq p (.inl rfl) k v t (λa f i e=>fin c d j a f i e) (by simp only[S8] <;> lia)
 . obtain⟨c,d,m,j⟩:=I.tuple g;have y:=d.length;obtain⟨o,k,v,n,t⟩:=m;exact call_list_seq p (.inr rfl) k v t (λa f i e=>fin c d j a f i e) (by simp only[S8] <;> lia)
theorem Co:CallR X (.type "tuple") (λxs H Q=>∃ p ys,xs=[.ref p]/\((SqL X.K H p ys/\∀ l,H l=none->Q (.ref l) (upd H l (.tup ys)))\/(SqT X.K H p ys/\Q (.ref p) H))):=by
 intro i s σ H xs x Q I r h;obtain⟨p,ys,rfl,h⟩:=h;obtain⟨u,rfl,m⟩:=dN r;cases m;rcases h with ⟨d,q⟩ | ⟨d,q⟩
 . obtain⟨g,c,f,k⟩:=I.list d;have v:=c.length;refine call_tuple_list f.isList (λa t=>?_) (by simp only[S8] <;> lia);have j:Inv X i σ H {s with heap:=a}:=I.kept (t':=s.toks) t
   have n:Inv X i σ (upd H a.objs.size (.tup ys)) {s with heap:=a.push {cls:=.type "tuple",data:=.seq g.toArray}}:=
    j.laid (t':=s.toks) (λb o e=>S5 _ e) (SZ _) (show ObjOk X.prog X.w _ _ _ (.tup ys) from⟨k,g,c,IsTup.new _ _⟩)
   exact⟨.ref a.objs.size,_,n,rfl,q _ (j.hok.fresh (SZ _))⟩
 . obtain⟨g,c,f,k⟩:=I.tuple d;exact call_tuple_same f ⟨.ref p,H,I,rfl,q⟩
def tyV(K:Frag)(T:String)(x:V)(H:Hp):Prop:=match x with
 | .str _=>T="str"
 | .int _=>T="int"
 | .ref p=>(T="list"/\∃ b,SqL K H p b)\/(T="tuple"/\∃ o,K.lookup p=some o/\o.cls=.type "tuple"/\o.dict=none)\/
   (T="dict"/\((∃ a,H p=some (.dK a))\/∃ a,H p=some (.dT a)))\/(T="set"/\∃ S n,H p=some (.set S n))
 | _=>False
theorem IL{l:List (Addr × Obj)}{σ:St}{H:Hp}{s:Shared}{T:String}{x:V}{v:Value}(I:Inv X l σ H s)(r:RelV x v)(f:tyV X.K T x H):
  s.TypeIs v T/\∀ a,v=.ref a->∃ j,s.heap.get? a=some j/\j.dict=none:=by
 cases x with
 | str z=>
  obtain⟨t,rfl⟩:=r;cases (show T="str" from f);exact⟨VB s z t,λ_ e=>nomatch e⟩
 | int i=>
  obtain⟨t,rfl⟩:=r;cases (show T="int" from f);exact⟨typeIs_int s i t,λ_ e=>nomatch e⟩
 | ref p=>
  cases r;rcases f with ⟨rfl,u,k⟩ | ⟨rfl,o,b,q,g⟩ | ⟨rfl,b⟩ | ⟨rfl,S,n,b⟩
  . obtain⟨w,_,h,_⟩:=I.list k;refine⟨h.isList.typeIs,λa e=>?_⟩;cases e;obtain⟨o,n,e,c,g,_⟩:=h;exact⟨o,e,g⟩
  . refine⟨⟨o,I.kIn p o b,q⟩,λa e=>?_⟩;cases e;exact⟨o,I.kIn _ o b,g⟩
  . have z:∃ o,s.heap.get? p=some o/\o.ExactDict:=by
     rcases b with ⟨m,b⟩ | ⟨m,b⟩
     . obtain⟨_,_,_,_,o,_,_,e,d,_⟩:=I.hok p _ b;exact⟨o,e,d⟩
     . obtain⟨_,_,_,_,o,_,_,e,d,_⟩:=I.hok p _ b;exact⟨o,e,d⟩
    obtain⟨o,e,d⟩:=z;refine⟨⟨o,e,d.1⟩,λa e2=>?_⟩;cases e2;exact⟨o,e,d.2.1⟩
  . obtain⟨o,_,_,_,e,d,_⟩:=I.hok p _ b;refine⟨⟨o,e,d.1⟩,λa e2=>?_⟩;cases e2;exact⟨o,e,d.2.1⟩
 | _=>exact False.elim f
def Hg(K:Frag)(T:String)(r:V->List V->Hp->VK->Prop)(b:TE):TE:=λσ H Q=>b σ H λx a=>tyV K T x a/\r x [] a Q
def tBM(K:Frag)(T:String)(r:V->List V->Hp->VK->Prop)(d:TE)(t:TA):TE:=λσ H Q=>d σ H λx a=>tyV K T x a/\t σ a λc b=>r x c b Q
variable{o e:Expr}{es:List Expr}{to:TE}{t:TA}{name:Str}{apos cpos:Pos}{T id:String}{r:V->List V->Hp->VK->Prop}
theorem IM (k:PlainAttrs T) (c:Slot T name id) (d:typeOf (.builtin id)=pure (.type "method_descriptor")) (l:MtR X id r) (i:PE X o to)
  (b:attributeBase o name X.env (eval o X.env)=eval o X.env:=by rfl) (a:(apos.endLine==cpos.line)=true:=by rfl):PE X (.Call (.Attribute o name apos) [] [] cpos) (Hg X.K T r to):=by
 intro e s σ H Q I h;refine wpAny_Call_method0_late b a (thn (i e s σ H _ I h) λv s1 ⟨x,m,f,r1,j,g⟩=>?_);obtain⟨h1,h2⟩:=IL f r1 j;exact⟨T,id,k,c,d,h1,h2,Wz rfl (PySem.evalArgs_none (l e s1 σ m x [] v [] Q f r1 .nil g))⟩
theorem bC (m:PlainAttrs T) (d:Slot T name id) (i:typeOf (.builtin id)=pure (.type "method_descriptor")) (E:MtR X id r) (B:PE X o to) (C:PA X (e::es) t)
  (b:attributeBase o name X.env (eval o X.env)=eval o X.env:=by rfl)
  (f:((backTo cpos (starEach (e::es) X.env)).all (λx=>!x.1)&&(backToKw cpos (keywordEach [] X.env)).all (λx=>x.1.isSome)
   &&decide ((e::es).length+([]:List Keyword).length+(if ([]:List Keyword).isEmpty then 0 else 1)<30))=true:=by rfl)
  (c:(apos.endLine==cpos.line)=true:=by rfl) (p:starEach (e::es) X.env=(false,eval e X.env)::starEach es X.env:=by rfl) (a:(backTo cpos (starEach es X.env)).any (·.1)=false:=by rfl):
  PE X (.Call (.Attribute o name apos) (e::es) [] cpos) (tBM X.K T r to t):=by
 intro g s σ H Q I h;refine wpAny_Call_method_late b f c rfl (thn (B g s σ H _ I h) λv s1 ⟨x,w,k,r1,l,q⟩=>?_);obtain⟨h1,h2⟩:=IL k r1 l;refine⟨T,id,m,d,i,h1,h2,?_⟩;have j:=C cpos g s1 σ w _ k q;rw[p]at j ⊢;refine Wz (by show(false||(backTo cpos (starEach es X.env)).any (·.1))=false;rw[a] <;> rfl) (Calls.evalArgs_plain ?_);exact thn j λA u ⟨vs,n,y,D,z⟩=>E g u σ n x vs v A Q y r1 D z
end
def MtM(X:Cx)(id:String)(r:V->List V->Hp->VK->Prop):Prop:=
 ∀(c:List (Addr × Obj)) (s:Shared) (σ:St) (H:Hp) (x:V) (a:List V) (v:Value) (b:List Value) (Q:VK),Inv X c σ H s->RelV x v->Vals a b->r x a H Q->
  wpAny (model X.prog X.w) X.A (call (.builtin id) (v::b)) (EP X c σ Q) X.xe s
theorem Vals.one:∀{x:V} {us:List Value},Vals [x] us->∃ u,us=[u]/\RelV x u
 | _,_,.cons r .nil=>⟨_,rfl,r⟩
theorem Vals.eraseIdx:∀{xs:List V} {us:List Value} (i:Nat),Vals xs us->Vals (xs.eraseIdx i) (us.eraseIdx i)
 | _,_,_,.nil=>.nil
 | _,_,0,.cons _ t=>t
 | _,_,i+1,.cons r t=>.cons r (Vals.eraseIdx i t)
theorem Vals.reverse{xs:List V}{us:List Value}(h:Vals xs us):Vals xs.reverse us.reverse:=by
 induction h with
 | nil=>exact .nil
 | cons r t a=>rw[List.reverse_cons,List.reverse_cons];exact Vals.append a (.cons r .nil)
theorem Vals.rep{xs:List V}{us:List Value}(h:Vals xs us):∀ k:Nat,Vals (List.replicate k xs).flatten (List.replicate k us).flatten
 | 0=>.nil
 | k+1=>by
  rw[Uy,Uy,U6,U6];exact Vals.append h (Vals.rep h k)
theorem Bw{α:Type}:∀(l:List α) (i:Nat),(l.eraseIdx i).length<=l.length
 | [],_=>SZ _
 | _::_,0=>VL _
 | _::r,i+1=>Nat.succ_le_succ (Bw r i)
theorem Bx(So:List Value):∀(k:Nat) (a:List Value),
  List.foldl (λc b=>c++b) a.toArray (List.replicate k So.toArray)=(a++(List.replicate k So).flatten).toArray
 | 0,a=>by simp
 | k+1,a=>by
  have e:a.toArray++So.toArray=(a++So).toArray:=by simp
  have e2:(a++So)++(List.replicate k So).flatten=a++(List.replicate (k+1) So).flatten:=by
   rw[Uy,U6,TJ]
  rw[← e2,← Bx So k (a++So),← e,Uy,Ti]
section
variable{X:Cx}{Sk:List (Addr × Obj)}{σ:St}{H:Hp}{s:Shared}{l b:Addr}{xs ys zs:List V}
theorem Inv.lset {So its':List Value} {n:Nat} {f:Array Value->Array Value} {t':Nat} (I:Inv X Sk σ H s) (g:H l=↥xs)
  (e:s.heap.get? l=some {cls:=.type "list",data:=.seq So.toArray n}) (d:f So.toArray=its'.toArray) (a:Vals ys its') (h:ys.length<=sizeLine):
  Inv X Sk σ (upd H l (.lst ys)) {s with heap:=s.heap.update l (Obj.mapSeq f),toks:=t'}:=by
 have q:=PySem.IsL.update e f;rw[d]at q;refine I.write (x:=l) (e:=l) (by rw[g];exact trivial) (.inl rfl) (λi u b c=>(Heap.get?_update_other s.heap (Obj.mapSeq f) (Vr b)).trans c) ⟨_,q⟩ ?_;exact⟨h,its',_,a,q⟩
def Inv.lnew{So:List Value}{t':Nat}(I:Inv X Sk σ H s)(a:Vals ys So)(b:ys.length<=sizeLine):
  Inv X Sk σ (upd H s.heap.objs.size (.lst ys)) {s with heap:=s.heap.push {cls:=.type "list",data:=.seq So.toArray},toks:=t'}:=
 I.laid (λ_ _ q=>S5 _ q) (SZ _) ⟨b,So,0,a,Ts _ rfl⟩
def Inv.fresh(I:Inv X Sk σ H s):H s.heap.objs.size=none:=I.hok.fresh (SZ _)
theorem Inv.lstM(I:Inv X Sk σ H s)(a:H l=↥xs):xs.length<=sizeLine/\∃(So:List Value) (n:Nat),Vals xs So/\xs.length=So.length/\s.heap.get? l=some {cls:=.type "list",data:=.seq So.toArray n}:=by
 obtain⟨z,So,n,r,e⟩:=I.hok l _ a;exact⟨z,So,n,r,r.length,e⟩
theorem DB{n:Nat}(h:n<=sizeLine):Builtin.List.listTooLong n=false:=by
 unfold Builtin.List.listTooLong;exact SE #[4]
end
section
variable{X:Cx}
def LV:V->List V->Hp->VK->Prop:=λx vs H Q=>∃ l a y,x=.ref l/\vs=[y]/\H l=↥a/\a.length<sizeLine/\Q .non (upd H l (.lst (a++[y])))
theorem By:MtM X "list.append" LV:=by
 intro g s σ H x vs v k Q I d c h;obtain⟨l,j,y,rfl,rfl,b,m,q⟩:=h;cases d;obtain⟨u,rfl,f⟩:=c.one;obtain⟨z,a,n,r,i,e⟩:=I.lstM b;refine UK F.slot_list_append ⟨_,e,rfl⟩ F.entry_list_append (F.args_list_append_2 _ _) (PySem.list_append l a.toArray n u (by rw[S8];lia)) ⟨e,?_⟩;refine⟨.non,_,I.lset (its':=a++[u]) b e (by simp) (r.append (.cons f .nil)) ?_,rfl,q⟩;rw[Ta,WI];lia
def LW:V->List V->Hp->VK->Prop:=λx vs H Q=>∃ l b a c,x=.ref l/\vs=[.ref b]/\H l=↥a/\H b=↥c/\a.length+c.length<=sizeLine/\Q .non (upd H l (.lst (a++c)))
theorem IN:MtM X "list.extend" LW:=by
 intro B s σ H x vs v y Q I k m h;obtain⟨l,b,C,D,rfl,rfl,g,j,A,q⟩:=h;cases k;obtain⟨u,rfl,p⟩:=m.one;cases p;obtain⟨z,d,n,r,w,e⟩:=I.lstM g;obtain⟨E,a,t,o,i,e2⟩:=I.lstM j;have f:d.toArray.size+a.toArray.size<=sizeLine:=by rw[S8,S8];lia
 have c:¬ (!d.toArray.isEmpty&&Builtin.List.listTooLong (d.toArray.size+a.toArray.size))=true:=by
  rw[DB f,Bool.and_false];exact SR
 refine UK F.slot_list_extend ⟨_,e,rfl⟩ F.entry_list_extend (F.args_list_extend_2 _ _)
  (AutoSeq1.list_extend_list_list_0 l d.toArray n b a.toArray t c (by rw[S8];lia) #[4]) ⟨e,e2,?_⟩
 refine⟨.non,_,I.lset (its':=d++a) g e (by simp) (r.append o) ?_,rfl,q⟩;rw[Ta];lia
def M8:V->List V->Hp->VK->Prop:=λx vs H Q=>∃ l a i k y,x=.ref l/\vs=[.int i]/\H l=↥a/\ -(2^63)<=i/\i<2^63/\seqIndex? i a.length=some k/\a[k]? =some y/\Q y (upd H l (.lst (a.eraseIdx k)))
theorem Kx:MtM X "list.pop" M8:=by
 intro A s σ H x vs v B Q I g f h;obtain⟨l,o,i,k,y,rfl,rfl,c,h1,h2,p,d,q⟩:=h;cases g;obtain⟨u,rfl,m⟩:=f.one;obtain⟨t,rfl⟩:=m;obtain⟨z,a,n,r,j,e⟩:=I.lstM c;obtain⟨w,hw,b⟩:=r.get d
 refine UK F.slot_list_pop ⟨_,e,rfl⟩ F.entry_list_pop (F.args_list_pop_2 _ _)
  (MeetsSeq.list_pop_at l a.toArray n i t k w (fitsIndex_both h1 h2) (by rw[S8,← j];exact p) (by rw[← Vw];exact hw) (by rw[S8];lia)) ⟨e,?_⟩
 refine⟨y,_,I.lset (its':=a.eraseIdx k) c e ?_ (r.eraseIdx k) ?_,b,q⟩
 . show a.toArray.eraseIdxIfInBounds k=(a.eraseIdx k).toArray;rw[List.eraseIdxIfInBounds_toArray]
 . have:=Bw o k;lia
def rCat:R2:=λx y H Q=>∃ l b a c,x=.ref l/\y=.ref b/\H l=↥a/\H b=↥c/\a.length+c.length<=sizeLine/\∀ p,H p=none->Q (.ref p) (upd H p (.lst (a++c)))
theorem M9:OpR X (binaryOp .Add) rCat:=by
 intro p s σ H x y v u Q I g j h;obtain⟨l,b,t,w,rfl,rfl,m,d,C,q⟩:=h;cases g;cases j;obtain⟨z,c,n,r,o,e⟩:=I.lstM m;obtain⟨A,a,B,i,k,e2⟩:=I.lstM d;refine PySem.P.add_list e e2 ?_ (by rw[S8,S8];lia);have f:c.toArray++a.toArray=(c++a).toArray:=by simp
 rw[f];exact⟨.ref _,_,I.lnew (t':=s.toks) (r.append i) (by rw[Ta];lia),rfl,q _ I.fresh⟩
def rRep:R2:=λx y H Q=>∃ l k a,x=.ref l/\y=.int k/\H l=↥a/\ -(2^63)<=k/\k<2^63/\a.length*k.toNat<=sizeLine/\
 ∀ p,H p=none->Q (.ref p) (upd H p (.lst (List.replicate k.toNat a).flatten))
theorem LX{α:Type}(xs:List α)(k:Nat):(List.replicate k xs).flatten.length=k*xs.length:=by
 induction k with
 | zero=>simp
 | succ k a=>rw[Uy,U6,Ta,a,V3,WS]
theorem Na:OpR X (binaryOp .Mult) rRep:=by
 intro J s σ H x y v u Q I w B h;obtain⟨l,k,K,rfl,rfl,E,h1,h2,o,q⟩:=h;cases w;obtain⟨t,rfl⟩:=B;obtain⟨z,b,n,r,A,e⟩:=I.lstM E;have p:b.toArray.size*k.toNat<=sizeLine:=by rw[S8,← A];exact o
 have f:¬ b.toArray.size*k.toNat > (2^63-1)/8:=by
  have:(sizeLine:Nat)<=(2^63-1)/8:=by decide
  lia
 have d:¬ (!Builtin.List.listFitsIndex k)=true:=by
  rw[fitsIndex_both h1 h2];exact SR
 have c:¬ Builtin.List.listTooLong (b.toArray.size*k.toNat)=true:=by
  rw[DB p];exact SR
 have g:List.foldl (λj i=>j++i) #[] (List.replicate (if b.toArray.isEmpty=true then 0 else k.toNat) b.toArray)=(List.replicate k.toNat b).flatten.toArray:=by
  have D:∀ m:Nat,List.foldl (λj i=>j++i) #[] (List.replicate m b.toArray)=(List.replicate m b).flatten.toArray:=λm=>by
   have:=Bx b m [];rw[VQ]at this;exact this
  rw[D]
  cases b with
  | nil=>simp
  | cons a G=>rw[SS (by simp)]
 refine wpAny_binaryOp_repeat_ref (T:="list") (U:="int") #[1] ⟨_,e,rfl⟩ (λC=>typeIs_int C k t) noFill_list_mul F.fills_int_mul F.slot_int_rmul repeat_list F.slot_int_index.lookup
  (UK F.slot_int_rmul (typeIs_int s k t) F.entry_int_rmul (F.args_int_rmul_2 _ _) (int___rmul___int_list k t l b.toArray n)
   ⟨e,rfl,⟨_,e,rfl⟩,UK F.slot_list_mul ⟨_,e,rfl⟩ F.entry_list_mul (F.args_list_mul_2 _ _) (AutoListH.list___mul___list_int_3 l b.toArray n k t d f c) ⟨e,?_⟩⟩)
 rw[g];exact⟨.ref _,_,I.lnew (t':=s.toks) (r.rep k.toNat) (by rw[LX,Nat.mul_comm];exact o),rfl,q _ I.fresh⟩
end
end L2
namespace Att
open PySem PySem.W PySem.Calls PyProof.Rows
theorem ints_of_wellAll{P:Params}{h:Heap}:∀(ns:∅) (vs:List Value),WellAll P h vs (ns.map WData.int)->IntsAre vs ns:=by
 intro ns
 induction ns with
 | nil=>
  intro vs w;rw[List.map_nil]at w;cases w;exact .nil
 | cons n ns c=>
  intro vs w;rw[List.map_cons]at w
  cases w with
  | cons a b=>
   cases a;exact .cons _ _ (c _ b)
theorem script_of {l:OpenLaw} {n:Nat} (s:l.most=some n) {P:Params} {h:Heap} {args:List WData} {b:List Value}
  (c:l.row.toRowW.claim.pre args=true) (g:WellAll P h b args):
  ∃ a vs ns,b=[Value.ref a]/\args=[WData.list (ns.map WData.int)]/\h.get? a=some {cls:=.type "list",data:=.seq vs.toArray}/\IntsAre vs ns/\ns.length<=n:=by
 have f:WShape.hasAll [] args [.list .int]=true:=(pre_splitW c).1;have i:l.pre.holds [] {args:=args}=true:=(pre_splitW c).2;obtain⟨d,r,rfl,h1,h2⟩:=hasAllW_cons f;obtain rfl:=hasAllW_nil h2;obtain⟨t,rfl,h3⟩:=hasW_list h1;obtain⟨ns,rfl⟩:=items_int h3
 have j:ns.length<=n:=by
  unfold OpenLaw.pre at i
  have h4:(WTm.not (.lt (.lit (.int (n:Int))) (.len (.arg 0)))).holds [] {args:=[.list (ns.map .int)]}=true:=by
   have h4:=(holds_andW i).1;rw[s]at h4;exact h4
  have h5:=condW_of h4 (w_not (w_lt w_lit (w_len_list (w_arg rfl))));rw[List.length_map]at h5;refine Nat.le_of_not_lt λq=>?_;have p:(n:Int) < ((ns.length:Nat):Int):=by lia
  first
   | (rw[decide_eq_true p]at h5;exact absurd h5 #[1])
   | (simp at h5;lia)
 cases g with
 | cons o m=>
  cases m
  cases o with
  | list k e=>exact⟨_,_,ns,rfl,rfl,k,ints_of_wellAll ns _ e,j⟩
def post_true(l:OpenLaw)(args:List WData):l.row.toRowW.claim.post args (.bool true) args=true:=
 postW_of (r:=l.row.toRowW) (X:=(true==true))
  (show WShape.has [] (.bool true) .bool=true by first | rfl | decide | simp[WShape.has,WShape.arms,WShape.armsAll])
  (show(WTm.eq .res (.lit (.bool true))).value [] {args:=args,res:=some (.bool true),after:=args}=some (.bool (true==true)) from w_eq_bool (w_res rfl) w_lit) rfl
def attach_call {l:OpenLaw} {n:Nat} {q:Program} {b:List Str} {D:(Str->Option Value)->Heap->Prop} {C:World->Heap->Prop} {d:DefRec}
  (O:l.most=some n) (x:d.params.defaults=[])
  (k:∀(w:World) (u c:Shared) (p s:Str->Option Value) (h:Addr) (o:Obj) (y m e:Value) (a:Addr) (vs:List Value) (ns:∅),
   Ground q b [] D w u p s c.heap->C w c.heap->
   c.heap.get? h=some o->o.data=.func (docDef d.name d.params d.body d.scope y m e)->c.heap.CodeRec m d.name->p d.name=↑h->
   c.heap.get? a=some {cls:=.type "list",data:=.seq vs.toArray}->IntsAre vs ns->ns.length<=n->c.gens=#[]->
   codeAny (model l.prog w) callerA (.call (.ref h) ⟨[.ref a],[]⟩) (λr s'=>r=.ok (.ret (.bool true))/\OldK c.heap s'.heap/\s'.os=c.os/\AllBare s'.gens) c):
  WalkO q b D C l.row.toRowW d [] (λf vs=>PySem.call f vs):=by
 intro w u c p s G Y h o y m e N R L M v B t J A F S i E K z P;obtain rfl:N=.none:=Dflts.none B x;obtain rfl:R=.none:=Dflts.noKw B;obtain⟨a,vs,ns,rfl,rfl,j,g,H⟩:=script_of O i z;refine enter_call (codeAny_mono (k w u c p s h o y m e a vs ns G Y L (fd_plain M) v t j g H J) λr s' I=>?_);obtain⟨rfl,h2,h3,h4⟩:=I;exact⟨.inl ⟨.bool true,.bool true,[],rfl,λ_=>rfl,.bool true,post_true l _,λ_=>⟨List.Pairwise.nil,λ_ Q=>(nomatch Q)⟩⟩,h2,h3,h4⟩
section
variable{prog:Program}{w:World}{A:Around}{E:Value->Shared->Prop}{s:Shared}{K:Frag}
end
end Att
namespace L2
open PySem PySem.Spec PyProof.Rows
theorem uy:∀{vs:List Value} {ns:∅},IntsAre vs ns->Vals (ns.map V.int) vs
 | _,_,.nil=>.nil
 | _,_,.cons n t h=>.cons ⟨t,rfl⟩ (uy h)
def Only(H:Hp):Prop:=∀ b,H b=none\/∃ o a,H b=some (.frz o (.lst a))
theorem Ky {P:Program} {w:World} {K:Frag} {D O:Str->Option Value} {CX:CXT} {k:Nat} {R a:Addr} {Z:FuncData} {x:Str} {sp:Sp} {c:Shared} {vs:List Value} {ns:∅}
  (KX:K.In c.heap) (L:c.heap.Ns mainGlobals D) (g:c.heap.Ns builtinsNs O) (N:∀ x:Str,x≠"__name__"->O x=bootBuiltins x) (t:c.heap.NoLimit) (hg:c.gens=#[])
  (M:c.heap.get? a=some {cls:=.type "list",data:=.seq vs.toArray}) (hi:IntsAre vs ns) (X:ns.length<=sizeLine) (hr:Room k callerA)
  (F:∀ i:Heap,K.In i->i.Ns mainGlobals D->FnOk P w K D i CX k R Z [x] sp) (p:∀(s:Shared) (u:Value),BindsTo s Z ⟨[u],[]⟩ [(x,u)])
  (W:∀ H:Hp,Only H->SqL K H a (ns.map V.int)->sp [.ref a] H (λv _=>v=.bl true) λ_ _ _=>False)
  (U:∀ H e s',CX [] H c (λ_ _ _=>False) e s'->False):
  codeAny (model P w) callerA (.call (.ref R) ⟨[.ref a],[]⟩) (λr s'=>r=.ok (.ret (.bool true))/\OldK c.heap s'.heap/\s'.os=c.os/\AllBare s'.gens) c:=by
 have rv:=uy hi;have y:=hi.length
 have l:∀ H:Hp,Only H->SqL K H a (ns.map V.int)->HOk P w H c.heap->(∀ b,H b≠none->b=a)->(H a≠none->K.lookup a=none)->
   codeAny (model P w) callerA (.call (.ref R) ⟨[.ref a],[]⟩) (λr s'=>r=.ok (.ret (.bool true))/\OldK c.heap s'.heap/\s'.os=c.os/\AllBare s'.gens) c:=by
  intro H hO hS J hA hK;have f:∀{b:Addr} {o:Obj},c.heap.get? b=some o->H b=none->(hidT c.heap H).get? b=some o:=λe n=>Ks e n
  have S:∀{b:Addr} {o:Obj} {A:Array DictEntry} {C:Nat},c.heap.get? b=some o->o.data=.dict A C->H b=none:=λ{b o A C} e d=>by
   cases q:H b with
   | none=>rfl
   | some u=>
    have T:b=a:=hA b (by rw[q];simp);subst T;rw[M]at e;cases e;have d':Data.seq vs.toArray _=Data.dict A C:=d;cases d'
  have j:∀{b:Addr} {m:Str->Option Value},c.heap.Ns b m->(hidT c.heap H).Ns b m:=λ{b m} ⟨o,A,C,e,d,r⟩=>⟨o,A,C,f e (S e d),d,r⟩
  have E:K.In (hidT c.heap H):=λb o e=>f (KX b o e) (by
   cases q:H b with
   | none=>rfl
   | some u=>
    have T:b=a:=hA b (by rw[q];simp);subst T;rw[hK (by rw[q];simp)]at e;cases e)
  have hM:Mod K D (hidT c.heap H):=⟨E,j L,⟨O,j g,N⟩,let ⟨mc,h1,h2⟩:=t;⟨mc,j h1,h2⟩⟩;have e0:Env0 P w K D (hidT c.heap H) callerA [] c H:=⟨rfl,hM,λb o e=>LM e,Nat.le_of_eq (Iz _ _),trivial,λb g=>absurd (show b∈([]:List Addr) from g) (by simp),J,.of_eq hg⟩;refine WQ ((F _ E (j L)).run callerA [] c H ⟨[.ref a],[]⟩ [.ref a] [.ref a] _ _ hr e0 (p c (.ref a)) (.cons rfl .nil) (W H hO hS)) λr s' h=>?_
  cases r with
  | error e=>exact(U H e s' h).elim
  | ok fl=>
   cases fl with
   | next=>exact False.elim h
   | brk=>exact False.elim h
   | cont=>exact False.elim h
   | ret u=>
    obtain⟨v,H',os,G,Y,I,r',q⟩:=h;have q':v=.bl true:=q;subst q';obtain rfl:u=Value.bool true:=r';refine⟨rfl,OldK.of_keep λb o e=>?_,os,G⟩
    cases q:H b with
    | none=>exact Y.keep b o e q (by intro z;exact absurd (show b∈([]:List Addr) from z) (by simp)) (by simp)
    | some u=>
     rcases hO b with z | ⟨ob,xs,z⟩
     . rw[q]at z;cases z
     . have z2:=Y.frzs b ob _ z;obtain⟨e1,_⟩:=J b _ z;obtain⟨e2,_⟩:=I b _ z2;rw[e]at e1;cases e1;exact e2
 cases Q:K.lookup a with
 | some o=>
  have e:=KX a o Q;rw[M]at e;cases e;refine l (λ_=>none) (λ_=>.inl rfl) (.inr ⟨_,vs.toArray,_,Q,rfl,rfl,rfl,by rw[S8,y];exact X,by simpa using rv⟩) (λb u z=>by have B:(none:Option HO)=some u:=z;cases B) (λb z=>absurd rfl z) λz=>absurd rfl z
 | none=>
  refine l (λb=>if b=a then some (.frz {cls:=.type "list",data:=.seq vs.toArray} (.lst (ns.map V.int))) else none) (λb=>?_) (.inl (.inr ⟨{cls:=.type "list",data:=.seq vs.toArray},SY rfl⟩)) (λb u z=>?_) (λb z=>?_) λ_=>Q
  . by_cases g:b=a
    . exact .inr ⟨_,_,SY g⟩
    . exact .inl (SS g)
  . by_cases g:b=a
    . have B:=(SY g).symm.trans z;cases B;subst g;exact⟨M,by rw[Sx];exact X,vs,_,rv,M⟩
    . have B:=(SS g).symm.trans z;cases B
  . by_cases g:b=a
    . exact g
    . exact absurd (SS g) z
def LY {l:PySem.W.OpenLaw} {n k:Nat} {q:Program} {i:List Str} {O:(Str->Option Value)->Heap->Prop} {E:World->Heap->Prop} {d:DefRec} {K:Params->Frag} {CX:World->CXT} {sp:World->Sp} {x:Str}
  (Q:l.most=some n) (y:n<=sizeLine) (A:d.params.defaults=[]) (M:Room k callerA)
  (J:∀(w:World) (h:Heap),E w h->(K w.params).In h)
  (F:∀(w:World) (m:Str->Option Value) (r:Addr) (h:Heap),(K w.params).In h->h.Ns mainGlobals m->m d.name=↑r->
   ∃ z:FuncData,(∀(s:Shared) (u:Value),BindsTo s z ⟨[u],[]⟩ [(x,u)])/\
    ∀ c:Heap,(K w.params).In c->c.Ns mainGlobals m->FnOk l.prog w (K w.params) m c (CX w) k r z [x] (sp w))
  (C:∀(w:World) (H:Hp) (a:Addr) (ns:∅),ns.length<=n->Only H->SqL (K w.params) H a (ns.map V.int)->sp w [.ref a] H (λv _=>v=.bl true) λ_ _ _=>False)
  (B:∀(w:World) (H:Hp) (s:Shared) (e:Value) (s':Shared),CX w [] H s (λ_ _ _=>False) e s'->False):
  PySem.W.WalkO q i O E l.row.toRowW d [] (λf vs=>PySem.call f vs):=by
 refine Att.attach_call Q A λw s₀ S m mb r o pm cd P a vs ns G Y ho hd N t p j D L=>?_;have I:=J w _ Y;obtain⟨z,U,R⟩:=F w m r _ I G.T.g t;exact Ky I G.T.g G.T.b G.T.builtins G.T.nolimit L p j (SW D y) M R U (λH Z X=>C w H a ns D Z X) λH e s'=>B w H S e s'
def bS(s:Stmt):Arguments:=match s with
 | .FunctionDef _ a _ _ _ _ _ _ _ _=>a
 | _=>{posonlyargs:=[],args:=[],vararg:=none,kwonlyargs:=[],kw_defaults:=[],kwarg:=none,defaults:=[]}
def bu(s:Stmt):List Stmt:=match s with
 | .FunctionDef _ _ b _ _ _ _ _ _ _=>b
 | _=>[]
def aQ(s:Stmt):Scope:=match s with
 | .FunctionDef _ _ _ _ _ _ a _ _ _=>a
 | _=>{kind:=.function,names:=[],isGenerator:=false,isCoroutine:=false}
abbrev CX0:CXT:=λ_ _ _ _ _ _=>False
abbrev E0:XK:=λ_ _ _=>False
def Dh{X:Cx}:uv CX0 X E0:=λ_ _ _ _ _ _ _ h=>h.elim
structure Fun(K:Frag)(x qual:Str)(st:Stmt)(f:Addr)(fd:FuncData):Prop where
 ex:∃(oc:Value) (od:Option Addr) (kV doc pm:Value) (an:Option Addr) (Sm ct:Value) (osl:Array (Option Value)),
  fd=fnOf x qual (bS st) (bu st) (aQ st) .none kV doc pm an Sm ct/\K.lookup f=some ⟨oc,od,.func fd,osl⟩/\codeIn K Sm qual=true
 kp:keepIn K (.ref f)=true
section
variable{P:Program}{w:World}{K:Frag}{mg:Str->Option Value}{base:Heap}
theorem Fun.ok {x b:Str} {st:Stmt} {f:Addr} {l:FuncData} {N g:List Str} {k:Nat} {sp:Sp} (F:Fun K x b st f l) (S:jM N g (aQ st)) (i:∀ vs H Q E,sp vs H Q E->vs.length=g.length)
  (c:∀(d:Value) (A:Around) (a:List Env) (s:Shared) (H:Hp) (vs:List V) (Q:VK) (E:XK),Room k (A.deeper (envOfC b (aQ st) s.heap.objs.size f d))->sp vs H Q E->
   ∃ t,PSs (cxOf CX0 P w K mg base N b (aQ st) f d A a s H E).nox (bu st) t/\t {nx:=λ_ o=>Q .non o,rt:=Q} (start N vs) H):FnOk P w K mg base CX0 (k+1) f l g sp:=by
 obtain⟨v,C,z,r,B,y,d,u,m,rfl,n,e⟩:=F.ex;refine Lw n e S i λA a s H vs Q E p j=>?_;obtain⟨t,h,q⟩:=c d A a s H vs Q E p j;exact⟨t,h.nox,q⟩
theorem Fun.binds {x a:Str} {st:Stmt} {f:Addr} {j:FuncData} {e:List Str} (F:Fun K x a st f j)
  (h:∀(g b d:Value) (c:Option Addr) (i ct:Value) (us:List Value),us.length=e.length->bindArgs (fnOf x a (bS st) (bu st) (aQ st) .none g b d c i ct) ⟨us,[]⟩=pure (e.zip us)):Binds K j e []:=by
 obtain⟨m,o,g,b,d,c,i,ct,l,rfl,n,k⟩:=F.ex;exact .all (h g b d c i ct)
def IO {x a:Str} {st:Stmt} {f:Addr} {j:Value} {m g:Option Addr} {d:Array (Option Value)} {h b i e ct:Value} (l:K.lookup f=some ⟨j,m,.func (fnOf x a (bS st) (bu st) (aQ st) .none h b i g e ct),d⟩)
  (c:codeIn K e a=true) (k:keepIn K (.ref f)=true):Fun K x a st f (fnOf x a (bS st) (bu st) (aQ st) .none h b i g e ct):=⟨⟨j,m,h,b,i,g,e,ct,d,rfl,l,c⟩,k⟩
end
def aH{n:Nat}(h:n<=1000):n<sizeLine:=T7 h #[1]
section
variable{X:Cx}
theorem pv (i:Nat) {x:Str} {pos:Pos} (d:X.N[i]? =some x:=by rfl) (b:Vis X.env.scope x:=by first | exact Or.inl rfl | exact Or.inr (Or.inl rfl) | exact Or.inr (Or.inr rfl)) (c:(x==("__debug__":Str))=false:=by decide)
  (a:(x==("__classdict__":Str))=false:=by decide):PE X (.Name x pos) (tVar i):=MX d b c a
end
theorem iteF{A B:Prop}(h:B):if false=true then A else B:=by
 rw[SS SR];exact h
theorem iteT{A B:Prop}(h:A):if true=true then A else B:=by
 rw[SY rfl];exact h
def Same(H a:Hp):Prop:=∀ b o,H b=some o->a b=some o
def Same.refl(H:Hp):Same H H:=λ_ _ h=>h
abbrev SF:=@Same.refl
def Same.trans{H e d:Hp}(a:Same H e)(b:Same e d):Same H d:=λc o h=>b c o (a c o h)
theorem Same.free{H a:Hp}(e:Same H a){l:Addr}(h:a l=Option.none):H l=Option.none:=by
 cases q:H l with
 | none=>rfl
 | some o=>
  rw[e l o q]at h;cases h
theorem Same.seq{K:Frag}{H b:Hp}{a:Addr}{xs:List V}(e:Same H b)(h:SqL K H a xs):SqL K b a xs:=by
 rcases h with (h | ⟨o,h⟩) | h
 . exact .inl (.inl (e _ _ h))
 . exact .inl (.inr ⟨o,e _ _ h⟩)
 . exact .inr h
section
variable{κ:Type}[DecidableEq κ]
def valV(b:List (κ × V))(k:κ):Option V:=(b.find? λa=>decide (a.1=k)).map (·.2)
def putK(b:List (κ × V))(k:κ)(v:V):List (κ × V):=
 if (b.any λa=>decide (a.1=k))=true then b.map (λa=>if a.1=k then(a.1,v) else a) else b++[(k,v)]
theorem xp{p:κ × V}{r:List (κ × V)}{k:κ}(e:p.1=k):valV (p::r) k=some p.2:=by simp[valV,UI,e]
theorem xq{p:κ × V}{r:List (κ × V)}{k:κ}(e:¬ p.1=k):valV (p::r) k=valV r k:=by simp[valV,UI,e]
theorem DC(k:κ):∀ a:List (κ × V),(a.any λb=>decide (b.1=k))=(valV a k).isSome
 | []=>rfl
 | p::r=>by
  rw[UZ];by_cases e:p.1=k
  . simp only[xp e,SB e,UY,Option.isSome_some]
  . rw[xq e,SE e,TY];exact DC k r
theorem wF(a:List (κ × V))(k:κ)(v:V):(putK a k v).length<=a.length+1:=by
 unfold putK
 split
 . rw[Sx];lia
 . rw[Ta,S2,List.length_nil];lia
theorem RelO.isSome_eq{o:Option V}{u:Option Value}(r:RelO o u):o.isSome=u.isSome:=by
 cases o with
 | none=>cases u with
  | none=>rfl
  | some _=>exact(show False from r).elim
 | some _=>cases u with
  | none=>exact(show False from r).elim
  | some _=>rfl
theorem KV.val{d:List (κ × V)}{vs:List (κ × Value)}(r:KV d vs)(k:κ):RelO (valV d k) (valueAt vs k):=by
 unfold KV at r
 induction r with
 | nil=>exact True.intro
 | @cons p q g c h t f=>
  obtain⟨h1,h2⟩:=h;by_cases e:p.1=k
  . have a:q.1=k:=h1.symm.trans e;have b:valueAt (q::c) k=some q.2:=by simp[valueAt,UI,a]
    rw[xp e,b];exact h2
  . have a:¬ q.1=k:=λz=>e (h1.trans z);have b:valueAt (q::c) k=valueAt c k:=by simp[valueAt,UI,a]
    rw[xq e,b];exact f
theorem KV.any{b:List (κ × V)}{vs:List (κ × Value)}(r:KV b vs)(k:κ):(b.any λa=>decide (a.1=k))=vs.any λa=>decide (a.1=k):=by
 unfold KV at r
 induction r with
 | nil=>rfl
 | cons h t c=>rw[UZ,UZ,c,h.1]
theorem KV.repl{b:List (κ × V)}{vs:List (κ × Value)}(r:KV b vs)(k:κ){y:V}{u:Value}(d:RelV y u):
  KV (b.map λa=>if a.1=k then(a.1,y) else a) (vs.map λa=>if a.1=k then(a.1,u) else a):=by
 unfold KV at r ⊢
 induction r with
 | nil=>exact .nil
 | @cons p q f g h t c=>
  rw[S6,S6];refine .cons ?_ c;obtain⟨h1,h2⟩:=h;by_cases e:p.1=k
  . rw[SY e,SY (h1.symm.trans e)];exact⟨h1,d⟩
  . rw[SS e,SS (λz=>e (h1.trans z))];exact⟨h1,h2⟩
theorem KV.put{a:List (κ × V)}{vs:List (κ × Value)}(r:KV a vs)(k:κ){y:V}{u:Value}(b:RelV y u):KV (putK a k y) (stored vs k u):=by
 unfold putK stored;rw[r.any k];by_cases e:(vs.any λc=>decide (c.1=k))=true
 . rw[SY e,SY e];exact r.repl k b
 . rw[SS e,SS e];exact Paired.snoc r ⟨rfl,b⟩
def KV.length{a:List (κ × V)}{vs:List (κ × Value)}(r:KV a vs):a.length=vs.length:=WL r
end
theorem yH{P:Program}{w:World}{k:Key}{u:Value}(r:RelV (kV k) u):(dC P w).is k u=true:=by
 cases k with
 | inl i=>obtain⟨t,e⟩:=(show ∃ t,u=Value.int i t from r);subst e;exact FD P w i t
 | inr x=>obtain⟨t,e⟩:=(show ∃ t,u=Value.str x t from r);subst e;exact FE P w x t
theorem BA{P:Program}{w:World}:∀{ks:List Key} {us:List Value},Vals (ks.map kV) us->ItemsAre (dC P w) ks us
 | [],_,r=>by rw[List.map_nil]at r;cases r;exact .nil
 | k::ks,_,r=>by
  rw[S6]at r
  cases r with
  | cons h t=>exact .cons (yH h) (BA t)
abbrev KT(H:Hp):List (List Key × V)->List (List Key × Addr × Value)->Prop:=Paired λp q=>p.1=q.1/\H q.2.1=some (.tup (p.1.map kV))/\RelV p.2 q.2.2
variable{H:Hp}{Sn:List (List Key × V)}{xs:List (List Key × Addr × Value)}
theorem KT.val(r:KT H Sn xs)(k:List Key):RelO (valV Sn k) ((atKey xs k).map (·.2)):=by
 induction r with
 | nil=>exact True.intro
 | @cons p q f a h t d=>
  obtain⟨h1,_,h2⟩:=h;by_cases e:p.1=k
  . have c:q.1=k:=h1.symm.trans e;have b:atKey (q::a) k=some q.2:=by simp[atKey,UI,c]
    rw[xp e,b];exact h2
  . have c:¬ q.1=k:=λz=>e (h1.trans z);have b:atKey (q::a) k=atKey a k:=by simp[atKey,UI,c]
    rw[xq e,b];exact d
theorem KT.repl(r:KT H Sn xs)(k:List Key){y:V}{u:Value}(c:RelV y u):
  KT H (Sn.map λa=>if a.1=k then(a.1,y) else a) (xs.map (putAt k u)):=by
 induction r with
 | nil=>exact .nil
 | @cons p q d f h t b=>
  rw[S6,S6];refine .cons ?_ b;obtain⟨h1,h2,h3⟩:=h;unfold putAt;by_cases e:p.1=k
  . rw[SY e,SY (h1.symm.trans e)];exact⟨h1,h2,c⟩
  . rw[SS e,SS (λz=>e (h1.trans z))];exact⟨h1,h2,h3⟩
theorem KT.put(r:KT H Sn xs)(k:List Key){b:Addr}{y:V}{u:Value}(d:H b=some (.tup (k.map kV)))(a:RelV y u):
  KT H (putK Sn k y) (storedH xs k b u):=by
 have e:(Sn.any λc=>decide (c.1=k))=(atKey xs k).isSome:=by
  rw[DC,(r.val k).isSome_eq,Wk]
 unfold putK storedH;rw[e];by_cases q:(atKey xs k).isSome=true
 . rw[SY q,SY q];exact r.repl k a
 . rw[SS q,SS q];exact Paired.snoc r ⟨rfl,d,a⟩
def KT.keeps{a:Hp}(r:KT H Sn xs)(c:∀ b ys,H b=some (.tup ys)->a b=some (.tup ys)):KT a Sn xs:=
 Paired.mapP r λ_ _ z=>⟨z.1,c _ _ z.2.1,z.2.2⟩
section
variable{P:Program}{w:World}{H:Hp}{h:Heap}{a:Addr}
def Lx{u:HO}(b:HOk P w H h)(e:Rd H a u):ObjOk P w H h a u:=e.ok b
def vZ{Sn:List (Key × V)}(b:HOk P w H h)(e:Rd H a (.dK Sn)):Sn.length<=sizeLine/\(a==sysModules)=false/\∃ vs,KV Sn vs/\h.DictOf (dC P w) a vs:=
 show ObjOk P w H h a (.dK Sn) from Lx b e
def Ot{Sn:List (Key × V)}(b:HOk P w H h)(e:H a=some (.dK Sn)):Sn.length<=sizeLine/\(a==sysModules)=false/\∃ vs,KV Sn vs/\h.DictOf (dC P w) a vs:=vZ b (.inl e)
theorem uz{ks:List Key}(b:HOk P w H h)(e:H a=some (.tup (ks.map kV))):(tupleKind (dC P w)).is h ks a:=by
 obtain⟨_,c,r,o,h1,h2,n,h3⟩:=(show ObjOk P w H h a (.tup (ks.map kV)) from b a _ e);exact⟨o,c.toArray,n,h1,h2,h3,by simpa using BA r⟩
theorem yI{Sn:List (List Key × V)}(f:HOk P w H h)(e:Rd H a (.dT Sn)):Sn.length<=sizeLine/\(a==sysModules)=false/\
  ∃ xs,KT H Sn xs/\h.DictOfH (tupleKind (dC P w)) a xs:=by
 obtain⟨z,y,xs,r,o,i,j,h1,h2,h3,h4,h5⟩:=(show ObjOk P w H h a (.dT Sn) from Lx f e);refine⟨z,y,xs,r,o,i,j,h1,h2,h3,h4,λx b=>?_,h5⟩
 have c:∀{l:List (List Key × V)} {m:List (List Key × Addr × Value)},KT H l m->∀ x∈m,(tupleKind (dC P w)).is h x.1 x.2.1:=by
  intro l m q
  induction q with
  | nil=>intro x b;exact nomatch b
  | @cons p q k n d t g=>
   intro x b;rcases SU.mp b with e | b
   . subst e;exact uz f (by rw[← d.1];exact d.2.1)
   . exact g x b
 exact c r x b
def Ou{Sn:List (List Key × V)}(b:HOk P w H h)(e:H a=some (.dT Sn)):Sn.length<=sizeLine/\(a==sysModules)=false/\
  ∃ xs,KT H Sn xs/\h.DictOfH (tupleKind (dC P w)) a xs:=yI b (.inl e)
end
def DGet(H:Hp)(a:Addr)(y:V)(r:Option V):Prop:=
 (∃ Sn k,Rd H a (.dK Sn)/\y=kV k/\r=valV Sn k)\/∃ Sn k b,Rd H a (.dT Sn)/\y=.ref b/\H b=some (.tup (k.map kV))/\r=valV Sn k
def DPut(H:Hp)(a:Addr)(y v:V)(c:Hp):Prop:=
 (∃ Sn k,H a=some (.dK Sn)/\y=kV k/\Sn.length<sizeLine/\c=upd H a (.dK (putK Sn k v)))\/
 ∃ Sn k b,H a=some (.dT Sn)/\y=.ref b/\H b=some (.tup (k.map kV))/\Sn.length<sizeLine/\c=upd H a (.dT (putK Sn k v))
theorem DGet.k{a:Addr}{Sn:List (Key × V)}{k:Key}(e:H a=some (.dK Sn)):DGet H a (kV k) (valV Sn k):=.inl ⟨Sn,k,.inl e,rfl,rfl⟩
section
variable{X:Cx}{Sk:List (Addr × Obj)}{σ:St}{H:Hp}{s:Shared}{a:Addr}{y v:V}{u r:Value}{o:Option V}{A:Around}{E:Value->Shared->Prop}
theorem IP{Q:Value->Shared->Prop}(x:A.units+1<cLine)(I:Inv X Sk σ H s)(g:DGet H a y (some v))(n:RelV y u)(h:∀ f s',Inv X Sk σ H s'->RelV v f->Q f s'):
  wpAny (model X.prog X.w) A (getItem (.ref a) u) Q E s:=by
 rcases g with ⟨Sn,k,e,m,l⟩ | ⟨Sn,k,b,e,m,t,l⟩
 . subst m;obtain⟨z,r,vs,c,i⟩:=vZ I.hok e;obtain⟨f,hw,d⟩:=WP (v:=v) (o:=valueAt vs k) (by rw[l];exact c.val k);exact wpAny_getItem_of (yH n) i.mapOf hw (h f _ (I.tok _) d)
 . subst m;cases (show u=Value.ref b from n);obtain⟨z,r,xs,c,i⟩:=yI I.hok e;obtain⟨f,hw,d⟩:=WP (v:=v) (o:=(atKey xs k).map (·.2)) (by rw[l];exact c.val k);obtain⟨p,q,j⟩:=Ub.mp hw;refine wpAny_getItem_heap (Vo x) (uz I.hok t) i q ?_;rw[j];exact h f _ (I.tok _) d
theorem OM{Q:Value->Shared->Prop}(n:A.units+1<cLine)(I:Inv X Sk σ H s)(g:DGet H a y o)(j:RelV y u)(h:∀ s',Inv X Sk σ H s'->Q (.bool o.isSome) s'):
  wpAny (model X.prog X.w) A (compareOp .In u (.ref a)) Q E s:=by
 rcases g with ⟨Sn,k,e,i,l⟩ | ⟨Sn,k,b,e,i,m,l⟩
 . subst i;obtain⟨z,f,vs,c,d⟩:=vZ I.hok e;refine wpAny_in_of (yH j) f d.mapOf ?_;rw[← (c.val k).isSome_eq,← l];exact h _ (I.tok _)
 . subst i;cases (show u=Value.ref b from j);obtain⟨z,f,xs,c,d⟩:=yI I.hok e;refine wpAny_in_heap (Vo n) (uz I.hok m) f d ?_;have q:=(c.val k).isSome_eq;rw[Wk]at q;rw[← q,← l];exact h _ (I.tok _)
theorem LZ{Q:Value->Shared->Prop}(n:A.units+1<cLine)(I:Inv X Sk σ H s)(g:DGet H a y o)(j:RelV y u)(h:∀ s',Inv X Sk σ H s'->Q (.bool (!o.isSome)) s'):
  wpAny (model X.prog X.w) A (compareOp .NotIn u (.ref a)) Q E s:=by
 rcases g with ⟨Sn,k,e,i,l⟩ | ⟨Sn,k,b,e,i,m,l⟩
 . subst i;obtain⟨z,f,vs,c,d⟩:=vZ I.hok e;refine wpAny_notIn_of (yH j) f d.mapOf ?_;rw[← (c.val k).isSome_eq,← l];exact h _ (I.tok _)
 . subst i;cases (show u=Value.ref b from j);obtain⟨z,f,xs,c,d⟩:=yI I.hok e;refine wpAny_notIn_heap (Vo n) (uz I.hok m) f d ?_;have q:=(c.val k).isSome_eq;rw[Wk]at q;rw[← q,← l];exact h _ (I.tok _)
def Gq{h':Heap}{t':Nat}{d:HO}(I:Inv X Sk σ H s)(h:Mut (H a))(i:Heap.SameBut a s.heap h')(g:∃ q,h'.get? a=some q)(c:ObjOk X.prog X.w (upd H a d) h' a d):
  Inv X Sk σ (upd H a d) {s with heap:=h',toks:=t'}:=
 I.write (x:=a) (e:=a) h (.inl rfl) (λb q f z=>(i.2 b f).trans z) g c
def Nb{P:Program}{w:World}{c:Hp}{h':Heap}{Sn:List (Key × V)}{vs:List (Key × Value)}(z:Sn.length<=sizeLine)(e:(a==sysModules)=false)(b:KV Sn vs)(d:h'.DictOf (dC P w) a vs):
  ObjOk P w c h' a (.dK Sn):=⟨z,e,vs,b,d⟩
theorem IQ{D:Hp}{Q:Unit->Shared->Prop}(M:A.units+1<cLine)(I:Inv X Sk σ H s)(g:DPut H a y v D)(B:RelV y u)(G:RelV v r)(h:∀ s',Inv X Sk σ D s'->Q () s'):
  wpAny (model X.prog X.w) A (setItem (.ref a) u r) Q E s:=by
 rcases g with ⟨Sn,k,e,m,l,x⟩ | ⟨Sn,k,b,e,m,F,l,x⟩
 . subst m x;obtain⟨z,t,vs,d,j⟩:=Ot I.hok e;have p:vs.length<=sizeLine:=by rw[← d.length];exact z
   have o:(putK Sn k v).length<=sizeLine:=by have:=wF Sn k v;lia
   refine wpAny_setItem_pairs (hsz:=p) (yH B) j λC f n=>h _ ?_;have K:∃ q,C.get? a=some q:=let ⟨q,_,_,i,_⟩:=f;⟨q,i⟩;exact Gq I (by rw[e];exact True.intro) n K (Nb o t (d.put k G) f)
 . subst m x;cases (show u=Value.ref b from B);obtain⟨z,t,xs,d,j⟩:=Ou I.hok e;have p:xs.length<=sizeLine:=by rw[← WL d];exact z
   have o:(putK Sn k v).length<=sizeLine:=by have:=wF Sn k v;lia
   refine wpAny_setItem_heap (hsz:=p) (Vo M) (uz I.hok F) j λC f n=>h _ ?_;obtain⟨q,L,N,i,h2,h3,h4,_,h5⟩:=f;refine Gq I (by rw[e];exact True.intro) n ⟨q,i⟩ ⟨o,t,_,(d.put k F G).keeps λc O J=>?_,q,L,N,i,h2,h3,h4,h5⟩;rw[ap (Ol J e (λz=>nomatch z))];exact J
end
section
variable{X:Cx}{Sk:List (Addr × Obj)}{σ:St}{H:Hp}{s:Shared}{a:Addr}{Sn:List (Key × V)}{k:Key}{u:Value}{A:Around}{E:Value->Shared->Prop}
theorem Ov{Q:Value->Shared->Prop}(I:Inv X Sk σ H s)(e:Rd H a (.dK Sn))(h:∀ t s',Inv X Sk σ H s'->Q (.int Sn.length t) s'):wpAny (model X.prog X.w) A (call (.builtin "len") [.ref a]) Q E s:=by
 obtain⟨z,d,vs,b,c⟩:=vZ I.hok e;refine call_len_dict d c (by rw[← b.length];rw[sizeLine_eq]at z;lia) ?_;rw[← b.length];exact h _ _ (I.tok _)
end
theorem FG{X:Cx}{d:List (Addr × Obj)}{σ:St}{s:Shared}{a:Addr}{y:V}{o:Option V}(I:Inv X d σ H s)(g:DGet H a y o):s.TypeIs (.ref a) "dict":=by
 rcases g with ⟨Sn,k,e,_,_⟩ | ⟨Sn,k,b,e,_,_,_⟩
 . obtain⟨_,_,vs,_,c⟩:=vZ I.hok e;exact c.typeIs
 . obtain⟨_,_,xs,_,c⟩:=yI I.hok e;exact c.typeIs
def sDPut(d c h:TE):TS:=λD σ H=>h σ H λv f=>d σ f λx g=>c σ g λy e=>∃ a b,x=.ref a/\DPut e a y v b/\D.nx σ b
def Nc:TE:=λ_ H Q=>∀ p,H p=none->Q (.ref p) (upd H p (.dK []))
section
variable{X:Cx}
theorem IR:CallR X (.builtin "len") (λxs H Q=>∃ a Sn,xs=[V.ref a]/\H a=some (.dK Sn)/\Q (.int Sn.length) H):=by
 intro e s σ H xs g Q I r h;obtain⟨a,Sn,rfl,b,q⟩:=h;obtain⟨u,rfl,c⟩:=dN r;cases c;exact Ov I (.inl b) λt f d=>⟨.int Sn.length,H,d,⟨t,rfl⟩,q⟩
end
theorem dD{α:Type}(x:Str):∀(a b:List (Str × α)),(a++b).lookup x=match a.lookup x with | some c=>some c | none=>b.lookup x
 | [],b=>rfl
 | (k,v)::r,b=>by
  rw[List.cons_append,TR,TR]
  cases x==k with
  | true=>rfl
  | false=>exact dD x r b
theorem mL:∀(names:List (Str × NameKind)) (n:Nat) (a cl:List (Str × Addr)),cellsFrom n names (a++cl)=cellsFrom n names a++cl
 | [],_,_,_=>rfl
 | (y,k)::r,n,a,cl=>by
  unfold cellsFrom
  split
  . rw[← List.cons_append];exact mL r _ _ cl
  . exact mL r _ _ cl
theorem i6{x:Str}{c:Addr}:∀(names:List (Str × NameKind)) (n:Nat) (a:List (Str × Addr)),(x,c)∈cellsFrom n names a->(x,NameKind.cell)∈names\/(x,c)∈a
 | [],_,_,h=>.inr h
 | (y,k)::r,n,a,h=>by
  unfold cellsFrom at h
  split at h
  . rename_i b
    have b:k=.cell:=by simpa using b
    subst b;rcases i6 r _ _ h with z | z
    . exact .inl (SM _ z)
    . rcases SU.mp z with z | z
      . cases z;exact .inl SN
      . exact .inr z
  . rcases i6 r _ _ h with z | z
    . exact .inl (SM _ z)
    . exact .inr z
theorem sQ {env:Env} (f:Str × NameKind->List (Str × Addr)->Sem (ForInStep (List (Str × Addr))))
  (n:∀ name kind cs,f (name,kind) cs=if kind==.free then(do let a ← cellOf env name;pure (.yield ((name,a)::cs))) else pure (.yield cs)):
  ∀(names:List (Str × NameKind)) (d:List (Str × Addr)),(∀ x,(x,NameKind.free)∈names->∃ c,env.cells.lookup x=some c)->(∀ x c,d.lookup x=some c->env.cells.lookup x=some c)->
   ∃ cl,forIn names d f=(pure cl:Sem _)/\(∀ x c,cl.lookup x=some c->env.cells.lookup x=some c)/\(∀ x,((x,NameKind.free)∈names\/∃ c,d.lookup x=some c)->∃ c,cl.lookup x=some c)
 | [],d,_,h2=>⟨d,rfl,h2,λx h=>h.elim (λz=>nomatch z) id⟩
 | (y,k)::r,d,h1,h2=>by
  rw[List.forIn_cons,n];by_cases i:(k==NameKind.free)=true
  . rw[SY i];have m:k=.free:=by simpa using i
    subst m;obtain⟨c,o⟩:=h1 y SN;have e:(cellOf env y:Sem Addr)=pure c:=by unfold cellOf;rw[o]
    rw[e]
    obtain⟨cl,e1,e2,j⟩:=sQ f n r ((y,c)::d) (λx b=>h1 x (SM _ b)) (λx l b=>by
     rw[TR]at b
     cases g:x==y with
     | true=>rw[g]at b;cases b;rw[UJ.mp g];exact o
     | false=>rw[g]at b;exact h2 x l b)
    refine⟨cl,?_,e2,λx b=>j x ?_⟩
    . exact e1
    . rcases b with b | ⟨l,b⟩
      . rcases SU.mp b with z | z
        . cases z;exact .inr ⟨c,by rw[TR];simp⟩
        . exact .inl z
      . cases g:x==y with
        | true=>exact .inr ⟨c,by rw[TR,g]⟩
        | false=>exact .inr ⟨l,by rw[TR,g];exact b⟩
  . rw[SS i];obtain⟨cl,e1,e2,j⟩:=sQ f n r d (λx b=>h1 x (SM _ b)) h2;refine⟨cl,e1,e2,λx b=>j x ?_⟩;rcases b with b | b
    . rcases SU.mp b with z | z
      . cases z;exact absurd rfl i
      . exact .inl z
    . exact .inr b
variable{scope:Scope}
theorem Hh{env:Env}(h:∀ x,(x,NameKind.free)∈scope.names->∃ c,env.cells.lookup x=some c):
  ∃ cl,closureFor scope env=pure cl/\(∀ x c,cl.lookup x=some c->env.cells.lookup x=some c)/\∀ x,(x,NameKind.free)∈scope.names->∃ c,cl.lookup x=some c:=by
 obtain⟨cl,e1,e2,e⟩:=sQ (env:=env) (λx b=>match x with | (name,kind)=>if kind==.free then(do let a ← cellOf env name;pure (.yield ((name,a)::b))) else pure (.yield b)) (λ_ _ _=>rfl) scope.names [] h (λx c d=>nomatch d);refine⟨cl,?_,e2,λx d=>e x (.inl d)⟩
 have:closureFor scope env=(forIn scope.names [] (λx b=>match x with | (name,kind)=>if kind==.free then(do let a ← cellOf env name;pure (.yield ((name,a)::b))) else pure (.yield b)) >>= λb=>pure b):=by
  simp only[closureFor]
 rw[this,e1];rfl
def IS(scope:Scope)(cl:List (Str × Addr))(C:Addr)(env:Env):Env:=
 {newEnv scope C env.globals (cellsFrom (C+1) scope.names cl) env.qual none .none (some env) builtinsNs with scope:=relabel scope env}
theorem Kz {M:Model} {A:Around} {E:Value->Shared->Prop} {s:Shared} {cl:List (Str × Addr)} {env:Env} {Q:Env->Shared->Prop}
  (e:Q (newEnv scope s.heap.objs.size env.globals (cellsFrom (s.heap.objs.size+1) scope.names cl) env.qual none .none (some env) builtinsNs) {s with heap:=pushCells (s.heap.push {cls:=.type "dict",data:=.dict #[]}) scope.names}):
  wpAny M A (newFunctionEnv scope env.globals cl [] env.qual none .none (some env)) Q E s:=by
 simp only[newFunctionEnv,Option.isSome_some,UA];refine To (wpAny_alloc ?_);refine To (wpAny_layCells _ (λd a b=>by cases c:a==NameKind.cell <;> simp[c]) _ _ _ _ ?_);rw[show({s with heap:=s.heap.push {cls:=.type "dict",data:=.dict #[]}}:Shared).heap.objs.size=s.heap.objs.size+1 from UO ..];refine To ?_;rw[List.forIn_nil];exact TL (TL e)
section
variable{prog:Program}{w:World}{A:Around}{E:Value->Shared->Prop}{R:Result->Shared->Prop}{s:Shared}
theorem IT {g a d:Expr} {f:List Expr} {scope:Scope} {pos:Pos} {it i:Value} {env:Env} (I:Nat->Shared->Prop)
  (turn:∀ n s,I n s->wpAny (model prog w) A (pyNext it) (λr o=>match r with
   | none=>R (.ok .next) o
   | some v=>wpAny (model prog w) A (letOwnedTupleGo a it v) (λ_ k=>wpAny (model prog w) A (assign a env v) (λ_ y=>
     wpAny (model prog w) A (forIn f true λc r=>if r=true then do let j ← isTrue c env (eval c env);pure (ForInStep.yield j) else pure (ForInStep.yield r)) (λj p=>
      if j=true then wpAny (model prog w) A (eval g env) (λx t=>
       wpAny (model prog w) A (call (.builtin "list.append") [i,x]) (λ_ q=>∃ m,m<n/\I m q) (notedBy (model prog w) A env λe s'=>R (.error e) s') t) (notedBy (model prog w) A env λe s'=>R (.error e) s') p
      else ∃ m,m<n/\I m p) (notedBy (model prog w) A env λe s'=>R (.error e) s') y) (notedBy (model prog w) A env λe s'=>R (.error e) s') k) (notedBy (model prog w) A env λe s'=>R (.error e) s') o) (notedBy (model prog w) A env λe s'=>R (.error e) s') s)
  (n:Nat) (h:I n s):
  codeAny (model prog w) A (.compLoop (.ListComp g [⟨a,d,f,0⟩] scope pos) 0 it i env) R s:=by
 refine codeAny_loop rfl I (λn s D=>?_) n h;show wpAny _ A ((compTurn (.ListComp g [⟨a,d,f,0⟩] scope pos) 0 it i env).onRaise (λx=>do noteFrame x env;theTreesLotGoes x)) _ _ s;refine wpAny_noted ?_;rw[compTurn_list];refine To (WM (To (T4 (turn n s D) (λr o z=>?_) λ_ _ b=>b)))
 cases r with
 | none=>exact TL z
 | some v=>
  refine To (T4 z (λ_ k l=>?_) λ_ _ b=>b);refine To (T4 l (λ_ y E=>To (T4 E (λj p u=>?_) λ_ _ b=>b)) λ_ _ b=>b)
  cases j with
  | false=>exact TL ⟨rfl,u⟩
  | true=>
   exact To (To (T4 u (λx t B=>To (T4 B (λ_ q C=>TL (TL ⟨rfl,C⟩)) λ_ _ b=>b)) λ_ _ b=>b))
end
variable{scope:Scope}
theorem oq{env:Env}{x:Str}{k:NameKind}(h:(relabel scope env).names.lookup x=some k):∃ b,scope.names.lookup x=some b/\(k=b\/(b=.free/\k=.cell)):=by
 unfold relabel at h;dsimp only at h;generalize scope.names=names at h ⊢
 induction names with
 | nil=>cases h
 | cons p r d=>
  obtain⟨n,k0⟩:=p;rw[S6]at h;rw[TR]
  cases a:x==n with
  | true=>
   refine⟨k0,rfl,?_⟩;dsimp only at h
   split at h
   . rename_i c
     rw[TR,a]at h;cases h;simp only[SA,UJ]at c;exact .inr ⟨c.1.1,rfl⟩
   . rw[TR,a]at h;cases h;exact .inl rfl
  | false=>
   dsimp only at h;refine d ?_
   split at h
   . rw[TR,a]at h;exact h
   . rw[TR,a]at h;exact h
def blkCx(X:Cx)(N:List Str)(scope:Scope)(cl:List (Str × Addr))(s:Shared)(H:Hp)(fp:List Addr):Cx where
 prog:=X.prog
 w:=X.w
 K:=X.K
 mg:=X.mg
 base:=X.base
 A:=X.A
 N:=N
 s₀:=s
 H₀:=H
 env:=IS scope cl (s.heap.objs.size+1) X.env
 outer:=X.stack
 stack:=X.stack
 ex:=fp
 fn:=λx=>scope.names.lookup x==some .cell
 calm:=X.calm
 pn:=[]
 xe:=λf g=>(∃(d:List (Addr × Obj)) (σ:St),Inv X d σ H s/\∀ b∈fp,FpOk X d H b)->notedBy (model X.prog X.w) X.A (IS scope cl (s.heap.objs.size+1) X.env) (λx c=>∃ m,c.heap.Ns (s.heap.objs.size+1) m/\∀ e,Heap.SameBut (s.heap.objs.size+1) c.heap e->∀ a:Env,a.locals=s.heap.objs.size+1->
  wpAny (model X.prog X.w) X.A (passOn "comprehension.variables-let-go" x a:Sem Value) (λ_ _=>False) X.xe {c with heap:=e}) f g
def subσ(ix:List (Option Nat))(σ:St):St:=ix.map λo=>match o with | none=>none | some i=>match σ[i]? with | some v=>v | none=>none
structure BlkOk(X:Cx)(N:List Str)(ix:List (Option Nat))(scope:Scope):Prop where
 kind:scope.kind=.function
 nd:N.Nodup
 len:ix.length=N.length
 names:(scope.names.map (·.1)).Nodup
 free:∀ x,(x,NameKind.free)∈scope.names->X.env.kindOf x=some .cell\/X.env.kindOf x=some .free
 at_:∀(j i:Nat) (x:Str),N[j]? =some x->ix[j]? =some (some i)->X.N[i]? =some x/\(x,NameKind.free)∈scope.names
theorem gc{α:Type}:∀{l:List (Str × α)} {x:Str} {k:α},(l.map (·.1)).Nodup->(x,k)∈l->l.lookup x=some k
 | (y,k0)::r,x,k,nd,h=>by
  rw[S6,Ty]at nd;rw[TR];rcases SU.mp h with e | e
  . cases e;simp
  . have:x≠y:=by
     rintro rfl;exact nd.1 (SL.mpr ⟨(x,k),e,rfl⟩)
    have a:(x==y)=false:=by simpa using this
    rw[a];exact gc nd.2 e
theorem IU {X:Cx} {Sk:List (Addr × Obj)} {σ:St} {H:Hp} {s:Shared} {N:List Str} {ix:List (Option Nat)} {cl:List (Str × Addr)} {fp:List Addr} (B:BlkOk X N ix scope)
  (I:Inv X Sk σ H s) (g:∀ x c,cl.lookup x=some c->X.env.cells.lookup x=some c) (Q:∀ x,(x,NameKind.free)∈scope.names->∃ c,cl.lookup x=some c)
  (C:∀ b∈fp,FpOk X Sk H b) (Z:∀ b∈fp,∃ o,s.heap.get? b=some o/\∀ v,o.data≠.cell v):
  Inv (blkCx X N scope cl s H fp) [] (subσ ix σ) (upd H s.heap.objs.size (.lst []))
   {s with heap:=pushCells ((s.heap.push {cls:=.type "list",data:=.seq #[]}).push {cls:=.type "dict",data:=.dict #[]}) scope.names}:=by
 have R:(s.heap.push {cls:=.type "list",data:=.seq #[]}).objs.size=s.heap.objs.size+1:=UO ..;have S:((s.heap.push {cls:=.type "list",data:=.seq #[]}).push {cls:=.type "dict",data:=.dict #[]}).objs.size=s.heap.objs.size+2:=by rw[UO,R]
 have W:∀ b o,s.heap.get? b=some o->(pushCells ((s.heap.push {cls:=.type "list",data:=.seq #[]}).push {cls:=.type "dict",data:=.dict #[]}) scope.names).get? b=some o:=
  λb o e=>VR _ _ b o (S5 _ (S5 _ e))
 have hl:(pushCells ((s.heap.push {cls:=.type "list",data:=.seq #[]}).push {cls:=.type "dict",data:=.dict #[]}) scope.names).get? s.heap.objs.size=some {cls:=.type "list",data:=.seq #[]}:=
  VR _ _ _ _ (S5 _ (Ts _ rfl))
 have D:=cellsFrom_ok scope.names ((s.heap.push {cls:=.type "list",data:=.seq #[]}).push {cls:=.type "dict",data:=.dict #[]}) (s.heap.objs.size+2) [] ⟨λ_ _ M=>(nomatch M),List.Pairwise.nil⟩ (by rw[S];exact SZ _);rw[S]at D
 have f:(blkCx X N scope cl s H fp).env.cells=cellsFrom (s.heap.objs.size+2) scope.names []++cl:=by
  show cellsFrom (s.heap.objs.size+1+1) scope.names cl=_;rw[← VQ cl,mL];simp
 have a:∀ x c,(blkCx X N scope cl s H fp).env.cells.lookup x=some c->((x,c)∈cellsFrom (s.heap.objs.size+2) scope.names []/\(x,NameKind.cell)∈scope.names)\/((cellsFrom (s.heap.objs.size+2) scope.names []).lookup x=none/\cl.lookup x=some c):=λx c e=>by
  rw[f,dD]at e
  cases q:(cellsFrom (s.heap.objs.size+2) scope.names []).lookup x with
  | none=>rw[q]at e;exact .inr ⟨rfl,e⟩
  | some T=>
   rw[q]at e;cases e;have m:=T3 q;refine .inl ⟨m,?_⟩;rcases i6 _ _ _ m with z | z
   . exact z
   . exact nomatch z
 have l:∀ x c,cl.lookup x=some c->c<s.heap.objs.size:=λx c e=>by
  obtain⟨v,q⟩:=I.cell x c (g x c e);exact q.lt
 have G:H s.heap.objs.size=none:=I.hok.fresh (SZ _)
 have E:∀ b,s.heap.objs.size<b->(upd H s.heap.objs.size (.lst [])) b=none:=λb h=>by
  rw[ap (V2 h)];exact I.hok.fresh (Tv h)
 have P:∀ b∈fp,b<s.heap.objs.size:=λb h=>by
  obtain⟨o,e,_⟩:=Z b h;exact Tc e
 have U:=I.env0;have d:∀ x c,(x,c)∈cellsFrom (s.heap.objs.size+2) scope.names []->s.heap.objs.size+2<=c:=λx c m=>(D.empty x c m).2
 refine⟨⟨I.ok.mod,B.kind,I.ok.glob,I.ok.blt,VL _,λx y c e1 e2=>?_,λx hx=>?_,λx c hx e=>?_,I.ok.hd,I.ok.frames,.inl rfl,λb h=>⟨?_,λx c e=>?_⟩,U.bs,U.bsz,λb o e h=>?_,λb h ad=>?_,U.funs,U.frf⟩,
  rfl,I.bare,Un.laid W (SZ _) G,⟨λ_=>none,?_,λj x v e1 e2 e3=>?_⟩,λx c e=>?_,E _ (Vz _),λx c e=>?_,λp hp=>absurd (show p∈([]:List (Addr × Obj)) from hp) (by simp),?_,?_⟩
 . rcases a x c e1 with ⟨A,k1⟩ | ⟨L,t⟩ <;> rcases a y c e2 with ⟨m2,k2⟩ | ⟨n2,w⟩
   . exact name_of_addr D.apart A m2
   . exact absurd (Tl (l _ _ w) (SW (VC _ _) (d _ _ A))) (Uj _)
   . exact absurd (Tl (l _ _ t) (SW (VC _ _) (d _ _ m2))) (Uj _)
   . exact I.ok.inj x y c (g _ _ t) (g _ _ w)
 . have K:(relabel scope X.env).names.lookup x=some .cell\/(relabel scope X.env).names.lookup x=some .free:=hx
   have Y:scope.names.lookup x=some .cell\/scope.names.lookup x=some .free:=by
    rcases K with z | z
    . obtain⟨k',e,r | r⟩:=oq z
      . rw[← r]at e;exact .inl e
      . rw[r.1]at e;exact .inr e
    . obtain⟨k',e,r | r⟩:=oq z
      . rw[← r]at e;exact .inr e
      . cases r.2
   rw[f];rcases Y with z | z
   . obtain⟨c,q⟩:=sP (n:=s.heap.objs.size+2) z;exact⟨c,by rw[dD,q]⟩
   . obtain⟨c,q⟩:=Q x (T3 z)
     cases w:(cellsFrom (s.heap.objs.size+2) scope.names []).lookup x with
     | none=>exact⟨c,by rw[dD,w];exact q⟩
     | some T=>exact⟨T,by rw[dD,w]⟩
 . have K:scope.names.lookup x=some .cell:=by simpa [blkCx] using hx
   rcases a x c e with ⟨A,k1⟩ | ⟨L,t⟩
   . exact SW (VC _ _) (d _ _ A)
   . obtain⟨T,q⟩:=sP (n:=s.heap.objs.size+2) K;rw[q]at L;cases L
 . exact TB (Uu (P b h))
 . rcases a x c e with ⟨A,k1⟩ | ⟨L,t⟩
   . exact V2 (Tl (P b h) (SW (VC _ _) (d _ _ A)))
   . exact(C b h).2.2.2.2.1 x c (g _ _ t)
 . rcases(C b h).2.2.2.1 with z | z
   . exact I.ok.noex b o e z
   . exact absurd (Tl (Tc e) (SW I.ok.bsz z)) (Uj _)
 . rcases SU.mp (I.stkSub b ad) with z | z
   . exact(C b h).2.1 z
   . exact(C b h).2.2.1 z
 . show Heap.Ns _ (s.heap.objs.size+1) _;rw[← R];exact(Heap.Ns.new _ (.type "dict")).keeps (VR _ _)
 .
   unfold subσ at e2;rw[SI]at e2
   cases q:ix[j]? with
   | none=>rw[q]at e2;cases e2
   | some o=>
    rw[q]at e2
    cases o with
    | none=>cases e2
    | some i=>
     simp only[Option.map_some,Option.some.injEq]at e2;obtain⟨hN,M⟩:=B.at_ j i x e1 q
     have hσ:σ[i]? =some (some v):=by
      cases w:σ[i]? with
      | none=>rw[w]at e2;cases e2
      | some z=>rw[w]at e2;exact congrArg some e2
     obtain⟨m,hn,ab⟩:=I.loc;have k:=B.free x M;have O:Vis X.env.scope x:=k.elim (λz=>.inr (.inl z)) λz=>.inr (.inr z);obtain⟨u,ru,lk⟩:=ab i x v hN hσ O;refine⟨u,ru,?_⟩;obtain⟨c,hc⟩:=Q x M
     have F:(cellsFrom (s.heap.objs.size+2) scope.names []).lookup x=none:=by
      cases w:(cellsFrom (s.heap.objs.size+2) scope.names []).lookup x with
      | none=>rfl
      | some T=>
       rcases i6 _ _ _ (T3 w) with z | z
       . have a1:=gc B.names z;have a2:=gc B.names M;rw[a1]at a2;cases a2
       . exact nomatch z
     have J:(blkCx X N scope cl s H fp).env.cells.lookup x=some c:=by rw[f,dD,F];exact hc
     have ac:(blkCx X N scope cl s H fp).env.kindOf x=some .cell\/(blkCx X N scope cl s H fp).env.kindOf x=some .free:=by
      rcases e3 with z | z | z
      . obtain⟨k',e,r | r⟩:=oq (show(relabel scope X.env).names.lookup x=some .local from z)
        . rw[gc B.names M]at e;cases e;cases r
        . cases r.2
      . exact .inl z
      . exact .inr z
     refine .inr ⟨ac,c,J,?_⟩;rcases lk with ⟨k1,_⟩ | ⟨_,c2,e4,z⟩
     . rcases k with z | z <;> rw[k1]at z <;> cases z
     . rw[g x c hc]at e4;cases e4;exact z.keeps W
 . rcases a x c e with ⟨A,k1⟩ | ⟨L,t⟩
   . exact⟨none,(D.empty x c A).1⟩
   . obtain⟨v,z⟩:=I.cell x c (g _ _ t);exact⟨v,z.keeps W⟩
 . rcases a x c e with ⟨A,k1⟩ | ⟨L,t⟩
   . exact E c (Tl (Nat.lt_add_of_pos_right #[1]) (d _ _ A))
   . rw[ap (TB (l _ _ t))];exact I.freeC x c (g _ _ t)
 . exact I.hok.laid W (SZ _) ⟨TF _,[],0,.nil,hl⟩
 . show(subσ ix σ).length=N.length;unfold subσ;rw[Sx];exact B.len
def PTs(X:Cx)(a:List Expr)(t:TT):Prop:=
 ∀(b:List (Addr × Obj)) (s:Shared) (σ:St) (H:Hp) (Q:Bool->Hp->Prop),Inv X b σ H s->t σ H Q->
  wpAny (model X.prog X.w) X.A (forIn a true λc r=>if r=true then do let ok ← isTrue c X.env (eval c X.env);pure (ForInStep.yield ok) else pure (ForInStep.yield r)) (TP X b σ Q) X.xe s
def tTrue:TT:=λ_ H Q=>Q true H
def aP{X:Cx}:PTs X [] tTrue:=λ_ _ _ H _ I h=>wpAny_tests_nil ⟨H,I,h⟩
def bc{X:Cx}{c:Expr}{t:TT}(h:PT X c t):PTs X [c] t:=λa s σ H Q I q=>wpAny_tests_one (h a s σ H Q I q)
def DD(ix:List (Option Nat))(r:TI)(g:TG)(s:TT)(te:TE)(fin:Addr->Hp->Prop):St->Hp->Prop:=λσ H=>r σ H λJ j=>∀ l,j l=none->
 ∃ W:Nat->Nat->St->Hp->Prop,(∃ m,W 0 m (subσ ix σ) (upd j l (.lst [])))/\∀ i m o a,W i m o a->
  (J.stop i a/\fin l a)\/(J.go i a/\∃ N:St->Hp->Prop,(∀ c d,N c d->∃ k,k<m/\W (i+1) k c d)/\∀ x p,J.yld i a x p->g x o p λe q=>s e q λb h=>
   if b=true then te e h λy n=>∃ f,n l=↥f/\f.length<sizeLine/\N e (upd n l (.lst (f++[y]))) else N e h)
section
variable{X:Cx}{Sk:List (Addr × Obj)}{σ σ':St}{H H':Hp}{s s':Shared}{N:List Str}{scope:Scope}{cl:List (Str × Addr)}{fp:List Addr}
theorem Gr{h':Heap}(I:Inv X Sk σ H s)(J:Inv (blkCx X N scope cl s H fp) [] σ' H' s')(i:∀ b∈fp,FpOk X Sk H b)(f:Heap.SameBut (s.heap.objs.size+1) s'.heap h'):Inv X Sk σ H' {s' with heap:=h'}:=by
 have u:Un (frs X.stack) fp H H' s.heap s'.heap:=J.base;have j:H' (s.heap.objs.size+1)=none:=J.free;have h:∀ b o,s.heap.get? b=some o->b≠s.heap.objs.size+1:=λb o e=>TB (Uu (Tc e));refine I.call' (s':={s' with heap:=h'}) (ch:=fp) J.os ⟨λb o e n a d=>?_,λb o e n a d=>?_,u.free,λb o e d=>?_,u.tups,u.frzs,u.tbls⟩ (λb v e=>?_) J.bare λb a=>?_
 . exact(f.2 b (h b o e)).trans (u.keep b o e n a d)
 . obtain⟨t,q⟩:=u.slot b o e n a d;exact⟨t,(f.2 b (h b o e)).trans q⟩
 . obtain⟨p,q⟩:=u.there b o e d;exact⟨p,(f.2 b (h b o e)).trans q⟩
 . refine(J.hok b v e).stay (λc x g q=>(f.2 c ?_).trans q) (λ_ q=>q) λ_ _ q=>q;rintro rfl;rcases g with rfl | g
   . rw[j]at e;cases e
   . rw[j]at g;cases g
 . obtain⟨y,k,w,m,l,r⟩:=i b a;exact⟨m,k,l,r⟩
def DE {tg t K:Expr} {G:List Expr} {pos:Pos} {ix:List (Option Nat)} {wi:TI} {g:TG} {tt:TT} {te:TE} {fin:Addr->Hp->Prop} {RR:Value->Addr->Result->Shared->Prop} (B:BlkOk X N ix scope) (hc:X.calm=true)
  (hi:PI X tg t wi) (hg:∀ cl s H fp,PG (blkCx X N scope cl s H fp) tg g) (ht:∀ cl s H fp,PTs (blkCx X N scope cl s H fp) G tt) (he:∀ cl s H fp,PE (blkCx X N scope cl s H fp) K te)
  (al:∀ x c,cl.lookup x=some c->X.env.cells.lookup x=some c) (aq:∀ x,(x,NameKind.free)∈scope.names->∃ c,cl.lookup x=some c)
  (I:Inv X Sk σ H s) (h:DD ix wi g tt te fin σ H)
  (ok:∀(f:Shared) (j:Hp) (fp:List Addr) (σ3:St) (H3:Hp) (s3:Shared),Inv X Sk σ j f->(∀ b∈fp,FpOk X Sk j b)->Inv (blkCx X N scope cl f j fp) [] σ3 H3 s3->fin f.heap.objs.size H3->RR (.ref f.heap.objs.size) (f.heap.objs.size+1) (.ok .next) s3)
  (S:∀(a C:Addr) (x:Value) (s':Shared),(∃ m,s'.heap.Ns C m/\∀ h',Heap.SameBut C s'.heap h'->∀ k:Env,k.locals=C->wpAny (model X.prog X.w) X.A (passOn "comprehension.variables-let-go" x k:Sem Value) (λ_ _=>False) X.xe {s' with heap:=h'})->RR (.ref a) C (.error x) s'):
  wpAny (model X.prog X.w) X.A (eval t X.env) (λx s₁=>wpAny (model X.prog X.w) X.A (pyIter x) (λit s₂=>wpAny (model X.prog X.w) X.A (newList []) (λab s₃=>
   wpAny (model X.prog X.w) X.A (newFunctionEnv scope X.env.globals cl [] X.env.qual none .none (some X.env)) (λk s₄=>
    codeAny (model X.prog X.w) X.A (.compStart (.ListComp K [⟨tg,t,G,0⟩] scope pos) 0 it ab {k with scope:=relabel scope X.env}) (RR ab k.locals) s₄) X.xe s₃) X.xe s₂) X.xe s₁) X.xe s:=by
 refine thn (hi Sk s σ H _ I h) λv s1 h1=>thn h1 λaw f h2=>?_;obtain⟨it,fp,tn,J,j,e,I2,T,M,f2,h2⟩:=h2;subst e;refine wpAny_newList (Kz ?_) (TF _);have au:(f.heap.push {cls:=.type "list",data:=.seq (([]:List Value)).toArray}).objs.size=f.heap.objs.size+1:=UO ..;dsimp only;rw[au];have I3:=IU (fp:=fp) B I2 al aq f2 (T.obj _ _ M);obtain⟨W,⟨m0,w0⟩,turn⟩:=h2 f.heap.objs.size I2.fresh
 have hk:∀ b o,f.heap.get? b=some o->(pushCells ((f.heap.push {cls:=.type "list",data:=.seq #[]}).push {cls:=.type "dict",data:=.dict #[]}) scope.names).get? b=some o:=
  λb o e=>VR _ _ b o (S5 _ (S5 _ e))
 have Z:=T.keep _ _ _ M λb _ o e=>hk b o e
 have ai:∀ b∈fp,(upd j f.heap.objs.size (.lst [])) b=none:=λb z=>by
  obtain⟨o,e,_⟩:=T.obj _ _ M b z;rw[ap (TB (Tc e))];exact(f2 b z).1
 have E:∀{σ5:St} {H5:Hp} {s5:Shared},Inv (blkCx X N scope cl f j fp) [] σ5 H5 s5->(∀ b∈fp,H5 b=none)->∀ b∈fp,FpOk (blkCx X N scope cl f j fp) [] H5 b:=λI5 hn b z=>
  ⟨hn b z,(I5.ok.exf b z).1,I5.ok.exfs b z,.inl z,(I5.ok.exf b z).2,λp hp=>absurd (show p∈([]:List (Addr × Obj)) from hp) (by simp)⟩
 have F:∀ s₃:Shared,s₃={f with heap:=pushCells ((f.heap.push {cls:=.type "list",data:=.seq #[]}).push {cls:=.type "dict",data:=.dict #[]}) scope.names}->
   codeAny (model X.prog X.w) X.A (.compLoop (.ListComp K [⟨tg,t,G,0⟩] scope pos) 0 (.ref it) (.ref f.heap.objs.size) (blkCx X N scope cl f j fp).env) (RR (.ref f.heap.objs.size) (f.heap.objs.size+1)) s₃:=by
  rintro s₃ rfl;refine IT (λn s'=>∃ i σ' H',Inv (blkCx X N scope cl f j fp) [] σ' H' s'/\tn i s'.heap/\(∀ b∈fp,H' b=none)/\W i n σ' H') ?_ m0 ⟨0,_,_,I3,Z,ai,w0⟩;rintro n s4 ⟨i,Y,H4,I4,ae,U,w4⟩
  have l:∀ x s',(blkCx X N scope cl f j fp).xe x s'->notedBy (model X.prog X.w) X.A (blkCx X N scope cl f j fp).env (λe s'=>RR (.ref f.heap.objs.size) (f.heap.objs.size+1) (.error e) s') x s':=λx s' hx=>
   T4 (hx ⟨Sk,σ,I2,f2⟩) (λ_ ak q=>S _ _ _ _ q) λe ak q=>S _ _ _ _ q
  rcases turn i n Y H4 w4 with ⟨af,qn⟩ | ⟨go,Nx,hN,ad⟩
  . refine T4 (T.done (blkCx X N scope cl f j fp) rfl rfl rfl hc i [] s4 Y H4 _ I4 (E I4 U) ae af) (λr s5 ⟨hr,I5⟩=>?_) l;subst hr;exact ok f j fp Y H4 s5 I2 f2 I5 qn
  . refine T4 (T.item (blkCx X N scope cl f j fp) rfl rfl rfl hc i [] s4 Y H4 _ I4 (E I4 U) ae go) (λr s5 ⟨u,hr,h5⟩=>?_) l;subst hr;refine T4 h5 (λ_ s6 ⟨x,H6,I6,r6,y6,L,ao⟩=>?_) l;have as:=I6.pinned (E I6 ao) (T.obj _ _ L);refine T4 (hg cl f j fp _ s6 Y H6 x u _ as r6 (ad x H6 y6)) (λ_ s7 ⟨σ7,H7,I7,q7⟩=>?_) l
    have D:∀{R:St} {O:Hp} {P:Shared},Inv (blkCx X N scope cl f j fp) ([]++ur fp s6.heap) R O P->Nx R O->∃ m,m<n/\∃ i σ' H',Inv (blkCx X N scope cl f j fp) [] σ' H' P/\tn i P.heap/\(∀ b∈fp,H' b=none)/\W i m σ' H':=λ{R O P} Q n8=>by
     obtain⟨m',hm,w8⟩:=hN R O n8;refine⟨m',hm,i+1,R,O,Q.unpinned,T.keep _ _ _ L λb z o e=>(Q.pin (b,o) (Tu _ (Tu _ (nO z e)))).1,λb z=>?_,w8⟩;obtain⟨o,e,d⟩:=T.obj _ _ L b z;exact(Q.pin (b,o) (Tu _ (Tu _ (nO z e)))).2.1
    refine T4 (ht cl f j fp _ s7 σ7 H7 _ I7 q7) (λam P ⟨O,Q,q8⟩=>?_) l
    cases am with
    | false=>exact D Q q8
    | true=>
     refine T4 (he cl f j fp _ P σ7 O _ Q q8) (λy s9 ⟨yv,H9,I9,r9,ys,hl,hz,q9⟩=>?_) l;refine T4 (By (X:=blkCx X N scope cl f j fp) _ s9 σ7 H9 (.ref f.heap.objs.size) [yv] (.ref f.heap.objs.size) [y] (λ_ ac=>Nx σ7 ac) I9 rfl (.cons r9 .nil) ⟨_,ys,yv,rfl,rfl,hl,hz,q9⟩) (λ_ ax ⟨_,ac,ag,_,ar⟩=>?_) l;exact D ag ar
 exact codeAny_compStart_list (F _ rfl) (T.self _ 0 _ _ _ Z (F _ rfl))
def tComp(ix:List (Option Nat))(a:TI)(g:TG)(b:TT)(te:TE):TE:=λσ H Q=>DD ix a g b te (λl H'=>Q (.ref l) H') σ H
def sComp(k:Nat)(ix:List (Option Nat))(a:TI)(g:TG)(b:TT)(te:TE):TS:=λD σ H=>DD ix a g b te (λl H'=>D.nx (σ.set k ↑l) H') σ H
def Gs(I:Inv X Sk σ H s){ix:List (Option Nat)}(B:BlkOk X N ix scope):∃ cl,closureFor scope X.env=pure cl/\(∀ x c,cl.lookup x=some c->X.env.cells.lookup x=some c)/\∀ x,(x,NameKind.free)∈scope.names->∃ c,cl.lookup x=some c:=
 Hh λx a=>I.ok.has x (B.free x a)
def wG{ix:List (Option Nat)}(B:BlkOk X N ix scope):∀ x∈scope.names,x.2=NameKind.local->scope.names.lookup x.1=some .local:=λx a e=>by
 obtain⟨n,k⟩:=x;cases e;exact gc B.names a
theorem aE {e b d:Expr} {c:List Expr} {pos:Pos} {ix:List (Option Nat)} {j:TI} {g:TG} {i:TT} {te:TE} (N:List Str) (B:BlkOk X N ix scope) (n:X.calm=true)
  (y:PI X e b j) (o:∀ cl s H fp,PG (blkCx X N scope cl s H fp) e g) (z:∀ cl s H fp,PTs (blkCx X N scope cl s H fp) c i) (k:∀ cl s H fp,PE (blkCx X N scope cl s H fp) d te)
  (l:∀ x,foldedSetIterable b X.env x=pure x:=by intro _;rfl):PE X (.ListComp d [⟨e,b,c,0⟩] scope pos) (tComp ix j g i te):=by
 intro Sk s σ H Q I h;obtain⟨cl,e1,e2,t⟩:=Gs I B;rw[eval_ListComp];refine Ws (use:=none) rfl l e1 B.kind (wG B) ?_;refine DE (RR:=λf C=>compPost (model X.prog X.w) X.A X.xe none (EP X Sk σ Q) f C) B n y o z k e2 t I h (λK E fp G p F r D J q=>?_) (λa C x s' q=>q);obtain⟨m,v,_⟩:=J.loc;exact⟨m,v,λL u=>⟨.ref _,p,Gr r J D u,rfl,q⟩⟩
theorem jN {y:Str} {n j:Pos} {k:Nat} {r d i:Expr} {f:List Expr} {pos:Pos} {ix:List (Option Nat)} {R:TI} {g:TG} {M:TT} {te:TE} (hN:X.N.Nodup) (hy:X.N[k]? =some y) (hx:Loc X.env.scope y)
  (u:swapsWith (.ListComp i [⟨r,d,f,0⟩] scope pos) (some (.Name y n)) j.line X.env=pure true) (N:List Str) (B:BlkOk X N ix scope) (Y:X.calm=true)
  (hi:PI X r d R) (Z:∀ cl s H fp,PG (blkCx X N scope cl s H fp) r g) (ht:∀ cl s H fp,PTs (blkCx X N scope cl s H fp) f M) (U:∀ cl s H fp,PE (blkCx X N scope cl s H fp) i te)
  (W:∀ x,foldedSetIterable d X.env x=pure x:=by intro _;rfl) (hf:X.fn y=true\/X.env.scope.names.lookup y=some .local:=by first | exact .inl rfl | exact .inr rfl | assumption):
  PS X (.Assign [.Name y n] (.ListComp i [⟨r,d,f,0⟩] scope pos) j) (sComp k ix R g M te):=by
 intro Sk s σ H D I h;obtain⟨cl,e1,e2,e3⟩:=Gs I B;rw[exec_Assign_Name_used _ _ _ _ u];refine To (WM (To ?_));show wpAny _ X.A (do let _ ← comprehension (.ListComp i [⟨r,d,f,0⟩] scope pos) scope X.env _ (newList []) false (eval d X.env) (some (assign (.Name y n) X.env))) _ _ s;refine To (T4 (Ws (use:=some (assign (.Name y n) X.env)) (Q:=λ_ s'=>SP X Sk D .next s') rfl W e1 B.kind (wG B) ?_) (λ_ s' S=>TL (TL S)) λ_ _ e=>e);refine DE (RR:=λL C=>compPost (model X.prog X.w) X.A X.xe (some (assign (.Name y n) X.env)) (λ_ s'=>SP X Sk D .next s') L C) B Y hi Z ht U e2 e3 I h (λt H2 fp σ3 P O l f2 J q=>?_) (λa C x s' q=>q);obtain⟨m,hn,_⟩:=J.loc;have I3:Inv X Sk σ P {O with heap:=O.heap}:=Gr l J f2 (Heap.SameBut.refl _ _);show wpAny _ X.A (assign (.Name y n) X.env (.ref _)) _ _ _;refine wpAny_assign_Name (Bo (v:=.ref _) I3 hN hy hx rfl (λT I4 ⟨a,E,K⟩=>?_) hf)
 have G:a<t.heap.objs.size:=by
  rcases K with rfl | K
  . exact l.lt
  . obtain⟨v,z⟩:=l.cell _ _ K;exact z.lt
 have F:t.heap.objs.size+1≠a:=V2 (Uu G);refine⟨m,hn.sameBut E F,λh' sb=>?_⟩;refine⟨_,P,I4.turned (t':=T.toks) (it:=t.heap.objs.size+1) (λb o hb e=>(sb.2 b hb).trans e) J.free (V2 (Uu l.lt)) (.inr (SW l.sz (VL _))) (λx c e=>?_) (λp hp=>?_),q⟩
 . obtain⟨v,z⟩:=l.cell x c e;exact TB (Uu z.lt)
 . exact TB (Uu (Tc (l.pin p hp).1))
end
def bnd{α:Type}:Option α->(α->Prop)->Prop
 | some a,k=>k a
 | none,_=>False
def bm{α:Type}{o:Option α}{a:α}{k:α->Prop}(h:o=some a)(q:k a):bnd o k:=by subst h;exact q
theorem bn{α:Type}{o:Option α}{k:α->Prop}(h:bnd o k):∃ a,o=some a/\k a:=by
 cases o with
 | none=>exact h.elim
 | some a=>exact⟨a,rfl,h⟩
def bE{α:Type}{a:α}{k:α->Prop}:bnd (some a) k=k a:=rfl
def unM:Option HO->Option (List V)
 | ↥xs=>some xs
 | _=>none
def unL:Option HO->Option (List V)
 | ↥xs=>some xs
 | some (.frz _ (.lst xs))=>some xs
 | _=>none
def unS:Option HO->Option (List V)
 | ↥xs=>some xs
 | some (.frz _ (.lst xs))=>some xs
 | some (.tup xs)=>some xs
 | _=>none
variable{o:Option HO}{xs:List V}
theorem iU(h:unM o=some xs):o=↥xs:=by
 unfold unM at h;split at h
 . cases h;rfl
 . cases h
theorem uA{K:Frag}{H:Hp}{p:Addr}(h:unL (H p)=some xs):SqL K H p xs:=by
 unfold unL at h;split at h
 . rename_i e;cases h;exact .inl (.inl e)
 . rename_i o _ e;cases h;exact .inl (.inr ⟨_,e⟩)
 . cases h
theorem rd{K:Frag}{H:Hp}{p:Addr}(h:unS (H p)=some xs):SqL K H p xs\/SqT K H p xs:=by
 unfold unS at h;split at h
 . rename_i e;cases h;exact .inl (.inl (.inl e))
 . rename_i o _ e;cases h;exact .inl (.inl (.inr ⟨_,e⟩))
 . rename_i e;cases h;exact .inr (.inl (.inl e))
 . cases h
mutual
inductive DV(K:Frag)(H:Hp):V->PyData->Prop
 | non:DV K H .non .none
 | bl (b:Bool):DV K H (.bl b) (.bool b)
 | int (i:Int):DV K H (.int i) (.int i)
 | str (x:Str):DV K H (.str x) (.str x)
 | lst {a:Addr} {xs:List V} {ds:List PyData}:SqL K H a xs->DVs K H xs ds->DV K H (.ref a) (.list ds)
 | tup {a:Addr} {xs:List V} {ds:List PyData}:SqT K H a xs->DVs K H xs ds->DV K H (.ref a) (.tuple ds)
inductive DVs(K:Frag)(H:Hp):List V->List PyData->Prop
 | nil:DVs K H [] []
 | cons {x:V} {d:PyData} {xs:List V} {ds:List PyData}:DV K H x d->DVs K H xs ds->DVs K H (x::xs) (d::ds)
end
section
variable{X:Cx}{Sk:List (Addr × Obj)}{σ:St}{H:Hp}{s:Shared}
mutual
theorem DV.reads(I:Inv X Sk σ H s):∀{x:V} {d:PyData} {v:Value},DV X.K H x d->RelV x v->∃ c,Reads s.heap v d c
 | _,_,_,.non,r=>by cases r;exact⟨_,.none⟩
 | _,_,_,.bl b,r=>by cases r;exact⟨_,.bool b⟩
 | _,_,_,.int i,r=>by obtain⟨t,rfl⟩:=r;exact⟨_,.int i t⟩
 | _,_,_,.str x,r=>by obtain⟨t,rfl⟩:=r;exact⟨_,.str x t⟩
 | _,_,_,.lst (a:=a) h hs,r=>by
  cases r;obtain⟨So,e,p,_⟩:=I.list h;obtain⟨c,q⟩:=DVs.reads I hs e;obtain⟨o,h1,h2,n,h3⟩:=p.isList;exact⟨_,.list h1 h2 h3 q⟩
 | _,_,_,.tup (a:=a) h hs,r=>by
  cases r;obtain⟨So,e,p,_⟩:=I.tuple h;obtain⟨c,q⟩:=DVs.reads I hs e;obtain⟨o,h1,h2,n,h3⟩:=p;exact⟨_,.tuple h1 h2 h3 q⟩
theorem DVs.reads(I:Inv X Sk σ H s):∀{xs:List V} {b:List PyData} {us:List Value},DVs X.K H xs b->Vals xs us->∃ a,ReadsAll s.heap us b a
 | _,_,_,.nil,.nil=>⟨_,.nil⟩
 | _,_,_,.cons h hs,.cons r rs=>by
  obtain⟨a,q⟩:=DV.reads I h r;obtain⟨bs,c⟩:=DVs.reads I hs rs;exact⟨_,.cons q c⟩
end
end
theorem DVs.ints{K:Frag}{H:Hp}:∀ ns:∅,DVs K H (ns.map V.int) (ns.map PyData.int)
 | []=>.nil
 | n::r=>.cons (.int n) (DVs.ints r)
def xt:∀ ns ms:∅,PyData.eqvAll (ns.map PyData.int) (ms.map PyData.int)=decide (ns=ms):=PySem.W.ked_eqvAll
theorem or:∀ ns:∅,PyData.canLayAll0 (ns.map PyData.int)=true
 | []=>rfl
 | n::r=>by rw[S6,PyData.canLayAll0,or r];rfl
theorem jW:∀ ns:∅,PyData.depthAll (ns.map PyData.int)=0
 | []=>rfl
 | n::r=>by rw[S6,PyData.depthAll,jW r];rfl
theorem l8(ns:∅):SeqAt.shaped (.list (ns.map PyData.int))=true:=by
 simp[SeqAt.shaped,PyData.canLay0,or,PyData.depth,jW]
def cAdd:R2
 | .int i,.int j,H,Q=>Q (.int (i+j)) H
 | .str i,.str j,H,Q=>i.length+j.length<=sizeLine/\Q (.str (i++j)) H
 | .ref l,.ref b,H,Q=>bnd (unM (H l)) λxs=>bnd (unM (H b)) λzs=>xs.length+zs.length<=sizeLine/\∀ p,H p=none->Q (.ref p) (upd H p (.lst (xs++zs)))
 | _,_,_,_=>False
def cSub:R2
 | .int i,.int j,H,Q=>Q (.int (i-j)) H
 | _,_,_,_=>False
def cMul:R2
 | .int i,.int j,H,Q=>CMul i j/\Q (.int (i*j)) H
 | _,_,_,_=>False
def cDiv:R2
 | .int i,.int j,H,Q=>CDiv i j/\Q (.int (i/j)) H
 | _,_,_,_=>False
def cMod:R2
 | .int i,.int j,H,Q=>0<j/\Q (.int (i%j)) H
 | _,_,_,_=>False
def cPow:R2
 | .int i,.int j,H,Q=>CPow i j/\Q (.int (i^j.toNat)) H
 | _,_,_,_=>False
def cCmp(g:Int->Int->Bool):R2
 | .int i,.int j,H,Q=>Q (.bl (g i j)) H
 | _,_,_,_=>False
def rEqD(K:Frag):R2:=λx y H Q=>∃ d e,DV K H x d/\DV K H y e/\SeqAt.shaped d=true/\SeqAt.shaped e=true/\Q (.bl (PyData.eqv d e)) H
def rNeD(K:Frag):R2:=λx y H Q=>∃ d e,DV K H x d/\DV K H y e/\SeqAt.shaped d=true/\SeqAt.shaped e=true/\Q (.bl (!PyData.eqv d e)) H
def cEq(K:Frag):R2
 | .int i,.int j,H,Q=>Q (.bl (decide (i=j))) H
 | .bl i,.bl j,H,Q=>Q (.bl (decide (i=j))) H
 | .str i,.str j,H,Q=>Q (.bl (decide (i=j))) H
 | x,y,H,Q=>rEqD K x y H Q
def cNe(K:Frag):R2
 | .int i,.int j,H,Q=>Q (.bl (!decide (i=j))) H
 | .bl i,.bl j,H,Q=>Q (.bl (!decide (i=j))) H
 | .str i,.str j,H,Q=>Q (.bl (!decide (i=j))) H
 | x,y,H,Q=>rNeD K x y H Q
def rInD(K:Frag)(b:Bool):R2:=λx y H Q=>∃ d a,DV K H x d/\(DV K H y (.list a)\/DV K H y (.tuple a))/\PyData.canLayAll0 a=true/\PyData.canLay0 d=true/\min (PyData.depthAll a) d.depth<=62/\
 Q (.bl (if b then !a.any (λy=>PyData.eqv y d) else a.any λy=>PyData.eqv y d)) H
def keyOf:V->Option Key
 | .int i=>some (.inl i)
 | .str x=>some (.inr x)
 | _=>none
def unD:Option HO->Option (List (Key × V))
 | some (.dK Sn)=>some Sn
 | _=>none
def cIn(K:Frag)(b:Bool):R2
 | .ref a,y,H,Q=>rInD K b (.ref a) y H Q
 | x,.ref p,H,Q=>(match unD (H p) with
  | some Sn=>bnd (keyOf x) λk=>Q (.bl (if b then !(valV Sn k).isSome else(valV Sn k).isSome)) H
  | none=>bnd (unS (H p)) λxs=>flatV x=true/\xs.all flatV=true/\Q (.bl (if b then !inV x xs else inV x xs)) H)
 | .str i,.str j,H,Q=>Q (.bl (if b then !(!(Builtin.Str.occurrences j i 0 j.length 1).isEmpty) else !(Builtin.Str.occurrences j i 0 j.length 1).isEmpty)) H
 | _,_,_,_=>False
def cIx:R2
 | .ref p,y,H,Q=>(match unD (H p) with
  | some Sn=>bnd (keyOf y) λk=>bnd (valV Sn k) λv=>Q v H
  | none=>match y with
   | .int i=>bnd (unS (H p)) λxs=>bnd (atI xs i) λv=>Q v H
   | _=>False)
 | .str z,.int i,H,Q=>z.length<=sizeLine/\bnd (atI z.cps.toList i) λc=>Q (.str ⟨#[c]⟩) H
 | _,_,_,_=>False
theorem yJ{Sn:List (Key × V)}(h:unD o=some Sn):o=some (.dK Sn):=by
 unfold unD at h;split at h
 . cases h;rfl
 . cases h
theorem xu{x:V}{k:Key}(h:keyOf x=some k):x=kV k:=by
 unfold keyOf at h;split at h
 . cases h;rfl
 . cases h;rfl
 . cases h
section
variable{X:Cx}{a b c:Expr}{ta tb tc:TE}{pos:Pos}
theorem aJ:OpR X (binaryOp .Add) cAdd:=by
 intro c s σ H x y v u Q I b a h;unfold cAdd at h
 split at h
 . exact MY c s σ H _ _ v u Q I b a ⟨_,_,rfl,rfl,h⟩
 . exact G9 c s σ H _ _ v u Q I b a ⟨_,_,rfl,rfl,h.1,h.2⟩
 . obtain⟨xs,e1,h⟩:=bn h;obtain⟨d,e2,h⟩:=bn h;exact M9 c s σ H _ _ v u Q I b a ⟨_,_,xs,d,rfl,rfl,iU e1,iU e2,h.1,h.2⟩
 . exact h.elim
theorem c6:OpR X (binaryOp .Sub) cSub:=by
 intro c s σ H x y v u Q I b a h;unfold cSub at h
 split at h
 . exact MZ c s σ H _ _ v u Q I b a ⟨_,_,rfl,rfl,h⟩
 . exact h.elim
theorem dW:OpR X (binaryOp .Mult) cMul:=by
 intro c s σ H x y v u Q I b a h;unfold cMul at h
 split at h
 . exact M0 c s σ H _ _ v u Q I b a ⟨_,_,rfl,rfl,h.1,h.2⟩
 . exact h.elim
theorem lD:OpR X (binaryOp .FloorDiv) cDiv:=by
 intro c s σ H x y v u Q I b a h;unfold cDiv at h
 split at h
 . exact LN c s σ H _ _ v u Q I b a ⟨_,_,rfl,rfl,h.1,h.2⟩
 . exact h.elim
theorem bp:OpR X (binaryOp .Mod) cMod:=by
 intro c s σ H x y v u Q I b a h;unfold cMod at h
 split at h
 . exact M2 c s σ H _ _ v u Q I b a ⟨_,_,rfl,rfl,h.1,h.2⟩
 . exact h.elim
theorem L0:OpR X (binaryOp .Pow) cPow:=by
 intro c s σ H x y v u Q I b a h;unfold cPow at h
 split at h
 . exact M3 c s σ H _ _ v u Q I b a ⟨_,_,rfl,rfl,h.1,h.2⟩
 . exact h.elim
theorem wa{a:CmpOp}{g:Int->Int->Bool}(o:OpR X (compareOp a) (rI0 λi j=>.bl (g i j))):OpR X (compareOp a) (cCmp g):=by
 intro d s σ H x y v u Q I c b h;unfold cCmp at h
 split at h
 . exact o d s σ H _ _ v u Q I c b ⟨_,_,rfl,rfl,h⟩
 . exact h.elim
def d2:OpR X (compareOp .Lt) (cCmp λi j=>decide (i<j)):=wa On
def iV:OpR X (compareOp .LtE) (cCmp λi j=>decide (i<=j)):=wa Oo
def cF:OpR X (compareOp .Gt) (cCmp λi j=>decide (j<i)):=wa Op
def DF:OpR X (compareOp .GtE) (cCmp λi j=>decide (j<=i)):=wa Oq
theorem Nd(f:X.A.units+64<cLine):OpR X (compareOp .Eq) (rEqD X.K):=by
 intro i s σ H x y v u Q I a c h;obtain⟨d,e,h1,h2,h3,h4,q⟩:=h;obtain⟨j,r1⟩:=h1.reads I a;obtain⟨g,b⟩:=h2.reads I c;exact eq_dataH r1 b h3 h4 f ⟨.bl _,H,I,rfl,q⟩
theorem Nf(f:X.A.units+64<cLine):OpR X (compareOp .NotEq) (rNeD X.K):=by
 intro i s σ H x y v u Q I a c h;obtain⟨d,e,h1,h2,h3,h4,q⟩:=h;obtain⟨j,r1⟩:=h1.reads I a;obtain⟨g,b⟩:=h2.reads I c;exact ne_dataH r1 b h3 h4 f ⟨.bl _,H,I,rfl,q⟩
theorem ay(d:X.A.units+64<cLine):OpR X (compareOp .Eq) (cEq X.K):=by
 intro c s σ H x y v u Q I b a h;unfold cEq at h
 split at h
 . refine G7 c s σ H _ _ v u Q I b a ⟨rfl,?_⟩
   simpa using h
 . refine G7 c s σ H _ _ v u Q I b a ⟨rfl,?_⟩
   simpa using h
 . refine G7 c s σ H _ _ v u Q I b a ⟨rfl,?_⟩
   simpa using h
 . exact Nd d c s σ H _ _ v u Q I b a h
theorem bb(d:X.A.units+64<cLine):OpR X (compareOp .NotEq) (cNe X.K):=by
 intro c s σ H x y v u Q I b a h;unfold cNe at h
 split at h
 . refine G8 c s σ H _ _ v u Q I b a ⟨rfl,?_⟩
   simpa using h
 . refine G8 c s σ H _ _ v u Q I b a ⟨rfl,?_⟩
   simpa using h
 . refine G8 c s σ H _ _ v u Q I b a ⟨rfl,?_⟩
   simpa using h
 . exact Nf d c s σ H _ _ v u Q I b a h
theorem Ng(j:X.A.units+64<cLine):OpR X (compareOp .In) (rInD X.K false):=by
 intro f s σ H x y v u Q I e b h;obtain⟨d,i,h1,h2,h3,h4,h5,q⟩:=h;obtain⟨g,r1⟩:=h1.reads I e;rcases h2 with h2 | h2
 . obtain⟨c,a⟩:=h2.reads I b;exact SeqAt.in_list_reads a r1 h3 h4 #[4] ⟨.bl _,H,I,rfl,q⟩
 . obtain⟨c,a⟩:=h2.reads I b;exact SeqAt.in_tuple_reads a r1 h3 h4 #[4] ⟨.bl _,H,I,rfl,q⟩
theorem IV(j:X.A.units+64<cLine):OpR X (compareOp .NotIn) (rInD X.K true):=by
 intro f s σ H x y v u Q I e b h;obtain⟨d,i,h1,h2,h3,h4,h5,q⟩:=h;obtain⟨g,r1⟩:=h1.reads I e;rcases h2 with h2 | h2
 . obtain⟨c,a⟩:=h2.reads I b;exact SeqAt.notIn_list_reads a r1 h3 h4 #[4] ⟨.bl _,H,I,rfl,q⟩
 . obtain⟨c,a⟩:=h2.reads I b;exact SeqAt.notIn_tuple_reads a r1 h3 h4 #[4] ⟨.bl _,H,I,rfl,q⟩
theorem gE(d:X.A.units+64<cLine):OpR X (compareOp .In) (cIn X.K false):=by
 intro c s σ H x y v u Q I a b h;unfold cIn at h
 split at h
 . exact Ng d c s σ H _ _ v u Q I a b h
 . rename_i p n
   split at h
   . rename_i Sn e
     obtain⟨k,f,q⟩:=bn h;cases (show u=Value.ref p from b);have g:DGet H p x (valV Sn k):=by rw[xu f];exact DGet.k (yJ e)
     exact OM (T7 (Ve (by decide:1<=64) _) d) I g a λm j=>⟨.bl _,H,j,rfl,q⟩
   . obtain⟨xs,e,i,l,q⟩:=bn h;exact pB c s σ H _ _ v u Q I a b ⟨p,xs,rfl,rd e,i,l,q⟩
 . exact IE c s σ H _ _ v u Q I a b ⟨_,_,rfl,rfl,h⟩
 . exact h.elim
theorem b4(d:X.A.units+64<cLine):OpR X (compareOp .NotIn) (cIn X.K true):=by
 intro c s σ H x y v u Q I a b h;unfold cIn at h
 split at h
 . exact IV d c s σ H _ _ v u Q I a b h
 . rename_i p n
   split at h
   . rename_i Sn e
     obtain⟨k,f,q⟩:=bn h;cases (show u=Value.ref p from b);have g:DGet H p x (valV Sn k):=by rw[xu f];exact DGet.k (yJ e)
     exact LZ (T7 (Ve (by decide:1<=64) _) d) I g a λm j=>⟨.bl _,H,j,rfl,q⟩
   . obtain⟨xs,e,i,l,q⟩:=bn h;exact uw c s σ H _ _ v u Q I a b ⟨p,xs,rfl,rd e,i,l,q⟩
 . exact Dz c s σ H _ _ v u Q I a b ⟨_,_,rfl,rfl,h⟩
 . exact h.elim
end
section
variable{X:Cx}{a b c:Expr}{ta tb tc:TE}{pos:Pos}
theorem Nh(B:X.A.units+64<cLine):IxR X cIx:=by
 intro a b m s σ H x y v u Q I j l h f
 cases x with
 | ref p=>
  unfold cIx at h;dsimp only at h
  split at h
  . rename_i Sn e
    obtain⟨k,t,h⟩:=bn h;obtain⟨z,d,q⟩:=bn h;cases (show v=Value.ref p from j);have g:DGet H p y (some z):=by rw[xu t,← d];exact DGet.k (yJ e)
    exact WR (FG I g) Wh.lookup (IP (T7 (Ve (by decide:1<=64) _) B) I g l λE D w n=>⟨z,H,w,n,q⟩) f
  . split at h
    . obtain⟨xs,e,h⟩:=bn h;obtain⟨z,d,q⟩:=bn h;rcases rd (K:=X.K) e with r | r
      . exact Gp a b m s σ H _ _ v u Q I j l ⟨p,xs,_,z,rfl,rfl,r,d,q⟩ f
      . exact M5 a b m s σ H _ _ v u Q I j l ⟨p,xs,_,z,rfl,rfl,r,d,q⟩ f
    . exact h.elim
 | str o=>
  cases y with
  | int i=>
   obtain⟨C,h⟩:=(show o.length<=sizeLine/\bnd (atI o.cps.toList i) λc=>Q (.str ⟨#[c]⟩) H from h);obtain⟨z,d,q⟩:=bn h;exact M6 a b m s σ H _ _ v u Q I j l ⟨_,_,z,rfl,rfl,C,d,q⟩ f
  | _=>exact False.elim h
 | _=>exact False.elim h
def kLen:List V->Hp->VK->Prop
 | [.ref p],H,Q=>(match unD (H p) with
  | some Sn=>Q (.int Sn.length) H
  | none=>bnd (unS (H p)) λxs=>Q (.int xs.length) H)
 | [.str z],H,Q=>z.length<=sizeLine/\Q (.int z.length) H
 | _,_,_=>False
theorem aD:CallR X (.builtin "len") kLen:=by
 intro b s σ H xs a Q I r h;unfold kLen at h
 split at h
 . split at h
   . rename_i Sn e
     exact IR b s σ H _ a Q I r ⟨_,Sn,rfl,yJ e,h⟩
   . obtain⟨c,e,q⟩:=bn h;exact jV b s σ H _ a Q I r ⟨_,c,rfl,rd e,q⟩
 . exact DA b s σ H _ a Q I r ⟨_,rfl,h.1,h.2⟩
 . exact h.elim
def kAbs:List V->Hp->VK->Prop
 | [.int i],H,Q=>Q (.int (if i<0 then -i else i)) H
 | _,_,_=>False
def kMin:List V->Hp->VK->Prop
 | [.int i,.int j],H,Q=>Q (.int (if j<i then j else i)) H
 | _,_,_=>False
def kMax:List V->Hp->VK->Prop
 | [.int i,.int j],H,Q=>Q (.int (if j>i then j else i)) H
 | _,_,_=>False
theorem IW(a:X.calm=true):CallR X (.builtin "max") kMax:=by
 intro c s σ H xs b Q I r h;unfold kMax at h
 split at h
 . exact IF a c s σ H _ b Q I r ⟨_,_,rfl,h⟩
 . exact h.elim
def kList:List V->Hp->VK->Prop
 | [.ref p],H,Q=>bnd (unS (H p)) λys=>∀ l,H l=none->Q (.ref l) (upd H l (.lst ys))
 | _,_,_=>False
theorem cr:CallR X (.type "list") kList:=by
 intro c s σ H xs b Q I r h;unfold kList at h
 split at h
 . obtain⟨a,e,q⟩:=bn h;exact ux c s σ H _ b Q I r ⟨_,a,rfl,rd e,q⟩
 . exact h.elim
def fz:List V->Hp->VK->Prop
 | [.ref p],H,Q=>bnd (unL (H p)) λys=>∃ ns:∅,ys=ns.map V.int/\ns.length<64/\∀(a:∅) l,H l=none->a.Perm ns->a.Pairwise (· <=·)->Q (.ref l) (upd H l (.lst (a.map V.int)))
 | _,_,_=>False
theorem gF:CallR X (.builtin "sorted") fz:=by
 intro E s σ H xs C Q I r h;unfold fz at h
 split at h
 . rename_i p
   obtain⟨F,e,x,rfl,v,q⟩:=bn h;obtain⟨u,rfl,A⟩:=dN r;cases A;obtain⟨l,t,z,D⟩:=I.list (uA e);have B:IntsAre l x:=yG t;have y:=t.length;rw[Sx]at y;refine sorted_ints z.isList B #[4] λf g j m w=>?_;have i:∀ b o,s.heap.get? b=some o->(sortedAll s.heap l f).get? b=some o:=λb o e=>sortedAll_old e;obtain⟨n,k⟩:=sortedAll_at s.heap l f;have c:H (s.heap.objs.size+1)=none:=I.hok.fresh (VL _)
   have d:(g.map V.int).length<=sizeLine:=by
    rw[Sx,m.length_eq];exact Tv (Nat.lt_trans v #[1])
   refine⟨.ref (s.heap.objs.size+1),_,I.laid (t':=s.toks) (a:=s.heap.objs.size+1) (o:=.lst (g.map V.int)) i (VL _) ⟨d,f.toList,n,uy j,?_⟩,rfl,q g _ c m w⟩;rw[k]
 . exact h.elim
def ot(H:Hp):V->Option String
 | .non=>some "NoneType"
 | .bl _=>some "bool"
 | .int _=>some "int"
 | .str _=>some "str"
 | .ref p=>match H p with
  | ↥_=>some "list"
  | some (.frz _ (.lst _))=>some "list"
  | some (.tup _)=>some "tuple"
  | some (.dK _)=>some "dict"
  | _=>none
 | _=>none
def isTy(t n:String):Bool:=t==n||(t=="bool"&&n=="int")
def wb(n:String):Bool:=["int","bool","str","list","tuple","dict"].contains n
theorem IX{K:Frag}{H:Hp}{x:V}{t:String}(h:ot H x=some t):TyOf K H x (.type t)/\["NoneType","int","bool","str","list","tuple","dict"].contains t=true:=by
 cases x with
 | non=>cases h;exact⟨.non,by decide⟩
 | bl b=>cases h;exact⟨.bl b,by decide⟩
 | int i=>cases h;exact⟨.int i,by decide⟩
 | str i=>cases h;exact⟨.str i,by decide⟩
 | byt _=>cases h
 | flt _=>cases h
 | ty _=>cases h
 | ref p=>
  unfold ot at h;dsimp only at h
  split at h
  . rename_i e;cases h;exact⟨.lst e,by decide⟩
  . rename_i e;cases h;exact⟨.frz e,by decide⟩
  . rename_i e;cases h;exact⟨.tup e,by decide⟩
  . rename_i e;cases h;exact⟨.dK e,by decide⟩
  . cases h
theorem Ni(K:Frag):∀ t∈["NoneType","int","bool","str","list","tuple","dict"],∀ n∈["int","bool","str","list","tuple","dict"],PySem.W.kitOne K (.type t) (.type n)=some (isTy t n):=by
 intro t b n a;simp only[SU,Tw,Uz]at b a;rcases b with rfl | rfl | rfl | rfl | rfl | rfl | rfl <;> rcases a with rfl | rfl | rfl | rfl | rfl | rfl <;> rfl
def kIsi:List V->Hp->VK->Prop
 | [x,.ty n],H,Q=>wb n=true/\bnd (ot H x) λt=>Q (.bl (isTy t n)) H
 | _,_,_=>False
theorem mw:CallR X (.builtin "isinstance") kIsi:=by
 intro i s σ H xs j Q I r h;unfold kIsi at h
 split at h
 . obtain⟨f,h⟩:=h;obtain⟨t,b,q⟩:=bn h;obtain⟨u,w,rfl,d,a⟩:=Ha r;cases a;obtain⟨c,e⟩:=IX (K:=X.K) b;exact II I d c (Ni X.K t (by simpa using e) _ (by simpa [wb] using f)) λg=>⟨.bl _,H,I.tok g,rfl,q⟩
 . exact h.elim
def bT:V->List V->Hp->VK->Prop
 | .ref l,[y],H,Q=>bnd (unM (H l)) λxs=>xs.length<sizeLine/\Q .non (upd H l (.lst (xs++[y])))
 | _,_,_,_=>False
theorem bY:MtR X "list.append" bT:=by
 intro d s σ H x vs v c Q I b a h;unfold bT at h
 split at h
 . obtain⟨xs,e,h1,q⟩:=bn h;exact By d s σ H _ _ v c Q I b a ⟨_,xs,_,rfl,rfl,iU e,h1,q⟩
 . exact h.elim
def lE:V->List V->Hp->VK->Prop
 | .ref l,[.ref b],H,Q=>bnd (unM (H l)) λxs=>bnd (unM (H b)) λzs=>xs.length+zs.length<=sizeLine/\Q .non (upd H l (.lst (xs++zs)))
 | _,_,_,_=>False
theorem sR:MtR X "list.extend" lE:=by
 intro c s σ H x vs v f Q I b a h;unfold lE at h
 split at h
 . obtain⟨xs,e,h⟩:=bn h;obtain⟨d,e2,h1,q⟩:=bn h;exact IN c s σ H _ _ v f Q I b a ⟨_,_,xs,d,rfl,rfl,iU e,iU e2,h1,q⟩
 . exact h.elim
def br{K:Frag}{H:Hp}{p:Addr}{xs:List V}(h:H p=↥xs):tyV K "list" (.ref p) H:=.inl ⟨rfl,_,ST h⟩
def cSl:V->Option Int->Option Int->Hp->VK->Prop
 | .ref p,lo,hi,H,Q=>bnd (unL (H p)) λxs=>∀ l,H l=none->Q (.ref l) (upd H l (.lst (cutV xs lo hi)))
 | _,_,_,_,_=>False
theorem ON:SlR X cSl:=by
 intro c s σ H x v k f b l g Q I a j d i h;unfold cSl at h
 split at h
 . obtain⟨xs,e,q⟩:=bn h;exact LU c s σ H _ v k f b l g Q I a j d i ⟨_,xs,rfl,uA e,q⟩
 . exact h.elim
end
structure Cal(P:Program)(w:World)(K:Frag)(mg:Str->Option Value)(base:Heap)(k:Nat)(x:Str)(ps:List Str)(sp:Sp):Prop where
 ex:∃(f:Addr) (fd:FuncData),FnOk P w K mg base CX0 k f fd ps sp/\mg x=↑f/\keepIn K (.ref f)=true/\Binds K fd ps []
theorem Nj {X:Cx} {k n:Nat} {x:Str} {j:List Str} {sp:Sp} {p pos:Pos} {e:Expr} {a:List Expr} {t:TA} (C:Cal X.prog X.w X.K X.mg X.base k x j sp) (g:Room n X.A) (q:k<=n) (o:Gl X x) (h:PA X (e::a) t)
  (b:(x==("__debug__":Str))=false:=by decide) (m:starEach (e::a) X.env=(false,eval e X.env)::starEach a X.env:=by rfl) (d:(backTo pos (starEach a X.env)).any (·.1)=false:=by rfl):
  PE X (.Call (.Name x p) (e::a) [] pos) (tCall sp [] E0 t):=by
 obtain⟨f,r,F,i,c,l⟩:=C.ex;exact LR F (g.mono q) o i c l .nil Dh h b m d
theorem aN:bootBuiltins "len"=some (.builtin "len"):=by decide+kernel
theorem Nk:bootBuiltins "max"=some (.builtin "max"):=by decide+kernel
theorem my:bootBuiltins "sorted"=some (.builtin "sorted"):=by decide+kernel
theorem DG:bootBuiltins "any"=some (.builtin "any"):=by decide+kernel
theorem gd:bootBuiltins "isinstance"=some (.builtin "isinstance"):=by decide+kernel
theorem cH:bootBuiltins "list"=some (.type "list"):=by decide+kernel
theorem DH:bootBuiltins "int"=some (.type "int"):=by decide+kernel
theorem L1:bootBuiltins "bool"=some (.type "bool"):=by decide+kernel
theorem jX:bootBuiltins "str"=some (.type "str"):=by decide+kernel
theorem xv:bootBuiltins "tuple"=some (.type "tuple"):=by decide+kernel
def compN(scope:Scope):List Str:=(scope.names.filter λp=>p.2==.local||p.2==.cell||p.2==.free).map (·.1)
def yK(N:List Str)(scope:Scope):List (Option Nat):=(compN scope).map λx=>if scope.names.lookup x==some .free then N.findIdx? (· ==x) else none
def isCF:Option NameKind->Bool
 | some .cell=>true
 | some .free=>true
 | _=>false
def Nl{X:Cx}{scope:Scope}(h1:scope.kind=.function)(h2:(scope.names.map (·.1)).Nodup)(h3:(scope.names.all λp=>p.2 != .free||isCF (X.env.kindOf p.1))=true):BlkOk X (compN scope) (yK X.N scope) scope where
 kind:=h1
 nd:=h2.sublist (List.Sublist.map _ (VX ..))
 len:=by unfold yK;rw[Sx]
 names:=h2
 free:=λx b=>by
  have:=SK.mp h3 (x,.free) b;simp only[bne_self_eq_false,TY]at this;unfold isCF at this
  split at this
  . rename_i e;exact .inl e
  . rename_i e;exact .inr e
  . cases this
 at_:=λj i x e1 e2=>by
  unfold yK at e2;rw[SI,e1]at e2;simp only[Option.map_some,Option.some.injEq]at e2
  split at e2
  . rename_i c
    obtain⟨a,d,_⟩:=List.findIdx?_eq_some_iff_getElem.mp e2
    have b:X.N[i]? =some x:=by
     rw[Sy a];have:X.N[i]=x:=by simpa using d
     rw[this]
    refine⟨b,T3 (by simpa using c)⟩
  . cases e2
section
variable{t u:TS}{D:Ends}{σ:St}{H:Hp}{Q:VK}{ta tb:TE}{R:Bool->Hp->Prop}{c d:TT}
def aK:tSeq t u D σ H=t {D with nx:=u D} σ H:=rfl
def cX:tNext D σ H=D.nx σ H:=rfl
def bP{g:TG}:tAsg ta g D σ H=ta σ H λx a=>g x σ a D.nx:=rfl
def be{i:Nat}{v:V}{k:St->Hp->Prop}:gName i v σ H k=k (σ.set i (some v)) H:=rfl
def Ly{i:Nat}:tVar i σ H Q=∃ v,σ[i]? =some (some v)/\Q v H:=propext ⟨Lv,λ⟨_,e,h⟩=>sO e h⟩
def dc{v:V}{σ:St}:tVar 0 (some v::σ) H Q=Q v H:=rfl
def de{i:Nat}{a:Option V}{σ:St}:tVar (i+1) (a::σ) H Q=tVar i σ H Q:=rfl
def w_c{v:V}:tC v σ H Q=Q v H:=rfl
def gm{r:R2}:tOp r ta tb σ H Q=ta σ H λx b=>tb σ b λy a=>r x y a Q:=rfl
def cV:tRet ta D σ H=ta σ H D.rt:=rfl
def df:tRetN D σ H=D.rt .non H:=rfl
def cY:tDrop ta D σ H=ta σ H λ_ a=>D.nx σ a:=rfl
def aF:tIfS c t u D σ H=c σ H λb a=>if b=true then t D σ a else u D σ a:=rfl
def dg:tTest ta σ H R=ta σ H λx a=>∃ k,x=.bl k/\R k a:=rfl
def w_b:tB ta σ H R=ta σ H λx a=>∃ k,x=.bl k/\R k a:=rfl
def w_not:tNot c σ H R=c σ H λk a=>R (!k) a:=rfl
def eQ:tAnd c d σ H R=c σ H λk a=>if k=true then d σ a R else R false a:=rfl
def io:tOr c d σ H R=c σ H λk a=>if k=true then R true a else d σ a R:=rfl
def dh:tNotV ta σ H Q=ta σ H λx a=>∃ c,x=.bl c/\Q (.bl (!c)) a:=rfl
def di:tAndV ta tb σ H Q=ta σ H λx a=>∃ c,x=.bl c/\if c=true then tb σ a Q else Q (.bl false) a:=rfl
def eV:tOrV ta tb σ H Q=ta σ H λx a=>∃ c,x=.bl c/\if c=true then Q (.bl true) a else tb σ a Q:=rfl
def dO{k:List V->Hp->Prop}:tNil σ H k=k [] H:=rfl
def b5{a:TA}{k:List V->Hp->Prop}:tCons ta a σ H k=ta σ H λx c=>a σ c λxs b=>k (x::xs) b:=rfl
def ip{r:List V->Hp->VK->Prop}{a:TA}:tCB r a σ H Q=a σ H λvs b=>r vs b Q:=rfl
def dj{sp:Sp}{a:List V}{E:XK}{b:TA}:tCall sp a E b σ H Q=b σ H λvs c=>sp (vs++a) c Q E:=rfl
def eX{a:TA}:tTup a σ H Q=a σ H λxs b=>xs.length<=sizeLine/\∀ p,b p=none->Q (.ref p) (upd b p (.tup xs)):=rfl
def d3{a:TA}:tLst a σ H Q=a σ H λxs b=>xs.length<=sizeLine/\∀ p,b p=none->Q (.ref p) (upd b p (.lst xs)):=rfl
def gn{K:Frag}{T:String}{r:V->List V->Hp->VK->Prop}{a:TA}:tBM K T r ta a σ H Q=ta σ H λx b=>tyV K T x b/\a σ b λxs c=>r x xs c Q:=rfl
def e5{K:Frag}{T:String}{r:V->List V->Hp->VK->Prop}:Hg K T r ta σ H Q=ta σ H λx a=>tyV K T x a/\r x [] a Q:=rfl
def b7:tTrue σ H R=R true H:=rfl
def dk:Nc σ H Q=∀ p,H p=none->Q (.ref p) (upd H p (.dK [])):=rfl
def dm{d b e:TE}:sDPut d b e D σ H=e σ H λv g=>d σ g λx h=>b σ h λy f=>∃ a c,x=.ref a/\DPut f a y v c/\D.nx σ c:=rfl
def e6{i j:Int}:cAdd (.int i) (.int j) H Q=Q (.int (i+j)) H:=rfl
def e7{i j:Int}:cSub (.int i) (.int j) H Q=Q (.int (i-j)) H:=rfl
def e8{i j:Int}:cMul (.int i) (.int j) H Q=(CMul i j/\Q (.int (i*j)) H):=rfl
def e9{i j:Int}:cDiv (.int i) (.int j) H Q=(CDiv i j/\Q (.int (i/j)) H):=rfl
def fc{i j:Int}:cMod (.int i) (.int j) H Q=(0<j/\Q (.int (i%j)) H):=rfl
def fe{g:Int->Int->Bool}{i j:Int}:cCmp g (.int i) (.int j) H Q=Q (.bl (g i j)) H:=rfl
def ff{K:Frag}{i j:Int}:cEq K (.int i) (.int j) H Q=Q (.bl (decide (i=j))) H:=rfl
def fg{K:Frag}{i j:Int}:cNe K (.int i) (.int j) H Q=Q (.bl (!decide (i=j))) H:=rfl
def fh{K:Frag}{i j:Bool}:cEq K (.bl i) (.bl j) H Q=Q (.bl (decide (i=j))) H:=rfl
def fj{K:Frag}{i j:Bool}:cNe K (.bl i) (.bl j) H Q=Q (.bl (!decide (i=j))) H:=rfl
theorem ji{p:Addr}{i:Int}{xs:List V}(h:H p=some (.tup xs)):cIx (.ref p) (.int i) H Q=bnd (atI xs i) λv=>Q v H:=by
 unfold cIx;dsimp only;rw[h];rfl
theorem Lz{p:Addr}{i:Int}{xs:List V}(h:H p=↥xs):cIx (.ref p) (.int i) H Q=bnd (atI xs i) λv=>Q v H:=by
 unfold cIx;dsimp only;rw[h];rfl
def fk{i:Int}:kAbs [.int i] H Q=Q (.int (if i<0 then -i else i)) H:=rfl
def fm{i j:Int}:kMin [.int i,.int j] H Q=Q (.int (if j<i then j else i)) H:=rfl
theorem aZ{p:Addr}{xs:List V}(h:H p=↥xs):kLen [.ref p] H Q=Q (.int xs.length) H:=by
 unfold kLen;dsimp only;rw[h];rfl
theorem Nm{p:Addr}{xs:List V}(h:H p=some (.tup xs)):kLen [.ref p] H Q=Q (.int xs.length) H:=by
 unfold kLen;dsimp only;rw[h];rfl
theorem fV{p:Addr}{xs:List V}{y:V}(h:H p=↥xs):bT (.ref p) [y] H Q=(xs.length<sizeLine/\Q .non (upd H p (.lst (xs++[y])))):=by
 unfold bT;dsimp only;rw[h];rfl
theorem mB:∀ ns:∅,(ns.map V.int).all flatV=true
 | []=>rfl
 | n::r=>by rw[S6,VI,mB r];rfl
theorem ou(i:Int):∀ ns:∅,inV (.int i) (ns.map V.int)=decide (i∈ns)
 | []=>by simp[inV]
 | n::r=>by
  have a:=ou i r;unfold inV at a ⊢;rw[S6,UZ,a];show((n==i)||decide (i∈r))=decide (i∈n::r);rw[Tb,TD,UJ,Sz,Sz,SU];exact⟨λh=>h.elim (λe=>.inl e.symm) .inr,λh=>h.elim (λe=>.inl e.symm) .inr⟩
theorem sS{K:Frag}{p:Addr}{i:Int}{ns:∅}(h:H p=↥(ns.map V.int)):cIn K false (.int i) (.ref p) H Q=Q (.bl (decide (i∈ns))) H:=by
 unfold cIn;dsimp only;rw[h];dsimp only[unD,unS,bnd];rw[ou,mB];simp[flatV]
theorem jY{K:Frag}{p:Addr}{i:Int}{ns:∅}(h:H p=↥(ns.map V.int)):cIn K true (.int i) (.ref p) H Q=Q (.bl (!decide (i∈ns))) H:=by
 unfold cIn;dsimp only;rw[h];dsimp only[unD,unS,bnd];rw[ou,mB];simp[flatV]
end
def LoopR(J:It)(g:TG)(d:TS)(D:Ends)(σ:St)(e:Hp):Prop:=∃ W:Nat->Nat->St->Hp->Prop,(∃ m,W 0 m σ e)/\∀ i m σ H,W i m σ H->
 (J.stop i H/\D.nx σ H)\/(J.go i H/\∃ N:St->Hp->Prop,(∀ c a,N c a->∃ b,b<m/\W (i+1) b c a)/\∀ x a,J.yld i H x a->g x σ a λf h=>d {D with nx:=N,ct:=N,bk:=D.nx} f h)
def CompR(J:It)(g:TG)(s:TT)(te:TE)(fin:Addr->Hp->Prop)(q:St)(j:Hp):Prop:=∀ l,j l=none->
 ∃ W:Nat->Nat->St->Hp->Prop,(∃ m,W 0 m q (upd j l (.lst [])))/\∀ i m o a,W i m o a->
  (J.stop i a/\fin l a)\/(J.go i a/\∃ N:St->Hp->Prop,(∀ c d,N c d->∃ k,k<m/\W (i+1) k c d)/\∀ x p,J.yld i a x p->g x o p λe r=>s e r λb h=>
   if b=true then te e h λy n=>∃ f,n l=↥f/\f.length<sizeLine/\N e (upd n l (.lst (f++[y]))) else N e h)
section
variable{K:Frag}{g:TG}{tb:TS}{D:Ends}{σ:St}{H:Hp}{tl:TE}{ta:TA}{ix:List (Option Nat)}{tt:TT}{te:TE}{k:Nat}{Q:VK}
def dn:tFor (iList K tl) g tb D σ H=tl σ H λx b=>∃ a,x=.ref a/\(∃ xs,SqL K b a xs)/\LoopR (Itl K a) g tb D σ b:=rfl
def cA:tFor (hX ta) g tb D σ H=ta σ H λvs a=>∃ j:Int,vs=[.int j]/\ -(2^62)<=j/\j<2^62/\LoopR (Itr 0 j.toNat) g tb D σ a:=rfl
def cB:tFor (vX ta) g tb D σ H=ta σ H λvs a=>∃ i j:Int,vs=[.int i,.int j]/\(-(2^62)<=i/\i<2^62/\ -(2^62)<=j/\j<2^62)/\LoopR (Itr i (j-i).toNat) g tb D σ a:=rfl
def bB:tComp ix (iList K tl) g tt te σ H Q=tl σ H λx b=>∃ a,x=.ref a/\(∃ xs,SqL K b a xs)/\CompR (Itl K a) g tt te (λl c=>Q (.ref l) c) (subσ ix σ) b:=rfl
def bL:tComp ix (hX ta) g tt te σ H Q=ta σ H λvs b=>∃ j:Int,vs=[.int j]/\ -(2^62)<=j/\j<2^62/\CompR (Itr 0 j.toNat) g tt te (λl a=>Q (.ref l) a) (subσ ix σ) b:=rfl
def bM:sComp k ix (iList K tl) g tt te D σ H=tl σ H λx b=>∃ a,x=.ref a/\(∃ xs,SqL K b a xs)/\CompR (Itl K a) g tt te (λl c=>D.nx (σ.set k ↑l) c) (subσ ix σ) b:=rfl
def bw:sComp k ix (hX ta) g tt te D σ H=ta σ H λvs b=>∃ j:Int,vs=[.int j]/\ -(2^62)<=j/\j<2^62/\CompR (Itr 0 j.toNat) g tt te (λl a=>D.nx (σ.set k ↑l) a) (subσ ix σ) b:=rfl
theorem sU {j:Int} {n:Nat} {fin:Addr->Hp->Prop} {o:St} {f:Hp} (a:Addr->Nat->St->Hp->Prop) (h0:∀ l,f l=none->a l 0 o (upd f l (.lst [])))
  (u:∀ l i σ H,f l=none->i<n->a l i σ H->g (.int (j+i)) σ H λh s=>tt h s λb k=>if b=true then te h k λy q=>∃ ys,q l=↥ys/\ys.length<sizeLine/\a l (i+1) h (upd q l (.lst (ys++[y]))) else a l (i+1) h k)
  (t:∀ l σ H,f l=none->a l n σ H->fin l H):CompR (Itr j n) g tt te fin o f:=by
 intro l c;refine⟨λi m σ H=>m=n-i/\i<=n/\a l i σ H,⟨n,by simp,TF _,h0 l c⟩,?_⟩;rintro i m σ H ⟨rfl,z,p⟩;by_cases d:i<n
 . refine .inr ⟨d,a l (i+1),λw r v=>⟨n - (i+1),by lia,rfl,d,v⟩,λx r y=>?_⟩;obtain⟨e,y⟩:=y;subst e y;exact u l i σ _ c d p
 . have e:i=n:=by lia
   subst e;exact .inl ⟨SZ _,t l σ H c p⟩
theorem pC {a:Addr} {xs:List V} {fin:Addr->Hp->Prop} {n:St} {f:Hp} (d:Addr->Nat->St->Hp->Prop) (h0:∀ l,f l=none->d l 0 n (upd f l (.lst []))) (s:∀ l i σ H,f l=none->i<=xs.length->d l i σ H->SqL K H a xs)
  (v:∀ l i x σ H,f l=none->xs[i]? =some x->d l i σ H->g x σ H λj t=>tt j t λb k=>if b=true then te j k λy o=>∃ ys,o l=↥ys/\ys.length<sizeLine/\d l (i+1) j (upd o l (.lst (ys++[y]))) else d l (i+1) j k)
  (u:∀ l σ H,f l=none->d l xs.length σ H->fin l H):CompR (Itl K a) g tt te fin n f:=by
 intro l c;refine⟨λi m σ H=>m=xs.length-i/\i<=xs.length/\d l i σ H,⟨xs.length,by simp,TF _,h0 l c⟩,?_⟩;rintro i m σ H ⟨rfl,z,p⟩;have q:=s l i σ H c z p;by_cases h:i<xs.length
 . refine .inr ⟨⟨xs,xs[i],q,by simp[h]⟩,d l (i+1),λA r w=>⟨xs.length - (i+1),by lia,rfl,h,w⟩,λx r y=>?_⟩;obtain⟨e,y⟩:=y;subst e;exact v l i x σ _ c (y xs q) p
 . have e:i=xs.length:=by lia
   subst e;exact .inl ⟨⟨xs,q,SZ _⟩,u l σ H c p⟩
theorem wc{p q:Addr}{xs ys:∅}(b:H p=↥(xs.map V.int))(a:H q=↥(ys.map V.int))(h:Q (.bl (decide (xs=ys))) H):cEq K (.ref p) (.ref q) H Q:=by
 show rEqD K (.ref p) (.ref q) H Q;refine⟨.list (xs.map PyData.int),.list (ys.map PyData.int),.lst (ST b) (.ints xs),.lst (ST a) (.ints ys),l8 xs,l8 ys,?_⟩;rw[PyData.eqv,xt];exact h
theorem sV{p q:Addr}{xs ys:∅}(b:H p=↥(xs.map V.int))(a:H q=↥(ys.map V.int))(h:Q (.bl (!decide (xs=ys))) H):cNe K (.ref p) (.ref q) H Q:=by
 show rNeD K (.ref p) (.ref q) H Q;refine⟨.list (xs.map PyData.int),.list (ys.map PyData.int),.lst (ST b) (.ints xs),.lst (ST a) (.ints ys),l8 xs,l8 ys,?_⟩;rw[PyData.eqv,xt];exact h
theorem KA{p:Addr}{ns:∅}(c:H p=↥(ns.map V.int))(b:ns.length<64)(h:∀(a:∅) l,H l=none->a.Perm ns->a.Pairwise (· <=·)->Q (.ref l) (upd H l (.lst (a.map V.int)))):fz [.ref p] H Q:=by
 unfold fz;dsimp only;rw[c];exact⟨ns,rfl,b,h⟩
theorem iW{p:Addr}{xs:List V}(a:H p=↥xs)(h:∀ l,H l=none->Q (.ref l) (upd H l (.lst xs))):kList [.ref p] H Q:=by
 unfold kList;dsimp only;rw[a];exact h
theorem LA{p q:Addr}{xs ys:List V}(c:H p=↥xs)(b:H q=↥ys)(a:xs.length+ys.length<=1000)(h:∀ l,H l=none->Q (.ref l) (upd H l (.lst (xs++ys)))):cAdd (.ref p) (.ref q) H Q:=by
 show bnd (unM (H p)) _;rw[c];show bnd (unM (H q)) _;rw[b];exact⟨Tv (aH a),h⟩
end
theorem az{X:Cx}{N:List Str}{ix:List (Option Nat)}{scope:Scope}(h1:scope.kind=.function)(h2:(scope.names.map (·.1)).Nodup)(h3:(scope.names.all λp=>p.2 != .free||isCF (X.env.kindOf p.1))=true)(h4:N=compN scope)(h5:ix=yK X.N scope):BlkOk X N ix scope:=by
 subst h4 h5;exact Nl h1 h2 h3
def kLenS(K:Frag):List V->Hp->VK->Prop:=λxs H Q=>∃ p a,xs=[.ref p]/\(SqL K H p a\/SqT K H p a)/\Q (.int a.length) H
structure Bt(mg:Str->Option Value):Prop where
 len_:mg "len"=none
 abs_:mg "abs"=none
 min_:mg "min"=none
 max_:mg "max"=none
 sorted_:mg "sorted"=none
 any_:mg "any"=none
 isinstance_:mg "isinstance"=none
 list_:mg "list"=none
 int_:mg "int"=none
 bool_:mg "bool"=none
 str_:mg "str"=none
 tuple_:mg "tuple"=none
 reversed_:mg "reversed"=none
 set_:mg "set"=none
 range_:mg "range"=none
 zip_:mg "zip"=none
theorem Vals.get':∀{xs:List V} {us:List Value} {i:Nat} {u:Value},Vals xs us->us[i]? =some u->∃ x,xs[i]? =some x/\RelV x u
 | _,_,_,_,.nil,h=>by simp at h
 | _,_,0,_,.cons r _,h=>by simp at h;subst h;exact⟨_,rfl,r⟩
 | _,_,i+1,_,.cons _ t,h=>by
  obtain⟨x,a,r⟩:=Vals.get' (i:=i) t (by simpa using h);exact⟨x,by simpa using a,r⟩
section
variable{X:Cx}{Sk:List (Addr × Obj)}{σ:St}{H:Hp}{s s':Shared}
def Inv.kept'(I:Inv X Sk σ H s)(k:∀ b u,s.heap.get? b=some u->s'.heap.get? b=some u)(a:s'.os=s.os)(c:AllBare s'.gens):Inv X Sk σ H s':=
 I.call' (ch:=[]) a (Un.kept k) (I.hok.kept k) c λb z=>absurd z (by simp)
theorem Inv.walked{l:Addr}{o:Obj}(I:Inv X Sk σ H s)(c:Moved [s.heap.objs.size] (λa b=>b=a) {s with heap:=s.heap.push o} s'):Inv X Sk σ H s':=by
 refine I.kept' (λb u e=>c.heap b u (λz=>?_) (S5 _ e)) c.os (by rw[show s'.gens=s.gens from c.gens];exact I.bare);have:b=s.heap.objs.size:=by simpa using z
 exact absurd (Tc e) (by rw[this];exact Uj _)
def kAny:List V->Hp->VK->Prop
 | [.ref p],H,Q=>bnd (unL (H p)) λys=>∃ bs:List Bool,ys=bs.map V.bl/\Q (.bl (bs.any id)) H
 | _,_,_=>False
theorem IY(bs:List Bool):(List.range bs.length).any (λi=>bs.getD i false)=bs.any id:=by
 rw[Tb,Ug,Ug];constructor
 . rintro⟨i,c,h⟩;have a:i<bs.length:=SQ.mp c;exact⟨bs[i],S9 a,by simpa [List.getD,a] using h⟩
 . rintro⟨b,f,h⟩;obtain⟨i,c,e⟩:=Us.mp f;refine⟨i,SQ.mpr c,?_⟩;have d:b=true:=h;rw[List.getD,Sy c,e];exact d
theorem uB(k:X.calm=true):CallR X (.builtin "any") kAny:=by
 intro Sk s σ H xs F Q I r h;unfold kAny at h
 split at h
 . rename_i p
   obtain⟨J,e,a,rfl,q⟩:=bn h;obtain⟨u,rfl,B⟩:=dN r;cases B;obtain⟨c,j,f,G⟩:=I.list (uA e);have g:=j.length;rw[Sx]at g
   have d:p<s.heap.objs.size:=by
    obtain⟨o,h1,_⟩:=f.isList;exact Tc h1
   refine call_any_walkS (Vs f.isList ?_);refine⟨s.heap.objs.size,_,_,_,c.toArray.size,_,_,λi=>a.getD i false,rfl,(Walks.list (A:=X.A.in1) (I.ok.hd k) s.heap.objs.size p (TB d) c.toArray).toS,⟨⟨_,Ts _ rfl,rfl,rfl⟩,f.isList.push _⟩,?_,λs' z=>?_⟩
   . intro i v s1 D E t n;have w:c[i]? =some v:=by simpa using t
     obtain⟨x,C,m⟩:=j.get' w;obtain⟨b,hb,rfl⟩:∃ b,a[i]? =some b/\V.bl b=x:=by simpa using C
     cases m;refine Ut ?_;have y:a.getD i false=b:=by simp[List.getD,hb]
     rw[← y];exact n
   . refine⟨.bl _,H,I.walked (l:=p) z,?_,q⟩;have e2:c.toArray.size=a.length:=by rw[S8];exact g.symm
     rw[e2,IY];rfl
 . exact h.elim
def jZ(K:Frag):V->List V->Hp->VK->Prop
 | .ref p,[y],H,Q=>∃(a:List PyData) (d:PyData) (j:Nat),DV K H (.ref p) (.list a)/\DV K H y d/\PyData.canLayAll0 a=true/\PyData.canLay0 d=true/\min (PyData.depthAll a) d.depth<=62/\
   j<=1000/\(∃ e,a[j]? =some e/\PyData.eqv e d=true)/\(∀ m e,m<j->a[m]? =some e->PyData.eqv e d=false)/\Q (.int j) H
 | _,_,_,_=>False
theorem jO(S:X.A.units+64<cLine):MtR X "list.index" (jZ X.K):=by
 intro Sk s σ H x vs v U Q I l M h;unfold jZ at h
 split at h
 . rename_i p y
   obtain⟨z,d,j,E,J,w,G,B,P,⟨e,t,C⟩,i,q⟩:=h;cases l;obtain⟨u,rfl,N⟩:=dN M;obtain⟨R,D⟩:=E.reads I rfl;obtain⟨T,l⟩:=J.reads I N
   cases D with
   | @list _ o f n _ _ h1 h2 h3 h4=>
    obtain⟨W,O,L,k⟩:=o;dsimp only at h2 h3;subst h2 h3;have a:=SeqAt.readsAll_map z _ _ w h4
    have b:∀(m:Nat) (g:m<f.size),z[m]? =some (SeqAt.readOf s.heap f[m]):=λm g=>by
     rw[← a,SI,Vw,UE g];rfl
    have c:j<f.size:=by
     have:=(SD.mp t).1;rw[← a,Sx,UM]at this;exact this
    refine UK F.slot_list_index ⟨_,h1,rfl⟩ F.entry_list_index (F.args_list_index_2 _ _) (SeqAt.list_indexAt p f n O k u (λy=>PyData.eqv (SeqAt.readOf s.heap y) d) j c #[4] ?_ ?_) ⟨h1,SeqAt.items_eqAt h4 l w G ?_,⟨.int j,H,I.tok _,⟨_,rfl⟩,q⟩⟩
    . have:=b j c;rw[t]at this;cases this;exact C
    . intro m g r;exact i m _ r (b m g)
    . lia
 . exact h.elim
def Itz(K:Frag)(a b:Addr):It:=
 ⟨λi H=>∃ xs c x y,SqL K H a xs/\SqL K H b c/\xs[i]? =some x/\c[i]? =some y,
  λi H v d=>∃ T x y,v=.ref T/\H T=none/\d=upd H T (.tup [x,y])/\(∀ xs,SqL K H a xs->xs[i]? =some x)/\∀ c,SqL K H b c->c[i]? =some y,
  λi H=>∃ xs c,SqL K H a xs/\SqL K H b c/\(xs.length<=i\/c.length<=i)⟩
theorem a8{h:Heap}{a b:Addr}{o u:Obj}{c d:String}(g:h.get? a=some o)(f:h.get? b=some u)(j:o.cls=.type c)(e:u.cls=.type d)(i:c≠d):a≠b:=by
 rintro rfl;rw[g]at f;cases f;rw[j]at e;cases e;exact i rfl
def ZSt(a b z d e c f:Addr)(i:Nat)(h:Heap):Prop:=IsZip h z d e .none/\IsPair h d (.ref c) (.ref f)/\(∃ u v,IsPair h e u v)/\h.IsListIter c a i/\h.IsListIter f b i
def KB{P:Program}{w:World}{K:Frag}{es:List Expr}{x1:Nat}{pos:Pos}(a b z TI A t B:Addr)(dT:TI≠A)(d1:t≠B):
  Turn P w K (.Tuple es x1 pos) (Itz K a b) [z,TI,A,t,B] z (ZSt a b z TI A t B) where
 mem:=by simp
 obj:=λi h C c j=>by
  obtain⟨m,l,⟨u,v,f⟩,⟨o1,e1,r,L⟩,⟨o2,e2,q,U⟩⟩:=C;simp only[SU,Tw,Uz]at j;rcases j with rfl | rfl | rfl | rfl | rfl
  . exact⟨_,m,λv z=>by have z':Data.fields _=Data.cell v:=z;cases z'⟩
  . exact⟨_,l,λv z=>by have z':Data.seq _ _=Data.cell v:=z;cases z'⟩
  . exact⟨_,f,λv z=>by have z':Data.seq _ _=Data.cell v:=z;cases z'⟩
  . exact⟨_,e1,λv z=>by rw[L]at z;cases z⟩
  . exact⟨_,e2,λv z=>by rw[U]at z;cases z⟩
 keep:=λi h h' C k=>by
  obtain⟨m,l,⟨u,v,f⟩,h1,h2⟩:=C;exact⟨k z (by simp) _ m,k TI (by simp) _ l,⟨u,v,k A (by simp) _ f⟩,h1.at λo e=>k t (by simp) o e,h2.at λo e=>k B (by simp) o e⟩
 item:=by
  intro X hP hw hK j i Sk s σ H E I hf C hg;subst hP hw hK;obtain⟨xs,ys,x,y,R,J,p,hy⟩:=hg;obtain⟨T,ab,p1,ak⟩:=I.list R;obtain⟨S,W,p2,Z⟩:=I.list J;obtain⟨u1,ad,ag⟩:=ab.get p;obtain⟨u2,ae,af⟩:=W.get hy;obtain⟨m,l,⟨u,v,f⟩,⟨o1,e1,r,L⟩,⟨o2,e2,q,U⟩⟩:=id C;obtain⟨oa,M,O,_⟩:=p1.isList;obtain⟨ob,N,F,_⟩:=p2.isList
  have D:ZipApart z TI A t B a b:=⟨a8 l m rfl rfl #[1],a8 f m rfl rfl #[1],a8 e1 m r rfl #[1],a8 e2 m q rfl #[1],dT,a8 l e1 rfl r #[1],a8 l e2 rfl q #[1],a8 f e1 rfl r #[1],a8 f e2 rfl q #[1],d1,
   a8 M m O rfl #[1],a8 M f O rfl #[1],a8 M e1 O r #[1],a8 M e2 O q #[1],a8 N m F rfl #[1],a8 N f F rfl #[1],a8 N e1 F r #[1],a8 N e2 F q #[1]⟩
  refine wpAny_pyNext_zip_item D m l f ⟨o1,e1,r,L⟩ ⟨o2,e2,q,U⟩ p1.isList p2.isList (x:=u1) (y:=u2) (by simpa using ad) (by simpa using ae) λh' a1 a2 a3 a4 a5 a6 hk=>?_;refine⟨_,rfl,wpAny_letOwnedTupleGo_zip a1 λh2 Z sb=>?_⟩;have hT:H s.heap.objs.size=none:=I.fresh;have lt:∀{c o},s.heap.get? c=some o->c≠s.heap.objs.size:=λe=>TB (Tc e)
  have G:∀ c o,c∉[z,A,t,B]->s.heap.get? c=some o->h2.get? c=some o:=λc o j e=>by
   simp only[SU,Tw,Uz,not_or]at j;exact sb.extBut _ _ j.1 (hk c o j.1 j.2.1 j.2.2.1 j.2.2.2 e)
  have ai:s.heap.objs.size≠z:=(lt m).symm;have gT:h2.get? s.heap.objs.size=some {cls:=.type "tuple",data:=.seq #[u1,u2]}:=sb.extBut _ _ ai a5;have nH:∀ c∈[z,A,t,B],H c=none:=λc j=>(hf c (by simp only[SU,Tw,Uz]at j ⊢;rcases j with h | h | h | h <;> simp[h])).1;refine⟨.ref s.heap.objs.size,upd H s.heap.objs.size (.tup [x,y]),I.call' (s':={s with heap:=h2}) (ch:=[z,A,t,B]) rfl ⟨λc o e n _ p=>G c o p e,λc o e n _ p=>⟨o.slots,G c o p e⟩,λc o e n _=>by rw[ap (lt e)];exact n,λc o e p=>⟨o,G c o p e⟩,λc xs e=>by rw[ap (aB e hT)];exact e,λc o u e=>by rw[ap (aB e hT)];exact e,λc ps e=>⟨#[],by rw[ap (aB e hT),e];simp⟩⟩ ?_ I.bare ?_,rfl,⟨_,x,y,rfl,hT,rfl,λzs Y=>by rw[I.list_inj Y R];exact p,λzs Y=>by rw[I.list_inj Y J];exact hy⟩,?_,?_⟩
  . intro c ob e;by_cases hb:c=s.heap.objs.size
    . subst hb;rw[aj]at e;cases e;exact⟨by show(2:Nat)<=sizeLine;exact Tv (aH #[1]),[u1,u2],.cons ag (.cons af .nil),⟨_,gT,rfl,_,rfl⟩⟩
    . rw[ap hb]at e;refine(I.hok c ob e).stay (λd w' Q g=>G d w' ?_ g) (λd g=>by rw[ap (aB g hT)];exact g) λd xs g=>by rw[ap (aB g hT)];exact g
      intro hm;rcases Q with rfl | Q
      . rw[nH _ hm]at e;cases e
      . rw[nH _ hm]at Q;cases Q
  . intro c j;obtain⟨f0,L,U,f3,f4,f5⟩:=hf c (by simp only[SU,Tw,Uz]at j ⊢;rcases j with h | h | h | h <;> simp[h]);exact⟨f3,L,f4,f5⟩
  . exact⟨Z,sb.extBut _ _ D.TIz (hk _ _ D.TIz D.TITO D.TIi1 D.TIi2 l),⟨_,_,sb.extBut _ _ D.TOz a2⟩,a3.extBut sb.extBut D.i1z,a4.extBut sb.extBut D.i2z⟩
  . intro c j
    obtain⟨o,e,_⟩:∃ o,s.heap.get? c=some o/\True:=by
     simp only[SU,Tw,Uz]at j;rcases j with rfl | rfl | rfl | rfl | rfl
     . exact⟨_,m,trivial⟩
     . exact⟨_,l,trivial⟩
     . exact⟨_,f,trivial⟩
     . exact⟨_,e1,trivial⟩
     . exact⟨_,e2,trivial⟩
    rw[ap (lt e)];exact(hf c j).1
 done:=by
  intro X hP hw hK j i Sk s σ H E I hf C hg;subst hP hw hK;obtain⟨xs,ys,R,J,p⟩:=hg;obtain⟨T,ab,p1,ak⟩:=I.list R;obtain⟨S,W,p2,Z⟩:=I.list J;have am:=ab.length;have al:=W.length;obtain⟨m,l,⟨u,v,f⟩,⟨o1,e1,r,L⟩,⟨o2,e2,q,U⟩⟩:=id C;obtain⟨oa,M,O,_⟩:=p1.isList;obtain⟨ob,N,F,_⟩:=p2.isList
  have D:ZipApart z TI A t B a b:=⟨a8 l m rfl rfl #[1],a8 f m rfl rfl #[1],a8 e1 m r rfl #[1],a8 e2 m q rfl #[1],dT,a8 l e1 rfl r #[1],a8 l e2 rfl q #[1],a8 f e1 rfl r #[1],a8 f e2 rfl q #[1],d1,
   a8 M m O rfl #[1],a8 M f O rfl #[1],a8 M e1 O r #[1],a8 M e2 O q #[1],a8 N m F rfl #[1],a8 N f F rfl #[1],a8 N e1 F r #[1],a8 N e2 F q #[1]⟩
  have ac:T.toArray[i]? =none\/S.toArray[i]? =none:=by
   rcases p with h | h
   . exact .inl (by simp;omega)
   . exact .inr (by simp;omega)
  refine wpAny_pyNext_zip_end (I.ok.hd j) D m l f ⟨o1,e1,r,L⟩ ⟨o2,e2,q,U⟩ p1.isList p2.isList ac λh' hk=>⟨rfl,?_⟩
  have G:∀ c o,c∉[z,A,t,B]->s.heap.get? c=some o->h'.get? c=some o:=λc o j e=>by
   simp only[SU,Tw,Uz,not_or]at j;exact hk c o j.1 j.2.1 j.2.2.1 j.2.2.2 e
  have nH:∀ c∈[z,A,t,B],H c=none:=λc j=>(hf c (by simp only[SU,Tw,Uz]at j ⊢;rcases j with h | h | h | h <;> simp[h])).1;refine I.call' (s':={s with heap:=h'}) (ch:=[z,A,t,B]) rfl ⟨λc o e n _ p=>G c o p e,λc o e n _ p=>⟨o.slots,G c o p e⟩,λc o e n _=>n,λc o e p=>⟨o,G c o p e⟩,λc xs e=>e,λc o u e=>e,λc ps e=>⟨#[],by rw[e];simp⟩⟩ ?_ I.bare ?_
  . intro c ob e;refine(I.hok c ob e).stay (λd w' Q g=>G d w' ?_ g) (λd g=>g) λd xs g=>g;intro hm;rcases Q with rfl | Q
    . rw[nH _ hm]at e;cases e
    . rw[nH _ hm]at Q;cases Q
  . intro c j;obtain⟨f0,L,U,f3,f4,f5⟩:=hf c (by simp only[SU,Tw,Uz]at j ⊢;rcases j with h | h | h | h <;> simp[h]);exact⟨f3,L,f4,f5⟩
 self:=λ_ _ _ _ _ C h=>wpAny_pyIter_zip C.1 h
def iZip(K:Frag)(e:TA):TI:=λσ H R=>e σ H λvs c=>∃ a b,vs=[.ref a,.ref b]/\(∃ xs,SqL K c a xs)/\(∃ d,SqL K c b d)/\R (Itz K a b) c
theorem No:bootBuiltins "zip"=some (.type "zip"):=by decide+kernel
def IZ{y:List Expr}{T:Nat}{e:Pos}{e1 e2:Expr}{m:TA}{p pos:Pos}(B:Gl X "zip")(Q:X.mg "zip"=none)(M:PA X [e1,e2] m)(A:starEach [e1,e2] X.env=[(false,eval e1 X.env),(false,eval e2 X.env)]:=by rfl)(f:starEach [e2] X.env=[(false,eval e2 X.env)]:=by rfl):
  PI X (.Tuple y T e) (.Call (.Name "zip" p) [e1,e2] [] pos) (iZip X.K m):=by
 intro Sk s σ H R I h;refine Call_ (fv I B Q No (Tt (thn (M pos Sk s σ H _ I h) λW s1 ⟨vs,t,g,r1,D⟩=>?_) (by rw[A,f]) (by rw[f];rfl)));obtain⟨a,b,rfl,⟨xs,i⟩,⟨ys,j⟩,q⟩:=D;obtain⟨Y,U,rfl,l,k⟩:=Ha r1;cases l;cases k;obtain⟨o,P,S,N⟩:=g.list i;obtain⟨n,v,E,x⟩:=g.list j;refine call_zip_2 S.isList E.isList λJ u O w L F Z C=>?_;refine wpAny_pyIter_zip u ?_;have G:Inv X Sk σ t {s1 with heap:=J,toks:=s1.toks}:=g.kept C;refine⟨s1.heap.objs.size+4,[s1.heap.objs.size+4,s1.heap.objs.size+2,s1.heap.objs.size+3,s1.heap.objs.size,s1.heap.objs.size+1],ZSt a b (s1.heap.objs.size+4) (s1.heap.objs.size+2) (s1.heap.objs.size+3) s1.heap.objs.size (s1.heap.objs.size+1),Itz X.K a b,t,rfl,G,KB a b (s1.heap.objs.size+4) (s1.heap.objs.size+2) (s1.heap.objs.size+3) s1.heap.objs.size (s1.heap.objs.size+1) (λz=>by have:s1.heap.objs.size+2=s1.heap.objs.size+3:=z;omega) (λz=>by have:s1.heap.objs.size=s1.heap.objs.size+1:=z;omega),⟨u,O,⟨_,_,w⟩,L,F⟩,λc r=>?_,q⟩
 have d:s1.heap.objs.size<=c:=by
  simp only[SU,Tw,Uz]at r;rcases r with rfl | rfl | rfl | rfl | rfl <;> omega
 exact g.fpOk d (g.hok.fresh d)
end
open Builtin Builtin.Str
theorem AF:∀{ts:List Str} {us:List Value},Vals (ts.map V.str) us->∃ l:List (Str × Tok),us=strValues l/\l.map (·.1)=ts
 | [],_,.nil=>⟨[],rfl,rfl⟩
 | t::ts,_,.cons r rs=>by
  obtain⟨l,rfl,e⟩:=AF (ts:=ts) rs;obtain⟨u,rfl⟩:=r;exact⟨(t,u)::l,rfl,by rw[S6,e]⟩
theorem BB:∀(l:List (Str × Tok)),Vals ((l.map (·.1)).map V.str) (strValues l)
 | []=>.nil
 | (t,u)::l=>.cons ⟨u,rfl⟩ (BB l)
section
variable{X:Cx}
def kFind:V->List V->Hp->VK->Prop
 | .str x,[.str y],H,Q=>Q (.int (Txt.find x y)) H
 | _,_,_,_=>False
def yL:V->List V->Hp->VK->Prop
 | .str x,[.str y],H,Q=>(y.length==0)=false/\x.length<=sizeLine/\(Txt.split x y).length<=sizeLine/\∀ l,H l=none->Q (.ref l) (upd H l (.lst ((Txt.split x y).map V.str)))
 | _,_,_,_=>False
theorem I0:MtR X "str.split" yL:=by
 intro j s σ H x vs v o Q I i g h;unfold yL at h
 split at h
 . rename_i x y
   obtain⟨t,rfl⟩:=i;obtain⟨u,rfl,m⟩:=dN g;obtain⟨b,rfl⟩:=m;obtain⟨c,n,f,q⟩:=h
   have fin:∀(l:List (Str × Tok)) (k:Nat),l.map (·.1)=Txt.split x y->EP X j σ Q (.ref s.heap.objs.size) {s with heap:=s.heap.push {cls:=.type "list",data:=.seq (strValues l).toArray},toks:=k}:=λl k e=>by
    refine⟨.ref s.heap.objs.size,_,I.lnew (t':=k) (ys:=(Txt.split x y).map V.str) (So:=strValues l) ?_ (by rw[Sx];exact f),rfl,q _ I.fresh⟩;rw[← e];exact BB l
   cases h1:(decide (x.length<y.length)||decide (strKind x<strKind y))
   . cases a:(occurrences x y 0 x.length (x.length+1)).isEmpty
     . have d:Txt.split x y=partsBetween x (occurrences x y 0 x.length (x.length+1)) y.length:=(SS (VY h1)).trans (SS (VY a));refine UK Wt (VB _ _ _) Wl (V9 _ _) (meets_str_split_sep x y t b h1 c a n (by rw[← d];exact f)) ?_;show wants _ _ _ {s with toks:=_,heap:=s.heap.push {cls:=.type "list",data:=.seq (strsFrom s.toks (partsBetween x (occurrences x y 0 x.length (x.length+1)) y.length)).toArray}};rw[strsFrom_eq];exact fin (numbered s.toks _) _ ((numbered_texts _ _).trans d.symm)
     . exact UK Wt (VB _ _ _) Wl (V9 _ _) (meets_str_split_not_found x y t b h1 c a)
        (fin [(x,t)] s.toks ((SS (VY h1)).trans (SY a)).symm)
   . exact UK Wt (VB _ _ _) Wl (V9 _ _) (meets_str_split_cannot_occur x y t b h1)
      (fin [(x,t)] s.toks (SY h1).symm)
 . exact h.elim
def lF:V->Option Int->Option Int->Hp->VK->Prop
 | .ref p,lo,hi,H,Q=>cSl (.ref p) lo hi H Q
 | .str z,lo,hi,H,Q=>z.length<=sizeLine/\Q (.str (Txt.slice z lo hi)) H
 | _,_,_,_,_=>False
theorem nP:SlR X lF:=by
 intro o s σ H x v A w e g y Q I m a r f h
 cases x with
 | ref p=>exact ON o s σ H _ v A w e g y Q I m a r f h
 | str z=>
  obtain⟨b,q⟩:=(show z.length<=sizeLine/\Q (.str (Txt.slice z e g)) H from h);obtain⟨t,rfl⟩:=m;have fin:∀ c k,EP X o σ Q (.str (Txt.slice z e g) c) {s with toks:=k}:=λc k=>⟨.str _,H,I.tok k,⟨c,rfl⟩,q⟩;refine⟨"str",_,F.slot_str_getitem.lookup,VB _ _ _,?_⟩
  cases r with
  | none=>
   cases f with
   | none=>exact UR (l:=none) (u:=none) (st:=none) a rfl (VS ⟨SW (WA z _ _) b,fin⟩)
   | int j d=>exact UR (l:=none) (u:=some (j,d)) (st:=none) a rfl (VS ⟨SW (WA z _ _) b,fin⟩)
  | int i n=>
   cases f with
   | none=>exact UR (l:=some (i,n)) (u:=none) (st:=none) a rfl (VS ⟨SW (WA z _ _) b,fin⟩)
   | int j d=>exact UR (l:=some (i,n)) (u:=some (j,d)) (st:=none) a rfl (VS ⟨SW (WA z _ _) b,fin⟩)
 | _=>exact False.elim h
def Its(x:Str):It:=⟨λi _=>i<x.cps.size,λi H v a=>a=H/\∃ c,x.cps[i]? =some c/\v=.str ⟨#[c]⟩,λi _=>x.cps.size<=i⟩
def DI {P:Program} {w:World} {K:Frag} {U:Expr} {x:Str} {t:Tok} (it:Addr) (l:String) (L:["enumerate","zip","dict_itemiterator","dict_reverseitemiterator","odict_iterator","itertools.zip_longest","itertools.pairwise"].contains l=false)
  (W:∀ A:Around,A.handled=none->Walks P w A it [it] [it] x.cps.size (SignAt x) (λi h=>h.IsStrIter it l x t i))
  (N:∀(A:Around) (i:Nat) (s:Shared) (Q:Value->Shared->Prop) (E:Value->Shared->Prop),s.heap.IsStrIter it l x t i->Q (.ref it) s->wpAny (model P w) A (pyIter (.ref it)) Q E s):
  Turn P w K U (Its x) [it] it (λi h=>i<=x.cps.size/\h.IsStrIter it l x t i) where
 mem:=by simp
 obj:=λi h a b f=>by
  have e:b=it:=by simpa using f
  subst e;obtain⟨_,o,e,c,d⟩:=a;exact⟨o,e,λv z=>by rw[d]at z;cases z⟩
 keep:=λi h m a k=>by
  obtain⟨Z,o,e,c,d⟩:=a;exact⟨Z,o,k it (by simp) o e,c,d⟩
 item:=by
  intro X D hw r p i S s σ H E I n a q;subst D hw r;obtain⟨R,C,f2,B,O,J⟩:=n it (by simp);have g:i<x.cps.size:=q;refine(W X.A (I.ok.hd p)).item i s _ _ g a.2 λv m F Y j y=>?_;obtain⟨c,u,G,rfl⟩:=Y;have I1:Inv X S σ H {s with heap:=m,toks:=F}:=I.turned (λb o f e=>y b o (by simpa using f) e) R C B O J;obtain⟨o,e,T,d⟩:=id j;exact⟨_,rfl,Df (s:={s with heap:=m,toks:=F}) e T d L ⟨.str ⟨#[c]⟩,H,I1,⟨u,rfl⟩,⟨rfl,c,G,rfl⟩,⟨g,j⟩,λb f=>(n b f).1⟩⟩
 done:=by
  intro X D hw r p i S s σ H E I n a q;subst D hw r;obtain⟨R,C,f2,B,O,J⟩:=n it (by simp);have M:x.cps.size<=i:=q;have e:i=x.cps.size:=Nat.le_antisymm a.1 M;subst e;exact(W X.A (I.ok.hd p)).done s _ _ a.2 λm F y=>⟨rfl,I.turned (λb o f e=>y b o (by simpa using f) e) R C B O J⟩
 self:=λA i s Q E a h=>N A i s Q E a.2 h
def iStr(a:TE):TI:=λσ H R=>a σ H λx b=>∃ z,x=.str z/\R (Its z) b
theorem Np{w l:Expr}{m:TE}(r:PE X l m):PI X w l (iStr m):=by
 intro j s σ H R I h;refine thn (r j s σ H _ I h) λv s1 ⟨x,f,a,r1,n⟩=>?_;obtain⟨z,rfl,q⟩:=n;obtain⟨t,rfl⟩:=r1
 have fin:∀ b∈[s1.heap.objs.size],FpOk X j f b:=λb u=>by
  have e:b=s1.heap.objs.size:=by simpa using u
  subst e;exact a.fpOk (SZ _) (a.hok.fresh (SZ _))
 cases k:z.cps.all (· < 128)
 . refine wpAny_pyIter_wide k ⟨s1.heap.objs.size,[s1.heap.objs.size],_,Its z,f,rfl,a.kept (t':=s1.toks) λb o e=>S5 _ e,DI (t:=t) _ "str_iterator" #[1] (λp g=>Walks.strWide g _ z t) (λA i s Q E d c=>wpAny_pyIter_striter_wide d c),⟨TF _,_,Ts _ rfl,rfl,rfl⟩,fin,q⟩
 . refine wpAny_pyIter_ascii k ⟨s1.heap.objs.size,[s1.heap.objs.size],_,Its z,f,rfl,a.kept (t':=s1.toks) λb o e=>S5 _ e,DI (t:=t) _ "str_ascii_iterator" #[1] (λp g=>Walks.strAscii g _ z t) (λA i s Q E d c=>wpAny_pyIter_striter_ascii d c),⟨TF _,_,Ts _ rfl,rfl,rfl⟩,fin,q⟩
theorem FH {prog:Program} {w:World} {A:Around} {E:Value->Shared->Prop} {s:Shared} {l:Addr} {a:Array Value} {k:Int} {t:Tok} {v:Value} {Q:Unit->Shared->Prop} (c:s.heap.IsList l a)
  (h0:0<=k) (b:k<2^63) (m:k<a.size)
  (g:Q () {s with heap:=s.heap.update l (Obj.mapSeq (·.setIfInBounds k.toNat v))}):
  wpAny (model prog w) A (setItem (.ref l) (.int k t) v) Q E s:=by
 obtain⟨o,e,n,i,f⟩:=id c;unfold setItem
 try with_reducible refine Wq ?_
 first | refine To (TL ?_) | skip
 refine To (wpAny_sequenceKey c.typeIs #[1] ?_)
 refine To (wpAny_callSpecial?_slot (name:=Str.ofString "__setitem__") c.typeIs slot_list_setitem
  (wpAny_call_entry slot_list_setitem c.typeIs entry_list_setitem ?_ (args_list_setitem _ _ _)))
 show wpAny _ _ (Builtin.List.listSubscript? (.int k t) >>= _) _ _ s;refine To (wpAny_listSubscript_int (fitsIndex_of h0 b) ?_)
 clear b
 obtain⟨j,rfl⟩:=US h0;have h:j<a.size:=by lia
 have d:a[j]? =some a[j]:=UE h;show wpAny _ _ ((seqItemAt l j >>= λr=>pure (r.map (j,·))) >>= _) _ _ s;refine To (To (wpAny_seqItemAt e f (TL ?_)));rw[d];show wpAny _ _ (setSeqItemAt l j v >>= _) _ _ s;refine To (wpAny_setSeqItemAt e f ?_)
 first
  | exact To (TL (TL ⟨.none,rfl,TL g⟩))
  | exact TL ⟨.none,rfl,TL g⟩
theorem DJ:∀{xs:List V} {us:List Value} {x:V} {u:Value} (i:Nat),Vals xs us->RelV x u->Vals (xs.set i x) (us.set i u)
 | _,_,_,_,_,.nil,_=>.nil
 | _,_,_,_,0,.cons _ t,r=>.cons r t
 | _,_,_,_,i+1,.cons q t,r=>.cons q (DJ i t r)
def cPut:TSet
 | .ref p,y,v,H,Q=>(match unD (H p) with
  | some _=>∃ a,DPut H p y v a/\Q a
  | none=>match y with
   | .int i=>bnd (unM (H p)) λxs=>0<=i/\i<xs.length/\Q (upd H p (.lst (xs.set i.toNat v)))
   | _=>False)
 | _,_,_,_,_=>False
theorem LB(m:X.A.units+64<cLine):PSet X cPut:=by
 intro B s σ H o i v y D u Q I l j b h
 cases o with
 | ref p=>
  cases l;unfold cPut at h;dsimp only at h
  split at h
  . obtain⟨k,g,q⟩:=h;exact IQ (T7 (Ve (by decide:1<=64) _) m) I g j b λC x=>⟨k,x,q⟩
  . split at h
    . rename_i i
      obtain⟨xs,e,h0,h1,q⟩:=bn h;obtain⟨t,rfl⟩:=j;have f:=iU e;obtain⟨z,a,n,r,c,d⟩:=I.lstM f;have w:s.heap.IsList p a.toArray:=⟨_,d,rfl,n,rfl⟩;have E:a.length<=sizeLine:=by rw[← c];exact z
      refine FH w h0 ?_ (by rw[S8,← c];exact h1) ⟨_,I.lset (t':=s.toks) (ys:=xs.set i.toNat v) (its':=a.set i.toNat u) f d (by simp) (DJ _ r b) (by rw[VT];exact z),q⟩;have:(sizeLine:Int)<2^63:=by decide
      lia
    . exact h.elim
 | _=>exact False.elim h
end
section
variable{K:Frag}{g:TG}{tb:TS}{D:Ends}{σ:St}{H:Hp}{tl:TE}{ix:List (Option Nat)}{tt:TT}{te ta:TE}{k:Nat}{Q:VK}
def iq{r:V->Option Int->Option Int->Hp->VK->Prop}{a b:TO}:tSl r te a b σ H Q=te σ H λx e=>a σ e λl c=>b σ c λu d=>r x l u d Q:=rfl
def dq{R:Option Int->Hp->Prop}:tPart te σ H R=te σ H λx a=>∃ i,x=.int i/\R (some i) a:=rfl
def bN{R:Option Int->Hp->Prop}:gi σ H R=R none H:=rfl
def dr{a b:TE}{t:TSet}{v:V}{R:St->Hp->Prop}:gSub a b t v σ H R=a σ H λo d=>b σ d λi e=>t o i v e λc=>R σ c:=rfl
def iu{r:V->Hp->VK->Prop}:tUn r te σ H Q=te σ H λx a=>r x a Q:=rfl
def dt:tFor (iStr tl) g tb D σ H=tl σ H λx a=>∃ z,x=.str z/\LoopR (Its z) g tb D σ a:=rfl
def cC:tComp ix (iStr tl) g tt te σ H Q=tl σ H λx b=>∃ z,x=.str z/\CompR (Its z) g tt te (λl a=>Q (.ref l) a) (subσ ix σ) b:=rfl
def bO:sComp k ix (iStr tl) g tt te D σ H=tl σ H λx b=>∃ z,x=.str z/\CompR (Its z) g tt te (λl a=>D.nx (σ.set k ↑l) a) (subσ ix σ) b:=rfl
def yM{x:Str}:tyV K "str" (.str x) H:=rfl
def fq{i j:Str}:cEq K (.str i) (.str j) H Q=Q (.bl (decide (i=j))) H:=rfl
def fu{i j:Str}:cNe K (.str i) (.str j) H Q=Q (.bl (!decide (i=j))) H:=rfl
def du{z:Str}:kLen [.str z] H Q=(z.length<=sizeLine/\Q (.int z.length) H):=rfl
def cZ{i j:Str}:cAdd (.str i) (.str j) H Q=(i.length+j.length<=sizeLine/\Q (.str (i++j)) H):=rfl
def Ow{z:Str}{i:Int}:cIx (.str z) (.int i) H Q=(z.length<=sizeLine/\bnd (atI z.cps.toList i) λc=>Q (.str ⟨#[c]⟩) H):=rfl
def dw{x y:Str}:kFind (.str x) [.str y] H Q=Q (.int (Txt.find x y)) H:=rfl
def L3{x y:Str}:yL (.str x) [.str y] H Q=((y.length==0)=false/\x.length<=sizeLine/\(Txt.split x y).length<=sizeLine/\∀ l,H l=none->Q (.ref l) (upd H l (.lst ((Txt.split x y).map V.str)))):=rfl
theorem LC{p:Addr}{i:Int}{v:V}{xs:List V}{R:Hp->Prop}(a:H p=↥xs)(h0:0<=i)(h1:i<xs.length)(h:R (upd H p (.lst (xs.set i.toNat v)))):cPut (.ref p) (.int i) v H R:=by
 unfold cPut;dsimp only;rw[a];exact⟨h0,h1,h⟩
theorem sW{p:Addr}{a b:Option Int}{xs:List V}(c:H p=↥xs)(h:∀ l,H l=none->Q (.ref l) (upd H l (.lst (cutV xs a b)))):lF (.ref p) a b H Q:=by
 show bnd (unL (H p)) _;rw[c];exact h
end
def cBitI(g:Int->Int->Int):R2
 | .int i,.int j,H,Q=>Q (.int (g i j)) H
 | _,_,_,_=>False
def cShr:R2
 | .int i,.int j,H,Q=>0<=j/\Q (.int (i/2^j.toNat)) H
 | _,_,_,_=>False
abbrev cOr:R2:=cBitI Builtin.bitOr
section
variable{X:Cx}
theorem KC{o:Operator}{g:Int->Int->Int}(h0:OpR X (binaryOp o) (rI0 λi j=>.int (g i j))):OpR X (binaryOp o) (cBitI g):=by
 intro c s σ H x y v u Q I b a h;unfold cBitI at h
 split at h
 . exact h0 c s σ H _ _ v u Q I b a ⟨_,_,rfl,rfl,h⟩
 . exact h.elim
def Nq:OpR X (binaryOp .BitOr) cOr:=KC Om
theorem L4:OpR X (binaryOp .RShift) cShr:=by
 intro c s σ H x y v u Q I b a h;unfold cShr at h
 split at h
 . exact M4 c s σ H _ _ v u Q I b a ⟨_,_,rfl,rfl,h.1,h.2⟩
 . exact h.elim
end
section
variable{H:Hp}{Q:VK}{i j:Int}
def fA{g:Int->Int->Int}:cBitI g (.int i) (.int j) H Q=Q (.int (g i j)) H:=rfl
def ic:cShr (.int i) (.int j) H Q=(0<=j/\Q (.int (i/2^j.toNat)) H):=rfl
end
section
variable{X:Cx}
def kInt:List V->Hp->VK->Prop
 | [.int i],H,Q=>Q (.int i) H
 | [.bl k],H,Q=>Q (.int (if k then 1 else 0)) H
 | _,_,_=>False
def re:V->List V->Hp->VK->Prop
 | .int i,[],H,Q=>Q (.int (Builtin.Int.intBits i:Nat)) H
 | _,_,_,_=>False
theorem yN:MtR X "int.bit_length" re:=by
 intro d s σ H x vs v c Q I b a h;unfold re at h
 split at h
 . obtain⟨t,rfl⟩:=b;cases a;exact call_int_bit_length ⟨.int _,H,I.tok _,⟨_,rfl⟩,h⟩
 . exact h.elim
def cRepL:R2
 | .ref l,.int k,H,Q=>bnd (unM (H l)) λxs=> -(2^63)<=k/\k<2^63/\xs.length*k.toNat<=sizeLine/\∀ p,H p=none->Q (.ref p) (upd H p (.lst (List.replicate k.toNat xs).flatten))
 | _,_,_,_=>False
theorem xw:OpR X (binaryOp .Mult) cRepL:=by
 intro c s σ H x y v u Q I b a h;unfold cRepL at h
 split at h
 . obtain⟨xs,e,h1,h2,h3,q⟩:=bn h;exact Na c s σ H _ _ v u Q I b a ⟨_,_,xs,rfl,rfl,iU e,h1,h2,h3,q⟩
 . exact h.elim
def kAll:List V->Hp->VK->Prop
 | [.ref p],H,Q=>bnd (unL (H p)) λys=>∃ bs:List Bool,ys=bs.map V.bl/\Q (.bl (bs.all id)) H
 | _,_,_=>False
theorem Ja(bs:List Bool):(List.range bs.length).all (λi=>bs.getD i false)=bs.all id:=by
 rw[Tb,SK,SK];constructor
 . intro h b d;obtain⟨i,c,e⟩:=Us.mp d;have:=h i (SQ.mpr c);rw[List.getD,Sy c,e]at this;exact this
 . intro h i c;have a:i<bs.length:=SQ.mp c;have:=h bs[i] (S9 a)
   simpa [List.getD,a] using this
theorem gG:bootBuiltins "all"=some (.builtin "all"):=by decide+kernel
theorem yO:bootBuiltins "sum"=some (.builtin "sum"):=by decide+kernel
theorem c5(k:X.calm=true):CallR X (.builtin "all") kAll:=by
 intro K s σ H xs G Q I r h;unfold kAll at h
 split at h
 . rename_i p
   obtain⟨L,e,a,rfl,q⟩:=bn h;obtain⟨u,rfl,B⟩:=dN r;cases B;obtain⟨c,j,f,J⟩:=I.list (uA e);have g:=j.length;rw[Sx]at g
   have d:p<s.heap.objs.size:=by
    obtain⟨o,h1,_⟩:=f.isList;exact Tc h1
   refine call_all_walkS (Vs f.isList ?_);refine⟨s.heap.objs.size,_,_,_,c.toArray.size,_,_,λi=>a.getD i false,rfl,(Walks.list (A:=X.A.in1) (I.ok.hd k) s.heap.objs.size p (TB d) c.toArray).toS,⟨⟨_,Ts _ rfl,rfl,rfl⟩,f.isList.push _⟩,?_,λF z=>?_⟩
   . intro i v s1 D E t n;have w:c[i]? =some v:=by simpa using t
     obtain⟨x,C,m⟩:=j.get' w;obtain⟨b,hb,rfl⟩:∃ b,a[i]? =some b/\V.bl b=x:=by simpa using C
     cases m;refine Ut ?_;have y:a.getD i false=b:=by simp[List.getD,hb]
     rw[← y];exact n
   . refine⟨.bl _,H,I.walked (l:=p) z,?_,q⟩;have e2:c.toArray.size=a.length:=by rw[S8];exact g.symm
     rw[e2,Ja];rfl
 . exact h.elim
def kSum:List V->Hp->VK->Prop
 | [.ref p],H,Q=>bnd (unL (H p)) λys=>∃ ns:∅,ys=ns.map V.int/\(∀ x∈ns,0<=x/\x<=1000000)/\ns.length<=1000000/\Q (.int ns.sum) H
 | _,_,_=>False
theorem Jb:∀(ns:∅),(∀ x∈ns,0<=x/\x<=1000000)->0<=ns.sum/\ns.sum<=1000000*ns.length
 | [],_=>by simp
 | n::r,h=>by
  have b:=Jb r λx a=>h x (SM _ a);have h1:=h n SN;rw[Ua,S2];lia
theorem pD(z:X.calm=true):CallR X (.builtin "sum") kSum:=by
 intro N s σ H xs L Q I r h;unfold kSum at h
 split at h
 . rename_i p
   obtain⟨P,e,a,rfl,y,O,q⟩:=bn h;obtain⟨u,rfl,J⟩:=dN r;cases J;obtain⟨f,w,k,M⟩:=I.list (uA e);have n:=w.length;rw[Sx]at n
   have d:p<s.heap.objs.size:=by
    obtain⟨o,h1,_⟩:=k.isList;exact Tc h1
   have e2:f.toArray.size=a.length:=by rw[S8];exact n.symm
   refine call_sum_walkS (Vs k.isList ?_);refine⟨s.heap.objs.size,_,_,_,f.toArray.size,_,_,λi=>a.getD i 0,rfl,(Walks.list (A:=X.A.in1) (I.ok.hd z) s.heap.objs.size p (TB d) f.toArray).toS,⟨⟨_,Ts _ rfl,rfl,rfl⟩,k.isList.push _⟩,?_,?_,?_,λK F G=>?_⟩
   . intro b c;show b < (s.heap.push _).objs.size;rw[UO];simp only[SU,Tw,Uz]at c;rcases c with rfl | rfl
     . exact Vz _
     . exact Uu d
   . intro i v C;have D:f[i]? =some v:=by simpa using C
     obtain⟨x,m,B⟩:=w.get' D;obtain⟨b,c,rfl⟩:∃ b,a[i]? =some b/\V.int b=x:=by simpa using m
     obtain⟨t,rfl⟩:=B;exact⟨t,by simp[List.getD,c]⟩
   . intro j g;rw[e2]at g;refine⟨?_,?_⟩
     . have:=y a[j] (S9 g);have E:a.getD j 0=a[j]:=by simp[List.getD,g]
       show InLong (a.getD j 0);rw[E];exact⟨by lia,by lia⟩
     . rw[preSum_getD];have h1:=Jb (a.take (j+1)) λx m=>y x (VM m);have h2:(a.take (j+1)).length<=a.length:=by rw[Tx];lia
       exact⟨by lia,by lia⟩
   . refine⟨.int a.sum,H,I.walked (l:=p) G,⟨F,?_⟩,q⟩;rw[e2,preSum_getD,TH]
 . exact h.elim
def Itd(b:Int)(n:Nat):It:=⟨λi _=>i<n,λi H x a=>a=H/\x=.int (b-i),λi _=>n<=i⟩
def iRngD(a:TA):TI:=λσ H R=>a σ H λvs b=>∃ i j:Int,vs=[.int i,.int j,.int (-1)]/\(-(2^60)<=i/\i<2^60/\ -(2^60)<=j/\j<2^60)/\R (Itd i (i-j).toNat) b
end
section
variable{K:Frag}{g:TG}{tb:TS}{D:Ends}{σ:St}{H:Hp}{ta:TA}{Q:VK}
def fC{k:Bool}:kInt [.bl k] H Q=Q (.int (if k then 1 else 0)) H:=rfl
def fD{i:Int}:kInt [.int i] H Q=Q (.int i) H:=rfl
def cI{i:Int}:re (.int i) [] H Q=Q (.int (Builtin.Int.intBits i:Nat)) H:=rfl
theorem j2{p:Addr}{bs:List Bool}(b:H p=↥(bs.map V.bl))(h:Q (.bl (bs.all id)) H):kAll [.ref p] H Q:=by
 show bnd (unL (H p)) _;rw[b];exact bm (a:=bs.map V.bl) rfl ⟨bs,rfl,h⟩
theorem Di{p:Addr}{ns:∅}(d:H p=↥(ns.map V.int))(c:∀ x∈ns,0<=x/\x<=1000000)(b:ns.length<=1000000)(h:Q (.int ns.sum) H):kSum [.ref p] H Q:=by
 show bnd (unL (H p)) _;rw[d];exact bm (a:=ns.map V.int) rfl ⟨ns,rfl,c,b,h⟩
theorem DK{p:Addr}{xs:List V}{k:Int}(c:H p=↥xs)(h0:0<=k)(h1:k<=1000)(b:xs.length<=1)(h:∀ l,H l=none->Q (.ref l) (upd H l (.lst (List.replicate k.toNat xs).flatten))):cRepL (.ref p) (.int k) H Q:=by
 show bnd (unM (H p)) _;rw[c];refine bm (a:=xs) rfl ⟨by lia,by lia,?_,h⟩;refine Tv (aH (SW (U7 _ b) ?_));lia
def dE:tFor (iRngD ta) g tb D σ H=ta σ H λvs a=>∃ i j:Int,vs=[.int i,.int j,.int (-1)]/\(-(2^60)<=i/\i<2^60/\ -(2^60)<=j/\j<2^60)/\LoopR (Itd i (i-j).toNat) g tb D σ a:=rfl
end
section
variable{X:Cx}
def Ite(K:Frag)(a:Addr):It:=
 ⟨λi H=>∃ xs x,SqL K H a xs/\xs[i]? =some x,
  λi H v b=>∃ T x,v=.ref T/\H T=none/\b=upd H T (.tup [.int i,x])/\∀ xs,SqL K H a xs->xs[i]? =some x,
  λi H=>∃ xs,SqL K H a xs/\xs.length<=i⟩
def ESt(a e it:Addr)(i:Nat)(h:Heap):Prop:=(∃ b,IsEnum h e it i b)/\h.IsListIter it a i
def Jc{P:Program}{w:World}{K:Frag}{es:List Expr}{x1:Nat}{pos:Pos}(a e it:Addr):
  Turn P w K (.Tuple es x1 pos) (Ite K a) [e,it] e (ESt a e it) where
 mem:=by simp
 obj:=λi h m c f=>by
  obtain⟨⟨l,j⟩,⟨N,e1,G,A⟩⟩:=m;simp only[SU,Tw,Uz]at f;rcases f with rfl | rfl
  . exact⟨_,j,λv z=>by have z':Data.fields _=Data.cell v:=z;cases z'⟩
  . exact⟨_,e1,λv z=>by rw[A]at z;cases z⟩
 keep:=λi h h' m k=>by
  obtain⟨⟨l,j⟩,h1⟩:=m;exact⟨⟨l,k e (by simp) _ j⟩,h1.at λo q=>k it (by simp) o q⟩
 item:=by
  intro X U hw S f i Sk s σ H E I F m R;subst U hw S;obtain⟨xs,x,p,r⟩:=R;obtain⟨t,y,p1,ab⟩:=I.list p;obtain⟨Z,W,ad⟩:=y.get r;obtain⟨⟨l,j⟩,⟨N,e1,G,A⟩⟩:=id m;have C:e≠it:=a8 j e1 rfl G #[1];refine wpAny_pyNext_enum_item j ⟨N,e1,G,A⟩ p1.isList (x:=Z) (by simpa using W) C λh' a1 a2 a3 a4 hk=>?_;refine⟨_,rfl,wpAny_letOwnedTupleGo_enum a1 λh2 Q sb=>?_⟩;have B:H s.heap.objs.size=none:=I.fresh;have lt:∀{c o},s.heap.get? c=some o->c≠s.heap.objs.size:=λe=>TB (Tc e)
  have L:∀ c o,c∉[e,it]->s.heap.get? c=some o->h2.get? c=some o:=λc o f q=>by
   simp only[SU,Tw,Uz,not_or]at f;exact sb.extBut _ _ f.1 (hk c o f.1 f.2 q)
  have O:s.heap.objs.size≠e:=(lt j).symm;have gT:h2.get? s.heap.objs.size=some {cls:=.type "tuple",data:=.seq #[.int i s.toks,Z]}:=sb.extBut _ _ O a3;have nH:∀ c∈[e,it],H c=none:=λc f=>(F c f).1;refine⟨.ref s.heap.objs.size,upd H s.heap.objs.size (.tup [.int i,x]),I.call' (s':={s with heap:=h2,toks:=s.toks+1}) (ch:=[e,it]) rfl ⟨λc o e n _ r=>L c o r e,λc o e n _ r=>⟨o.slots,L c o r e⟩,λc o e n _=>by rw[ap (lt e)];exact n,λc o e r=>⟨o,L c o r e⟩,λc xs e=>by rw[ap (aB e B)];exact e,λc o u e=>by rw[ap (aB e B)];exact e,λc ps e=>⟨#[],by rw[ap (aB e B),e];simp⟩⟩ ?_ I.bare ?_,rfl,⟨_,x,rfl,B,rfl,λzs ac=>by rw[I.list_inj ac p];exact r⟩,?_,?_⟩
  . intro c ob e;by_cases M:c=s.heap.objs.size
    . subst M;rw[aj]at e;cases e;exact⟨by show(2:Nat)<=sizeLine;exact Tv (aH #[1]),[.int i s.toks,Z],.cons ⟨_,rfl⟩ (.cons ad .nil),⟨_,gT,rfl,_,rfl⟩⟩
    . rw[ap M]at e;refine(I.hok c ob e).stay (λd w' J g=>L d w' ?_ g) (λd g=>by rw[ap (aB g B)];exact g) λd xs g=>by rw[ap (aB g B)];exact g
      intro hm;rcases J with rfl | J
      . rw[nH _ hm]at e;cases e
      . rw[nH _ hm]at J;cases J
  . intro c f;obtain⟨f0,A,f2,T,f4,f5⟩:=F c f;exact⟨T,A,f4,f5⟩
  . exact⟨⟨_,Q⟩,a2.extBut sb.extBut C.symm⟩
  . intro c f
    obtain⟨o,q⟩:∃ o,s.heap.get? c=some o:=by
     simp only[SU,Tw,Uz]at f;rcases f with rfl | rfl
     . exact⟨_,j⟩
     . exact⟨_,e1⟩
    rw[ap (lt q)];exact(F c f).1
 done:=by
  intro X U hw S f i Sk s σ H E I F m R;subst U hw S;obtain⟨xs,p,r⟩:=R;obtain⟨t,y,p1,ab⟩:=I.list p;have ae:=y.length;obtain⟨⟨l,j⟩,⟨N,e1,G,A⟩⟩:=id m;have D:t.toArray[i]? =none:=by simp;omega
  obtain⟨f0,Y,f2,T,f4,f5⟩:=F it (by simp);exact wpAny_pyNext_enum_end (I.ok.hd f) j ⟨N,e1,G,A⟩ p1.isList D λh' eb=>⟨rfl,I.turned (t':=s.toks) (λb o M e=>eb b o M e) f0 Y T f4 f5⟩
 self:=λ_ _ _ _ _ m h=>by
  obtain⟨⟨l,j⟩,_⟩:=m;exact wpAny_pyIter_enum j h
def iEnum(K:Frag)(c:TA):TI:=λσ H R=>c σ H λvs b=>∃ a,vs=[.ref a]/\(∃ xs,SqL K b a xs)/\R (Ite K a) b
theorem DL:bootBuiltins "enumerate"=some (.type "enumerate"):=by decide+kernel
def AG{o:List Expr}{E:Nat}{d:Pos}{e1:Expr}{i:TA}{p pos:Pos}(t:Gl X "enumerate")(C:X.mg "enumerate"=none)(y:PA X [e1] i)(r:starEach [e1] X.env=[(false,eval e1 X.env)]:=by rfl):
  PI X (.Tuple o E d) (.Call (.Name "enumerate" p) [e1] [] pos) (iEnum X.K i):=by
 intro m s σ H R I h;refine Call_ (fv I t C DL (Tt (thn (y pos m s σ H _ I h) λG s1 ⟨vs,l,e,r1,v⟩=>?_) r rfl));obtain⟨a,rfl,⟨xs,f⟩,q⟩:=v;obtain⟨J,rfl,g⟩:=dN r1;cases g;obtain⟨j,B,D,z⟩:=e.list f;refine call_enumerate_list D.isList λx n A F u=>?_;refine wpAny_pyIter_enum n ?_;have w:Inv X m σ l {s1 with heap:=x,toks:=s1.toks}:=e.kept u;refine⟨s1.heap.objs.size+1,[s1.heap.objs.size+1,s1.heap.objs.size],ESt a (s1.heap.objs.size+1) s1.heap.objs.size,Ite X.K a,l,rfl,w,Jc a (s1.heap.objs.size+1) s1.heap.objs.size,⟨⟨_,n⟩,A⟩,λc k=>?_,q⟩
 have b:s1.heap.objs.size<=c:=by
  simp only[SU,Tw,Uz]at k;rcases k with rfl | rfl <;> omega
 exact e.fpOk b (e.hok.fresh b)
end
section
variable{K:Frag}{g:TG}{tb:TS}{D:Ends}{σ:St}{H:Hp}{ta:TA}{Q:VK}{ix:List (Option Nat)}{tt:TT}{te:TE}{k:Nat}
def fE:tFor (iEnum K ta) g tb D σ H=ta σ H λvs b=>∃ a,vs=[.ref a]/\(∃ xs,SqL K b a xs)/\LoopR (Ite K a) g tb D σ b:=rfl
def dF:tComp ix (iEnum K ta) g tt te σ H Q=ta σ H λvs b=>∃ a,vs=[.ref a]/\(∃ xs,SqL K b a xs)/\CompR (Ite K a) g tt te (λl c=>Q (.ref l) c) (subσ ix σ) b:=rfl
def cJ:sComp k ix (iEnum K ta) g tt te D σ H=ta σ H λvs b=>∃ a,vs=[.ref a]/\(∃ xs,SqL K b a xs)/\CompR (Ite K a) g tt te (λl c=>D.nx (σ.set k ↑l) c) (subσ ix σ) b:=rfl
theorem Jd {a:Addr} {xs:List V} {fin:Addr->Hp->Prop} {n:St} {f:Hp} (d:Addr->Nat->St->Hp->Prop) (h0:∀ l,f l=none->d l 0 n (upd f l (.lst []))) (s:∀ l i σ H,f l=none->i<=xs.length->d l i σ H->SqL K H a xs)
  (w:∀ l i x T σ H,f l=none->xs[i]? =some x->d l i σ H->H T=none->g (.ref T) σ (upd H T (.tup [.int i,x])) λj t=>tt j t λb k=>if b=true then te j k λy o=>∃ ys,o l=↥ys/\ys.length<sizeLine/\d l (i+1) j (upd o l (.lst (ys++[y]))) else d l (i+1) j k)
  (u:∀ l σ H,f l=none->d l xs.length σ H->fin l H):CompR (Ite K a) g tt te fin n f:=by
 intro l c;refine⟨λi m σ H=>m=xs.length-i/\i<=xs.length/\d l i σ H,⟨xs.length,by simp,TF _,h0 l c⟩,?_⟩;rintro i m σ H ⟨rfl,B,p⟩;have q:=s l i σ H c B p;by_cases h:i<xs.length
 . refine .inr ⟨⟨xs,xs[i],q,by simp[h]⟩,d l (i+1),λC r A=>⟨xs.length - (i+1),by lia,rfl,h,A⟩,λv r y=>?_⟩;obtain⟨T,x,rfl,z,rfl,e⟩:=y;exact w l i x T σ _ c (e xs q) p z
 . have e:i=xs.length:=by lia
   subst e;exact .inl ⟨⟨xs,q,SZ _⟩,u l σ H c p⟩
theorem sX {a:Addr} {xs:List V} {fin:Addr->Hp->Prop} {g:St} {c:Hp} {k1 k2:Nat} (b:Nat->Bool) (f:Nat->V) (N:xs.length<=900) (h:k1≠k2) (C:SqL K c a xs)
  (M:∀(i:Nat) x H R,xs[i]? =some x->Same c H->(∀ k,Same H k->R (b i) k)->tt ((g.set k1 ⇑(i:Int)).set k2 (some x)) H R)
  (D:∀(i:Nat) x H Q,xs[i]? =some x->b i=true->Same c H->(∀ k,Same H k->Q (f i) k)->te ((g.set k1 ⇑(i:Int)).set k2 (some x)) H Q)
  (J:∀ l H,c l=none->Same c H->H l=↥(((List.range xs.length).filter b).map f)->fin l H):
  CompR (Ite K a) (gTup K 2 (gCons (gName k1) (gCons (gName k2) gNil))) tt te fin g c:=by
 refine Jd (xs:=xs) (λl i σ H=>(σ=g\/∃ A w,σ=(g.set k1 A).set k2 w)/\Same c H/\H l=↥(((List.range i).filter b).map f)) (λl j=>⟨.inl rfl,λb u e=>by rw[ap (aB e j)];exact e,by rw[aj];rfl⟩) (λl i σ H _ _ p=>p.2.1.seq C) ?_ (λl σ H j p=>J l H j p.2.1 p.2.2);rintro l i x T σ H j v ⟨E,s1,I⟩ G;have L:i<xs.length:=(SD.mp v).1;have r:Same H (upd H T (.tup [.int i,x])):=λb u e=>by rw[ap (aB e G)];exact e
 refine⟨T,_,rfl,WO aj,rfl,_,_,rfl,_,_,rfl,rfl,?_⟩
 have e:(σ.set k1 ⇑i).set k2 (some x)=(g.set k1 ⇑i).set k2 (some x):=by
  rcases E with rfl | ⟨A,w,rfl⟩
  . rfl
  . rw[Vi _ _ (Vr h),Uc,Uc,Vi _ _ h]
 show tt ((σ.set k1 ⇑i).set k2 (some x)) _ _;rw[e];refine M i x _ _ v (s1.trans r) λF z=>?_;have m:=z _ _ (r _ _ I);have d:=(s1.trans r).trans z;have n:∀{q:Hp} {o:HO},Same c q->Same c (upd q l o):=λs b u e=>by rw[ap (aB e j)];exact s b u e
 have B:∀ i,i<=900->(((List.range i).filter b).map f).length<sizeLine:=λi L=>by
  rw[Sx];refine aH (SW (SV b _) ?_);rw[TW];lia
 cases t:b i with
 | false=>
  rw[SS SR];refine⟨.inr ⟨_,_,rfl⟩,d,?_⟩;rw[TU,Tm,Tk,t]
  simpa using m
 | true=>
  rw[SY rfl];refine D i x F _ v t d λq y=>⟨_,y _ _ m,B i #[4],.inr ⟨_,_,rfl⟩,n (d.trans y),?_⟩;rw[aj,TU,Tm,Tk,t];simp
end
def rngL(i j:Int):∅:=(List.range (j-i).toNat).map λ(k:Nat)=>i+(k:Int)
theorem dI(i j:Int):(rngL i j).length=(j-i).toNat:=by unfold rngL;simp
theorem wH:∀{xs:List V} {us:List Value},xs.length=us.length->(∀(i:Nat) x u,xs[i]? =some x->us[i]? =some u->RelV x u)->Vals xs us
 | [],[],_,_=>.nil
 | [],_::_,h,_=>by simp at h
 | _::_,[],h,_=>by simp at h
 | x::xs,u::us,h,f=>.cons (f 0 x u rfl rfl) (wH (by simpa using h) λi y e h1 h2=>f (i+1) y e (by simpa using h1) (by simpa using h2))
theorem KD{i j:Int}{b:Array Value}(h:ItemsOf (λk v=>∃ t,v=.int (i+k*1) t) b (j-i).toNat):Vals ((rngL i j).map V.int) b.toList:=by
 refine wH (by rw[Sx,dI,UM];exact h.1.symm) λk x u a d=>?_;obtain⟨t,rfl⟩:=h.2 k u (by simpa using d);unfold rngL at a;rw[Te,SI]at a;by_cases c:k < (j-i).toNat
 . rw[Tz c]at a;cases a;exact⟨t,by rw[Int.mul_one]⟩
 . rw[S0 (by simpa using c)]at a;cases a
section
variable{X:Cx}
def mC(b:TA):TE:=λσ H Q=>b σ H λvs a=>∃ j:Int,vs=[.int j]/\ -(2^60)<=j/\j<=1000/\∀ l,a l=none->Q (.ref l) (upd a l (.lst ((rngL 0 j).map V.int)))
def uC(b:TA):TE:=λσ H Q=>b σ H λvs a=>∃ i j:Int,vs=[.int i,.int j]/\(0<=i/\i<=1000/\ -(2^60)<=j/\j<=1000)/\∀ l,a l=none->Q (.ref l) (upd a l (.lst ((rngL i j).map V.int)))
theorem DM {f:List (Addr × Obj)} {σ:St} {d:Hp} {s1:Shared} {Q:VK} {i j:Int} {t u v:Tok} {p:Nat} {A:Around} {E:Value->Shared->Prop} (x:A.handled=none) (y:Inv X f σ d s1) (h1:0<=i) (h2:i<=1000) (h3: -(2^60)<=j) (h4:j<=1000)
  (q:∀ l,d l=none->Q (.ref l) (upd d l (.lst ((rngL i j).map V.int)))):
  wpAny (model X.prog X.w) A (call (.type "list") [.ref s1.heap.objs.size]) (EP X f σ Q) E {s1 with heap:=s1.heap.push {cls:=.type "range",data:=.fields #[.int i t,.int j u,.int 1 v]},toks:=p}:=by
 have m:Inv X f σ d {s1 with heap:=s1.heap.push {cls:=.type "range",data:=.fields #[.int i t,.int j u,.int 1 v]},toks:=p}:=y.kept λb o e=>S5 _ e;refine call_list_range (n:=(j-i).toNat) x (IsRange.new ..) (small_one #[4] #[4] #[4] #[4]) (by rw[rangeSize_one];split <;> lia) #[4] λz h c s k g a=>?_;have r:((rngL i j).map V.int).length<=sizeLine:=by rw[Sx,dI];exact Tv (aH #[4])
 exact⟨.ref _,_,m.laid (t':=h) (o:=.lst ((rngL i j).map V.int)) k (SZ _) ⟨r,c.toList,s,KD a,g⟩,rfl,q _ (m.hok.fresh (SZ _))⟩
theorem qz {a:Expr} {k:TA} {p d pos b:Pos} (y:X.calm=true) (g:Gl X "list") (i:Gl X "range") (m:X.mg "list"=none) (l:X.mg "range"=none) (n:PA X [a] k)
  (c:starEach [.Call (.Name "range" d) [a] [] b] X.env=[(false,eval (.Call (.Name "range" d) [a] [] b) X.env)]:=by rfl) (w:starEach [a] X.env=[(false,eval a X.env)]:=by rfl):
  PE X (.Call (.Name "list" p) [.Call (.Name "range" d) [a] [] b] [] pos) (mC k):=by
 intro o s σ H Q I h;refine Uf (fv I g m cH ?_ #[1] #[1]);refine Tt ?_ c rfl;rw[c];show wpAny _ _ (spliced [(false,eval (.Call (.Name "range" d) [a] [] b) X.env)]) _ _ s;refine UX ?_;refine Call_ (fv I i l WN (Tt (thn (n b o s σ H _ I h) λA s1 ⟨vs,z,x,r1,f⟩=>?_) w rfl));obtain⟨j,e,f,v,q⟩:=f;subst e
 cases r1 with
 | cons r u=>
  cases u;obtain⟨t,rfl⟩:=r;refine call_range_1 ?_;refine U5 ?_;exact DM (I.ok.hd y) x #[4] #[4] f v q
theorem FI {a b:Expr} {o:TA} {p g pos c:Pos} (v:X.calm=true) (m:Gl X "list") (l:Gl X "range") (y:X.mg "list"=none) (B:X.mg "range"=none) (C:PA X [a,b] o)
  (d:starEach [.Call (.Name "range" g) [a,b] [] c] X.env=[(false,eval (.Call (.Name "range" g) [a,b] [] c) X.env)]:=by rfl) (u:starEach [a,b] X.env=[(false,eval a X.env),(false,eval b X.env)]:=by rfl) (f:starEach [b] X.env=[(false,eval b X.env)]:=by rfl):
  PE X (.Call (.Name "list" p) [.Call (.Name "range" g) [a,b] [] c] [] pos) (uC o):=by
 intro D s σ H Q I h;refine Uf (fv I m y cH ?_ #[1] #[1]);refine Tt ?_ d rfl;rw[d];show wpAny _ _ (spliced [(false,eval (.Call (.Name "range" g) [a,b] [] c) X.env)]) _ _ s;refine UX ?_;refine Call_ (fv I l B WN (Tt (thn (C c D s σ H _ I h) λG s1 ⟨vs,F,E,r1,k⟩=>?_) (by rw[u,f]) (by rw[f];rfl)));obtain⟨i,j,e,⟨k,z,x,A⟩,q⟩:=k;subst e
 cases r1 with
 | cons r n=>
  cases n with
  | cons w n=>
   cases n;obtain⟨t,rfl⟩:=r;obtain⟨J,rfl⟩:=w;refine call_range_2 ?_;refine U5 ?_;exact DM (I.ok.hd v) E k z x A q
end
section
variable{σ:St}{H:Hp}{Q:VK}{ta:TA}
def dG:mC ta σ H Q=ta σ H λvs a=>∃ j:Int,vs=[.int j]/\ -(2^60)<=j/\j<=1000/\∀ l,a l=none->Q (.ref l) (upd a l (.lst ((rngL 0 j).map V.int))):=rfl
def dH:uC ta σ H Q=ta σ H λvs a=>∃ i j:Int,vs=[.int i,.int j]/\(0<=i/\i<=1000/\ -(2^60)<=j/\j<=1000)/\∀ l,a l=none->Q (.ref l) (upd a l (.lst ((rngL i j).map V.int))):=rfl
end
end L2
namespace L2
def besL(h w c:Int):∅:=(if 0<c/w then [c-w] else [])++(if 0<c%w then [c-1] else [])++(if c%w<w-1 then [c+1] else [])++(if c/w<h-1 then [c+w] else [])
inductive RC(h w:Int)(cs:∅)(st:Int):Int->Prop
 | start:st∈cs->RC h w cs st st
 | step {x y:Int}:RC h w cs st x->y∈besL h w x->y∈cs->RC h w cs st y
variable{h w x:Int}{cs:∅}
theorem RC.mem{st:Int}(r:RC h w cs st x):x∈cs:=by cases r <;> assumption
theorem RC.st{st:Int}(r:RC h w cs st x):st∈cs:=by
 induction r with
 | start h=>exact h
 | step _ _ _ a=>exact a
theorem fW:∀{xs ys:∅},xs.Nodup->(∀ x∈xs,x∈ys)->xs.length<=ys.length
 | [],_,_,_=>TF _
 | x::xs,ys,nd,h=>by
  have c:=h x SN;have a:=Ty.mp nd
  have d:=fW (xs:=xs) (ys:=ys.erase x) a.2 λy b=>by
   have f:y≠x:=λe=>a.1 (e ▸ b);exact(List.mem_erase_of_ne f).mpr (h y (SM _ b))
  rw[List.length_erase_of_mem c]at d;have:0<ys.length:=Vu c;simp only[S2];lia
structure BI(h w:Int)(cs:∅)(st:Int)(fs:∅)(pl:Nat):Prop where
 nd:fs.Nodup
 rc:∀ x∈fs,RC h w cs st x
 hst:st∈fs
 le:pl<=fs.length
 cl:∀(i:Nat) (x y:Int),i<pl->fs[i]? =some x->y∈besL h w x->y∈cs->y∈fs
variable{pl:Nat}
def BI.len{st:Int}{fs:∅}(b:BI h w cs st fs pl):fs.length<=cs.length:=fW b.nd λx a=>(b.rc x a).mem
def BI.start{st:Int}(a:st∈cs):BI h w cs st [st] 0:=
 ⟨by simp,λx b=>by rw[SO.mp b];exact .start a,by simp,TF _,λi x y c=>absurd c (Nat.not_lt_zero _)⟩
theorem BI.done{st:Int}{fs:∅}(b:BI h w cs st fs pl)(e:¬ pl<fs.length)(x:Int):x∈fs↔RC h w cs st x:=by
 refine⟨b.rc x,λr=>?_⟩
 induction r with
 | start _=>exact b.hst
 | step r f g c=>
  obtain⟨i,a⟩:=List.getElem?_of_mem c;have d:i<fs.length:=(SD.mp a).1;exact b.cl i _ _ #[4] a f g
def addC(cs fs:∅)(y:Int):∅:=if y∈cs/\¬ y∈fs then fs++[y] else fs
structure BJ(h w:Int)(cs:∅)(st:Int)(f0:∅)(pl:Nat)(bs:∅)(fs:∅):Prop where
 nd:fs.Nodup
 rc:∀ x∈fs,RC h w cs st x
 pre:f0 <+:fs
 al:∀ y∈bs,y∈cs->y∈fs
def BJ.zero{st:Int}{fs:∅}(b:BI h w cs st fs pl):BJ h w cs st fs pl [] fs:=⟨b.nd,b.rc,List.prefix_refl _,λy a=>nomatch a⟩
theorem BJ.more{st:Int}{g fs bs:∅}{y:Int}(j:BJ h w cs st g pl bs fs)(m:RC h w cs st x)(l:y∈besL h w x):BJ h w cs st g pl (bs++[y]) (addC cs fs y):=by
 unfold addC
 split
 . rename_i f
   refine⟨?_,λz c=>?_,j.pre.trans (List.prefix_append _ _),λz c d=>?_⟩
   . refine Uk.mpr ⟨j.nd,by simp,λa i b k=>?_⟩;rw[SO.mp k];intro e;exact f.2 (e ▸ i)
   . rcases SX.mp c with c | c
     . exact j.rc z c
     . rw[SO.mp c];exact .step m l f.1
   . rcases SX.mp c with c | c
     . exact TZ _ (j.al z c d)
     . rw[SO.mp c];simp
 . rename_i f
   refine⟨j.nd,j.rc,j.pre,λz c d=>?_⟩;rcases SX.mp c with c | c
   . exact j.al z c d
   . rw[SO.mp c]at d ⊢;exact Wi λn=>f ⟨d,n⟩
theorem BJ.done{st:Int}{a fs:∅}(b:BI h w cs st a pl)(f:a[pl]? =some x)(j:BJ h w cs st a pl (besL h w x) fs):BI h w cs st fs (pl+1):=by
 have n:pl<a.length:=(SD.mp f).1;have m:=j.pre.length_le
 have d:∀ i,i<a.length->fs[i]? =a[i]? :=λi k=>by
  obtain⟨t,e⟩:=j.pre;rw[← e,Tn k]
 refine⟨j.nd,j.rc,j.pre.subset b.hst,by lia,λi z y k c g l=>?_⟩;rw[d i #[4]]at c;by_cases e:i<pl
 . exact j.pre.subset (b.cl i z y e c g l)
 . have:i=pl:=by lia
   subst this;rw[f]at c;cases c;exact j.al y g l
theorem Je{c fs:∅}(p:c.Perm fs)(s:c.Pairwise (· <=·))(e:fs.Nodup):c.Pairwise (· < ·):=by
 have d:c.Nodup:=p.nodup_iff.mpr e;refine(s.and d).imp ?_;intro a b h;have:=h.1;have:=h.2;lia
theorem yP:∀{xs ys:∅},xs.Pairwise (· < ·)->ys.Pairwise (· < ·)->(∀ z,z∈xs↔z∈ys)->xs=ys
 | [],[],_,_,_=>rfl
 | [],y::ys,_,_,h=>absurd ((h y).mpr SN) (λq=>nomatch q)
 | x::xs,[],_,_,h=>absurd ((h x).mp SN) (λq=>nomatch q)
 | x::xs,y::ys,hx,hy,h=>by
  have b:=Wa.mp hx;have a:=Wa.mp hy
  have e:x=y:=by
   rcases SU.mp ((h x).mp SN) with e | c
   . exact e
   . rcases SU.mp ((h y).mpr SN) with e | d
     . exact e.symm
     . have:=a.1 x c;have:=b.1 y d;lia
  subst e;refine congrArg (x::·) (yP b.2 a.2 λz=>⟨λm=>?_,λm=>?_⟩)
  . rcases SU.mp ((h z).mp (SM _ m)) with e | q
    . have:=b.1 z m;lia
    . exact q
  . rcases SU.mp ((h z).mpr (SM _ m)) with e | q
    . have:=a.1 z m;lia
    . exact q
theorem RC.trans{a b c:Int}(r:RC h w cs a b)(q:RC h w cs b c):RC h w cs a c:=by
 induction q with
 | start _=>exact r
 | step _ d e f=>exact .step f d e
theorem L5{y:Int}:y∈besL h w x↔(0<x/w/\y=x-w)\/(0<x%w/\y=x-1)\/(x%w<w-1/\y=x+1)\/(x/w<h-1/\y=x+w):=by
 unfold besL;simp only[SX];constructor
 . rintro(((q | q) | q) | q)
   . split at q
     . simp at q;exact .inl ⟨by assumption,q⟩
     . cases q
   . split at q
     . simp at q;exact .inr (.inl ⟨by assumption,q⟩)
     . cases q
   . split at q
     . simp at q;exact .inr (.inr (.inl ⟨by assumption,q⟩))
     . cases q
   . split at q
     . simp at q;exact .inr (.inr (.inr ⟨by assumption,q⟩))
     . cases q
 . rintro(⟨q,rfl⟩ | ⟨q,rfl⟩ | ⟨q,rfl⟩ | ⟨q,rfl⟩)
   . rw[SY q];simp
   . rw[SY q];simp
   . rw[SY q];simp
   . rw[SY q];simp
theorem DN{y:Int}(b:0<w)(g:0<=x)(i:x<h*w)(m:y∈besL h w x):x∈besL h w y:=by
 have f:=Uo x (WT b);have d:=T8 x b;have e:=WJ x w;have k:0<=x/w:=Int.ediv_nonneg g (Int.le_of_lt b)
 have j:x/w<h:=by
  refine Int.ediv_lt_of_lt_mul b ?_;exact i
 rw[L5]at m ⊢;generalize x/w=q at*;generalize x%w=r at*;rcases m with ⟨c,rfl⟩ | ⟨c,rfl⟩ | ⟨c,rfl⟩ | ⟨c,rfl⟩
 . have u:=(U8 (a:=x-w) (q:=q-1) (r:=r) b).mpr ⟨by rw[Int.mul_sub];lia,f,d⟩;exact .inr (.inr (.inr ⟨by rw[u.1];lia,by lia⟩))
 . have u:=(U8 (a:=x-1) (q:=q) (r:=r-1) b).mpr ⟨by lia,by lia,by lia⟩;exact .inr (.inr (.inl ⟨by rw[u.2];lia,by lia⟩))
 . have u:=(U8 (a:=x+1) (q:=q) (r:=r+1) b).mpr ⟨by lia,by lia,by lia⟩;exact .inr (.inl ⟨by rw[u.2];lia,by lia⟩)
 . have u:=(U8 (a:=x+w) (q:=q+1) (r:=r) b).mpr ⟨by rw[Int.mul_add];lia,f,d⟩;exact .inl ⟨by rw[u.1];lia,by lia⟩
theorem RC.symm{a b:Int}(f:0<w)(c:∀ x∈cs,0<=x/\x<h*w)(r:RC h w cs a b):RC h w cs b a:=by
 induction r with
 | start m=>exact .start m
 | step r g i e=>
  have d:=r.mem;exact RC.trans (.step (.start i) (DN f (c _ d).1 (c _ d).2 g) d) e
end L2
namespace L2
open PySem PySem.Spec PyProof.Rows
def wk9(t:String):Lean.MacroM Lean.Syntax:=do
 let x<-(t.splitOn " ").toArray.mapM λs=>`(Lean.Parser.Tactic.simpLemma|$(Lean.mkIdent s.toName):term)
 `(tactic|(first|simp only[$x,*]|dsimp only|skip))
def ws1:String:="aK cX bP be dc de w_c gm cV df cY dg w_b w_not eQ io dh di eV dO b5 ip dj eX d3 gn e5 b7 dk dm dn cA cB bB bL bM bw e6 e7 e8 e9 fc fe ff fg fh fj fk fm iq dq bN dr iu dt cC bO fq fu du cZ dw List.getElem?_cons_zero List.getElem?_cons_succ Option.some.injEq exists_eq_left' exists_eq_left List.set_cons_zero List.set_cons_succ bE V.int.injEq V.bl.injEq V.ref.injEq V.str.injEq List.nil_append List.cons_append"
local macro_rules|`(tactic|walk_at "w")=>wk9 ws1
local macro_rules|`(tactic|symm)=>`(tactic|walk_at "w")
def aX{n:Nat}(h:n<=1000):n<=sizeLine:=Tv (aH h)
def lnR{n:Nat}(h:Nat.ble n 1000=true):n<=sizeLine:=aX (TN h)
def IsFl(H:Hp)(a:Addr)(h w g:Int):Prop:=H a=some (.tup [.int h,.int w,.int g])
variable{H:Hp}{p:Addr}
def Same.laid{a:Hp}{o:HO}(s:Same H a)(h:a p=none):Same H (upd a p o):=λb u e=>by
 rw[ap (aB (s b u e) h)];exact s b u e
def aU{U:Addr}(O:HO)(h:H U=none):∃ z,upd H U O=z/\Same H z/\z U=some O:=⟨_,rfl,(SF H).laid h,aj⟩
def Same.own{a:Hp}{o:HO}(s:Same H a)(h:H p=none):Same H (upd a p o):=λb u e=>by
 rw[ap (aB e h)];exact s b u e
variable{i:Nat}
theorem bJ{l:∅}{x:Int}(h:l[i]? =some x):l.getD i 0=x:=by
 rw[List.getD,h];rfl
variable{ns:∅}
theorem xy{k:Int}(h0:0<=k)(h1:k<ns.length):atI (ns.map V.int) k=⇑(ns.getD k.toNat 0):=by
 have e:((k.toNat:Nat):Int)=k:=VZ h0;have a:k.toNat<ns.length:=by lia
 have:(ns.map V.int)[k.toNat]? =⇑(ns.getD k.toNat 0):=by
  rw[SI,Sy a];simp[List.getD,a]
 have q:=fw this;rw[e]at q;exact q
def aY{α:Type}(l:List α):l.filter (λ_=>true)=l:=UN.mpr λ_ _=>rfl
theorem aL{l:∅}{y:V}(h:(l.map V.int)[i]? =some y):∃ z,l[i]? =some z/\y=.int z:=by
 rw[SI]at h
 cases e:l[i]? with
 | none=>rw[e]at h;cases h
 | some z=>rw[e]at h;cases h;exact⟨z,rfl,rfl⟩
theorem bf{l:List Addr}{y:V}(h:(l.map V.ref)[i]? =some y):∃ z,l[i]? =some z/\y=.ref z:=by
 rw[SI]at h
 cases e:l[i]? with
 | none=>rw[e]at h;cases h
 | some z=>rw[e]at h;cases h;exact⟨z,rfl,rfl⟩
def pE{h w:Int}(h0:1<=h)(h1:h<=6):CMul h w:=.inl ⟨by omega,by omega⟩
theorem jj{a:List Addr}{k:Int}(h0:0<=k)(h:a[k.toNat]? =some p):atI (a.map V.ref) k=↑p:=by
 have e:((k.toNat:Nat):Int)=k:=VZ h0;have b:(a.map V.ref)[k.toNat]? =↑p:=by rw[SI,h];rfl
 have q:=fw b;rw[e]at q;exact q
section
variable{k:Nat}{lo:Int}{n:Nat}{tt:TT}{te:TE}{fin:Addr->Hp->Prop}{σ0:St}{H1:Hp}{K:Frag}{a:Addr}
theorem ow{n i:Nat}(b:Nat->Bool)(h:i<n)(a:n<=900):((List.range i).filter b).length<=900:=by
 have:=SV b (List.range i);rw[TW]at this;lia
theorem wI (b:Nat->Bool) (f:Nat->V) (u:n<=900)
  (q:∀ i H R,i<n->Same H1 H->(∀ a,Same H a->R (b i) a)->tt (σ0.set k ⇑(lo+i)) H R)
  (t:∀ i H Q,i<n->b i=true->Same H1 H->(∀ a,Same H a->Q (f i) a)->te (σ0.set k ⇑(lo+i)) H Q)
  (r:∀ l H,H1 l=none->Same H1 H->H l=↥(((List.range n).filter b).map f)->fin l H):
  CompR (Itr lo n) (gName k) tt te fin σ0 H1:=by
 refine sU (λl i σ H=>(σ=σ0\/∃ o,σ=σ0.set k o)/\Same H1 H/\H l=↥(((List.range i).filter b).map f)) (λl d=>⟨.inl rfl,(SF H1).laid d,by rw[aj];rfl⟩) ?_ (λl σ H d p=>r l H d p.2.1 p.2.2);rintro l i σ H d j ⟨s,s1,w⟩;rw[be]
 have e:σ.set k ⇑(lo+i)=σ0.set k ⇑(lo+i):=by
  rcases s with rfl | ⟨o,rfl⟩
  . rfl
  . exact Uc ..
 rw[e];refine q i H _ j s1 λv g=>?_;have c:=g _ _ w
 cases h:b i with
 | false=>
  rw[SS SR];refine⟨.inr ⟨_,rfl⟩,s1.trans g,?_⟩;rw[TU,Tm,Tk,h]
  simpa using c
 | true=>
  rw[SY rfl];refine t i v _ j h (s1.trans g) λx m=>⟨_,m _ _ c,by rw[Sx];exact aH (SW (ow b j u) #[1]),.inr ⟨_,rfl⟩,((s1.trans g).trans m).own d,?_⟩;rw[aj,TU,Tm,Tk,h];simp
theorem bK {xs:List V} (b:Nat->Bool) (f:Nat->V) (v:xs.length<=900) (q:SqL K H1 a xs)
  (r:∀ i x H R,xs[i]? =some x->Same H1 H->(∀ c,Same H c->R (b i) c)->tt (σ0.set k (some x)) H R)
  (t:∀ i x H Q,xs[i]? =some x->b i=true->Same H1 H->(∀ c,Same H c->Q (f i) c)->te (σ0.set k (some x)) H Q)
  (s:∀ l H,H1 l=none->Same H1 H->H l=↥(((List.range xs.length).filter b).map f)->fin l H):
  CompR (Itl K a) (gName k) tt te fin σ0 H1:=by
 refine pC (xs:=xs) (λl i σ H=>(σ=σ0\/∃ o,σ=σ0.set k o)/\Same H1 H/\H l=↥(((List.range i).filter b).map f)) (λl g=>⟨.inl rfl,(SF H1).laid g,by rw[aj];rfl⟩) (λl i σ H _ _ p=>p.2.1.seq q) ?_ (λl σ H g p=>s l H g p.2.1 p.2.2);rintro l i x σ H g m ⟨u,s1,z⟩;have y:i<xs.length:=(SD.mp m).1;rw[be]
 have e:σ.set k (some x)=σ0.set k (some x):=by
  rcases u with rfl | ⟨o,rfl⟩
  . rfl
  . exact Uc ..
 rw[e];refine r i x H _ m s1 λw h=>?_;have d:=h _ _ z
 cases j:b i with
 | false=>
  rw[SS SR];refine⟨.inr ⟨_,rfl⟩,s1.trans h,?_⟩;rw[TU,Tm,Tk,j]
  simpa using d
 | true=>
  rw[SY rfl];refine t i x w _ m j (s1.trans h) λA n=>⟨_,n _ _ d,by rw[Sx];exact aH (SW (ow b y v) #[1]),.inr ⟨_,rfl⟩,((s1.trans h).trans n).own g,?_⟩;rw[aj,TU,Tm,Tk,j];simp
def qA (b:Nat->Bool) (f:Nat->Int) (h:n<=900)
  (d:∀ i H R,i<n->Same H1 H->(∀ a,Same H a->R (b i) a)->tt (σ0.set k ⇑(lo+i)) H R)
  (g:∀ i H Q,i<n->b i=true->Same H1 H->(∀ a,Same H a->Q (.int (f i)) a)->te (σ0.set k ⇑(lo+i)) H Q)
  (e:∀ l H,H1 l=none->Same H1 H->H l=↥((((List.range n).filter b).map f).map V.int)->fin l H):
  CompR (Itr lo n) (gName k) tt te fin σ0 H1:=
 wI b (λi=>.int (f i)) h d g λl H c s1 j=>e l H c s1 (by rw[Te];exact j)
theorem Jf(b:Int->Bool)(f:Int->Int)(xs:∅):((List.range xs.length).filter λi=>b (xs.getD i 0)).map (λi=>V.int (f (xs.getD i 0)))=((xs.filter b).map f).map V.int:=by
 have e:xs=(List.range xs.length).map λi=>xs.getD i 0:=by
  refine T5 λi=>?_;rw[SI];by_cases h:i<xs.length
  . rw[Tz h,Sy h];simp[List.getD,h]
  . rw[S0 #[4],S0 (by simpa using h)];rfl
 conv=>rhs;rw[e]
 rw[Ux,Te,Te];rfl
theorem ba {xs:∅} (b:Int->Bool) (f:Int->Int) (r:xs.length<=900) (n:SqL K H1 a (xs.map V.int))
  (o:∀ x H R,x∈xs->Same H1 H->(∀ c,Same H c->R (b x) c)->tt (σ0.set k ⇑x) H R)
  (q:∀ x H Q,x∈xs->b x=true->Same H1 H->(∀ c,Same H c->Q (.int (f x)) c)->te (σ0.set k ⇑x) H Q)
  (p:∀ l H,H1 l=none->Same H1 H->H l=↥(((xs.filter b).map f).map V.int)->fin l H):
  CompR (Itl K a) (gName k) tt te fin σ0 H1:=by
 refine bK (xs:=xs.map V.int) (λi=>b (xs.getD i 0)) (λi=>.int (f (xs.getD i 0))) (by rw[Sx];exact r) n ?_ ?_ ?_
 . intro i x H R e s1 h;obtain⟨z,d,rfl⟩:=aL e;rw[bJ d]at h;exact o z H R (SH d) s1 h
 . intro i x H Q e j s1 h;obtain⟨z,d,rfl⟩:=aL e;rw[bJ d]at h j;exact q z H Q (SH d) j s1 h
 . intro l H m s1 g;refine p l H m s1 ?_;rw[Sx]at g;rw[g,Jf]
structure NewAt(H1 H:Hp)(l:Addr)(as:List Addr)(os:List HO):Prop where
 len:as.length=os.length
 nd:as.Nodup
 nl:l∉as
 fr:∀ a∈as,H1 a=none
 at_:∀(j:Nat) (a:Addr) (o:HO),as[j]? =some a->os[j]? =some o->H a=some o
def NewAt.nil{H1 H:Hp}{l:Addr}:NewAt H1 H l [] [] where
 len:=rfl
 nd:=UT
 nl:=by simp
 fr:=λa h=>nomatch h
 at_:=λj a o h=>by simp at h
def NewAt.same{H1 H b:Hp}{l:Addr}{c:List Addr}{d:List HO}(x:NewAt H1 H l c d)(s:Same H b):NewAt H1 b l c d:=
 ⟨x.len,x.nd,x.nl,x.fr,λj a o h1 h2=>s _ _ (x.at_ j a o h1 h2)⟩
theorem NewAt.mem{H1 H:Hp}{l:Addr}{d:List Addr}{b:List HO}(x:NewAt H1 H l d b){a:Addr}(h:a∈d):∃ o,H a=some o:=by
 obtain⟨j,f,e⟩:=Us.mp h;have c:j<b.length:=by rw[← x.len];exact f
 exact⟨b[j],x.at_ j a b[j] (by rw[Sy f,e]) (Sy c)⟩
theorem NewAt.more{H1 H m:Hp}{l p:Addr}{h:List Addr}{k:List HO}{o u:HO}(x:NewAt H1 H l h k)(s1:Same H1 H)(s:Same H m)(d:H p=none)(e:m p=some o)(t:H l=some u)(A:HO):NewAt H1 (upd m l A) l (h++[p]) (k++[o]):=by
 have g:p≠l:=λz=>by rw[z,t]at d;cases d
 refine⟨by simp[x.len],?_,?_,?_,?_⟩
 . refine Uk.mpr ⟨x.nd,by simp,λa c b y z=>?_⟩;rw[SO.mp y]at z;obtain⟨n,e2⟩:=x.mem c;rw[z,d]at e2;cases e2
 . intro f;rcases SX.mp f with f | f
   . exact x.nl f
   . exact g (SO.mp f).symm
 . intro a c;rcases SX.mp c with c | c
   . exact x.fr a c
   . rw[SO.mp c]
     cases q:H1 p with
     | none=>rfl
     | some v=>rw[s1 _ _ q]at d;cases d
 . intro j a n h1 h2;have B:=x.len;by_cases r:j<h.length
   . rw[Tn r]at h1;rw[Tn #[4]]at h2;have i:a≠l:=λz=>x.nl (z ▸ SH h1);rw[ap i];exact s _ _ (x.at_ j a n h1 h2)
   . rw[Tp #[4]]at h1;rw[Tp #[4]]at h2
     have w:j-h.length=0:=by
      have:=(SD.mp h1).1;simp at this;lia
     rw[w]at h1;rw[show j-k.length=0 by lia]at h2;simp at h1 h2;subst h1 h2;rw[ap g];exact e
theorem wJ (b:Nat->Bool) (o:Nat->HO) (D:n<=900)
  (E:∀ i H R,i<n->Same H1 H->(∀ g,Same H g->R (b i) g)->tt (σ0.set k ⇑(lo+i)) H R)
  (w:∀ i H Q,i<n->b i=true->Same H1 H->(∀ a g,Same H g->H a=none->g a=some (o i)->Q (.ref a) g)->te (σ0.set k ⇑(lo+i)) H Q)
  (C:∀ l c H,H1 l=none->Same H1 H->H l=↥(c.map V.ref)->NewAt H1 H l c (((List.range n).filter b).map o)->fin l H):
  CompR (Itr lo n) (gName k) tt te fin σ0 H1:=by
 refine sU (λl i σ H=>(σ=σ0\/∃ u,σ=σ0.set k u)/\Same H1 H/\∃ c:List Addr,H l=↥(c.map V.ref)/\NewAt H1 H l c (((List.range i).filter b).map o)) (λl h=>⟨.inl rfl,(SF H1).laid h,[],by rw[aj];rfl,NewAt.nil⟩) ?_ (λl σ H h ⟨_,s1,c,q,x⟩=>C l c H h s1 q x);rintro l i σ H h r ⟨v,s1,c,q,x⟩;rw[be]
 have e:σ.set k ⇑(lo+i)=σ0.set k ⇑(lo+i):=by
  rcases v with rfl | ⟨u,rfl⟩
  . rfl
  . exact Uc ..
 rw[e];refine E i H _ r s1 λz m=>?_;have f:=m _ _ q;have t:=x.same m;have d:=s1.trans m
 cases s:b i with
 | false=>
  rw[SS SR];refine⟨.inr ⟨_,rfl⟩,d,c,f,?_⟩;rw[TU,Tm,Tk,s]
  simpa using t
 | true=>
  rw[SY rfl];refine w i z _ r s d λp F j B A=>⟨_,j _ _ f,?_,.inr ⟨_,rfl⟩,(d.trans j).own h,c++[p],?_,?_⟩
  . rw[Sx,t.len,Sx];exact aH (SW (ow b r D) #[1])
  . rw[aj];simp
  . have y:=t.more d j B A f (.lst (c.map V.ref++[V.ref p]));rw[TU,Tm,Tk,s]
    simpa using y
theorem nQ {xs:List V} (b:Nat->Bool) (o:Nat->HO) (E:xs.length<=900) (u:SqL K H1 a xs)
  (G:∀ i x H R,xs[i]? =some x->Same H1 H->(∀ g,Same H g->R (b i) g)->tt (σ0.set k (some x)) H R)
  (v:∀ i x H Q,xs[i]? =some x->b i=true->Same H1 H->(∀ a g,Same H g->H a=none->g a=some (o i)->Q (.ref a) g)->te (σ0.set k (some x)) H Q)
  (D:∀ l c H,H1 l=none->Same H1 H->H l=↥(c.map V.ref)->NewAt H1 H l c (((List.range xs.length).filter b).map o)->fin l H):
  CompR (Itl K a) (gName k) tt te fin σ0 H1:=by
 refine pC (xs:=xs) (λl i σ H=>(σ=σ0\/∃ t,σ=σ0.set k t)/\Same H1 H/\∃ c:List Addr,H l=↥(c.map V.ref)/\NewAt H1 H l c (((List.range i).filter b).map o)) (λl h=>⟨.inl rfl,(SF H1).laid h,[],by rw[aj];rfl,NewAt.nil⟩) (λl i σ H _ _ p=>p.2.1.seq u) ?_ (λl σ H h ⟨_,s1,c,n,x⟩=>D l c H h s1 n x);rintro l i y σ H h q ⟨w,s1,c,n,x⟩;have F:i<xs.length:=(SD.mp q).1;rw[be]
 have e:σ.set k (some y)=σ0.set k (some y):=by
  rcases w with rfl | ⟨t,rfl⟩
  . rfl
  . exact Uc ..
 rw[e];refine G i y H _ q s1 λA m=>?_;have f:=m _ _ n;have s:=x.same m;have d:=s1.trans m
 cases r:b i with
 | false=>
  rw[SS SR];refine⟨.inr ⟨_,rfl⟩,d,c,f,?_⟩;rw[TU,Tm,Tk,r]
  simpa using s
 | true=>
  rw[SY rfl];refine v i y A _ q r d λp I j C B=>⟨_,j _ _ f,?_,.inr ⟨_,rfl⟩,(d.trans j).own h,c++[p],?_,?_⟩
  . rw[Sx,s.len,Sx];exact aH (SW (ow b F E) #[1])
  . rw[aj];simp
  . have z:=s.more d j C B f (.lst (c.map V.ref++[V.ref p]));rw[TU,Tm,Tk,r]
    simpa using z
end
theorem DVs.of_get{K:Frag}{H:Hp}:∀{xs:List V} {a:List PyData},xs.length=a.length->(∀(i:Nat) x d,xs[i]? =some x->a[i]? =some d->DV K H x d)->DVs K H xs a
 | [],[],_,_=>.nil
 | [],_::_,h,_=>by simp at h
 | _::_,[],h,_=>by simp at h
 | x::xs,d::a,h,f=>.cons (f 0 x d rfl rfl) (DVs.of_get (by simpa using h) λi y e h1 h2=>f (i+1) y e (by simpa using h1) (by simpa using h2))
theorem rf:∀{a:List PyData},(∀ d∈a,PyData.canLay0 d=true)->PyData.canLayAll0 a=true
 | [],_=>rfl
 | d::r,h=>by rw[PyData.canLayAll0,h d SN,rf λe b=>h e (SM _ b)];rfl
theorem pF{n:Nat}:∀{a:List PyData},(∀ d∈a,PyData.depth d<=n)->PyData.depthAll a<=n
 | [],_=>TF _
 | d::r,h=>by rw[PyData.depthAll];exact Nat.max_le.mpr ⟨h d SN,pF λe b=>h e (SM _ b)⟩
def dLI(xs:∅):PyData:=.list (xs.map PyData.int)
theorem L6(xs:∅):PyData.canLay0 (dLI xs)=true:=by unfold dLI;rw[PyData.canLay0];exact or xs
theorem Jg(xs:∅):PyData.depth (dLI xs)=1:=by unfold dLI;rw[PyData.depth,jW]
theorem L7(xs ys:∅):PyData.eqv (dLI xs) (dLI ys)=decide (xs=ys):=by unfold dLI;rw[PyData.eqv,xt]
theorem wd{α:Type}[DecidableEq α](g:α->PyData)(c:∀ a b,PyData.eqv (g a) (g b)=decide (a=b)):∀ xs ys:List α,PyData.eqvAll (xs.map g) (ys.map g)=decide (xs=ys)
 | [],[]=>rfl
 | [],_::_=>rfl
 | _::_,[]=>rfl
 | x::xs,y::ys=>by
  rw[S6,S6,PyData.eqvAll,c,wd g c xs ys,Tb];simp
structure IsLL(H:Hp)(l:Addr)(as:List Addr)(Sr:List ∅):Prop where
 top:H l=↥(as.map V.ref)
 len:as.length=Sr.length
 at_:∀(j:Nat) (a:Addr) (xs:∅),as[j]? =some a->Sr[j]? =some xs->H a=↥(xs.map V.int)
variable{l:Addr}{as:List Addr}{Sr:List ∅}
def IsLL.same{b:Hp}(x:IsLL H l as Sr)(s:Same H b):IsLL b l as Sr:=
 ⟨s _ _ x.top,x.len,λj a c h1 h2=>s _ _ (x.at_ j a c h1 h2)⟩
variable{K:Frag}
theorem IsLL.dv(x:IsLL H l as Sr):DV K H (.ref l) (.list (Sr.map dLI)):=by
 refine .lst (ST x.top) (DVs.of_get (by simp[x.len]) λi y d h1 h2=>?_);obtain⟨a,c,rfl⟩:=bf h1;rw[SI]at h2
 cases e:Sr[i]? with
 | none=>rw[e]at h2;cases h2
 | some b=>
  rw[e]at h2;cases h2;exact .lst (ST (x.at_ i a b c e)) (.ints b)
theorem BC(Sr:List ∅):SeqAt.shaped (.list (Sr.map dLI))=true:=by
 have h1:PyData.canLayAll0 (Sr.map dLI)=true:=rf λd a=>by obtain⟨x,_,rfl⟩:=SL.mp a;exact L6 x
 have h2:PyData.depthAll (Sr.map dLI)<=1:=pF λd a=>by obtain⟨x,_,rfl⟩:=SL.mp a;rw[Jg];exact SZ _
 simp[SeqAt.shaped,PyData.canLay0,h1,PyData.depth];lia
def nR(K:Frag):Sp:=#[3,∃ a h w g c,vs=[.ref a,.int c]/\IsFl H a h w g/\0<w/\w<100/\∀ p,H p=none->Q (.ref p) (upd H p (.tup [.int (c/w),.int (c%w)]))]
def sY(K:Frag):TS:=#[":gldk0ef#1 i#2 jQad~o12adL12c"]
abbrev eD9(Q:VK):Ends:={nx:=λ_ a=>Q .non a,rt:=Q}
variable{vs:List V}
theorem Hi{Q:VK}{E:XK}(h:nR K vs H Q E):sY K (eD9 Q) (start ["floor","cell","wide"] vs) H:=by
 obtain⟨a,h,w,g,c,rfl,d,b,e,k⟩:=h;exists sY;rw[ji d];refine bm (a:=V.int w) rfl ?_;exists⟨⟨b,by lia⟩,b,lnR rfl,k⟩
theorem xB(h w c:Int):(besL h w c).length<=4:=by
 unfold besL;simp only[Ta]
 split <;> split <;> split <;> split <;> simp
def fP(K:Frag):Sp:=#[3,∃ a h w g c,vs=[.ref a,.int c]/\IsFl H a h w g/\0<w/\w<100/\∀ l b,Same H b->H l=none->b l=↥((besL h w c).map V.int)->Q (.ref l) b]
def uD(K:Frag):TS:=#[":gldk0ef#0 i#2 gldk0ef#1 i#3 gl,'kba0a1ci#4 gluci#5 gomd>dk4ef#0 ef#0 TGbMW5adV13cpgomd>dk4ef#1 ef#0 TGbMW5adV1ef#1 cpgomd<dk4ef#1 dV3ef#1 TGbMW5adw1ef#1 cpgomd<dk4ef#0 dV2ef#1 TGbMW5adw13cpj5"]
theorem yQ {D:Ends} {σ:St} {t:TT} {e:TE} {b:Bool} {v:Int} (g:σ[i]? =some ↑l) (f:∀ R,R b H->t σ H R) (d:H l=↥(ns.map V.int)) (m:ns.length<=900)
  (h:∀ Q,Q (.int v) H->e σ H Q) (k:∀ a,(a l=↥((ns++if b=true then [v] else []).map V.int))->(∀ c,c≠l->a c=H c)->D.nx σ a):
  tIfS t (tDrop (tBM K "list" bT (tVar i) (tCons e tNil))) tNext D σ H:=by
 rw[aF];refine f _ ?_
 cases b with
 | false=>
  refine iteF ?_;rw[cX];exact k H (by simpa using d) λ_ _=>rfl
 | true=>
  refine iteT ?_;rw[cY,gn,Ly];refine⟨_,g,br d,?_⟩;rw[b5];refine h _ ?_;rw[dO,fV d];refine⟨by rw[Sx];exact aH #[4],k _ ?_ λc j=>ap j⟩;rw[aj];simp
theorem Jh{Q:VK}{E:XK}(h:fP K vs H Q E):uD K (eD9 Q) (start ["floor","cell","high","wide","spot","found"] vs) H:=by
 obtain⟨a,h,w,g,c,rfl,y,J,G,k⟩:=h;exists uD;rw[ji y];refine bm (a:=V.int h) rfl ?_;symm;rw[ji y];refine bm (a:=V.int w) rfl ?_;exists⟨a,h,w,g,c,rfl,y,J,G,λp D=>?_⟩;exists⟨aX #[1],λl s=>?_⟩;have m:p≠l:=λe=>by rw[e,aj]at s;cases s
 have n:H l=none:=by rw[ap m.symm]at s;exact s
 have j:∀ x:Hp,(∀ d,d≠l->x d=upd H p (.tup [.int (c/w),.int (c%w)]) d)->x p=some (.tup [.int (c/w),.int (c%w)]):=λx e=>by rw[e p m,aj]
 refine yQ (ns:=[]) (l:=l) (i:=5) (b:=decide (0<c/w)) (v:=c-w) rfl (λR q=>?_) aj #[1] (λQ q=>?_) λN e1 t=>?_
 . symm;rw[ji (j _ λd f=>ap f)];refine bm rfl ?_;symm;exact q
 . symm;exact q
 exists yQ (l:=l) (i:=5) (b:=decide (0<c%w)) (v:=c-1) rfl (λR q=>?_) e1 (by simp;split <;> simp) (λQ q=>?_) λL e2 z=>?_
 . symm;rw[ji (j _ λd f=>by rw[t d f,ap f])];refine bm rfl ?_;symm;exact q
 . symm;exact q
 exists yQ (l:=l) (i:=5) (b:=decide (c%w<w-1)) (v:=c+1) rfl (λR q=>?_) e2 (by simp;split <;> split <;> simp) (λQ q=>?_) λM F A=>?_
 . symm;rw[ji (j _ λd f=>by rw[z d f,t d f,ap f])];refine bm rfl ?_;symm;exact q
 . symm;exact q
 exists yQ (l:=l) (i:=5) (b:=decide (c/w<h-1)) (v:=c+w) rfl (λR q=>?_) F (by simp;split <;> split <;> split <;> simp) (λQ q=>?_) λC B I=>?_
 . symm;rw[ji (j _ λd f=>by rw[A d f,z d f,t d f,ap f])];refine bm rfl ?_;symm;exact q
 . symm;exact q
 exists k l C (λb o e=>?_) n ?_
 . have r:b≠l:=aB e n;have u:b≠p:=aB e D;rw[I b r,A b r,z b r,t b r,ap r,ap u];exact e
 . rw[B];unfold besL;simp[Sz]
structure FlOk(h w g:Int):Prop where
 h0:1<=h
 h1:h<=6
 w0:1<=w
 w1:w<=6
 m:h*w<=16
 g0:1<=g
 g1:g<=6
section
variable{K:Frag}{H:Hp}{Q:VK}
theorem Nr{p:Addr}{xs:List V}(b:H p=↥xs)(h:Q (.bl true) H):kIsi [.ref p,.ty "list"] H Q:=by
 refine⟨by decide,bm (a:="list") (by unfold ot;dsimp only;rw[b]) ?_⟩;rw[show isTy "list" "list"=true by decide];exact h
theorem Nt{p:Addr}{xs:List V}(b:H p=some (.tup xs))(h:Q (.bl true) H):kIsi [.ref p,.ty "tuple"] H Q:=by
 refine⟨by decide,bm (a:="tuple") (by unfold ot;dsimp only;rw[b]) ?_⟩;rw[show isTy "tuple" "tuple"=true by decide];exact h
theorem KF{p q:Addr}{xs ys:List V}(c:H p=↥xs)(b:H q=↥ys)(a:xs.length+ys.length<=1000)(h:Q .non (upd H p (.lst (xs++ys)))):lE (.ref p) [.ref q] H Q:=by
 show bnd (unM (H p)) _;rw[c];show bnd (unM (H q)) _;rw[b];exact⟨Tv (aH a),h⟩
def DO{n:Nat}{t:TGs}{σ:St}{k:St->Hp->Prop}{p:Addr}{xs:List V}(b:H p=some (.tup xs))(a:xs.length=n)(h:t xs σ H k):gTup K n t (.ref p) σ H k:=⟨p,xs,rfl,WO b,a,h⟩
theorem KG{i j:Nat}{x y:V}{σ:St}{k:St->Hp->Prop}:gCons (gName i) (gCons (gName j) gNil) [x,y] σ H k=k ((σ.set i (some x)).set j (some y)) H:=by
 refine propext ⟨?_,λh=>⟨x,[y],rfl,y,[],rfl,rfl,h⟩⟩;rintro⟨v,r,e,a,c,e2,b,h⟩;cases e;cases e2;exact h
end
end L2
namespace L2
open PySem PySem.Builtin PySem.Builtin.Str
def tx(l:List Nat):Str:=⟨l.toArray⟩
theorem yR(l:List Nat):(tx l).cps.toList=l:=by simp[tx]
theorem Ox(x:Str):tx x.cps.toList=x:=by cases x;simp[tx]
theorem Ji{a b:List Nat}(h:tx a=tx b):a=b:=by rw[← yR a,h,yR]
theorem bW(l:List Nat):(tx l).length=l.length:=by simp[tx,Str.length]
theorem rg(a b:List Nat):tx a++tx b=tx (a++b):=by
 refine Str.ext' ?_;rw[Str.cps_append];simp[tx]
theorem bF(a b:List Nat):decide (tx a=tx b)=decide (a=b):=by
 by_cases h:a=b
 . subst h;simp
 . have:¬ tx a=tx b:=λe=>h (Ji e);rw[SE h,SE this]
def catL(c:Nat):List (List Nat)->List Nat
 | []=>[]
 | [x]=>x
 | x::y::r=>x++c::catL c (y::r)
theorem oh(c:Nat):∀ ts:List (List Nat),Str.join (tx [c]) (ts.map tx)=tx (catL c ts)
 | []=>rfl
 | [x]=>rfl
 | x::y::r=>by
  show tx x++tx [c]++Str.join (tx [c]) ((y::r).map tx)=_;rw[oh c (y::r),rg,rg];show tx _=tx (x++c::catL c (y::r));rw[TJ];rfl
def sZ(a:Str)(ts:List Str):Txt.join a ts=Str.join a ts:=StrLaws.glued_eq_join a ts
theorem Gu{c:Nat}:∀{a b x y:List Nat},c∉a->c∉b->a++c::x=b++c::y->a=b/\x=y
 | [],[],_,_,_,_,h=>⟨rfl,by simpa using h⟩
 | [],b::bs,_,_,_,hb,h=>by
  simp at h;exact absurd (SU.mpr (.inl h.1)) hb
 | a::as,[],_,_,ha,_,h=>by
  simp at h;exact absurd (SU.mpr (.inl h.1.symm)) ha
 | a::as,b::bs,x,y,ha,hb,h=>by
  simp at h;have:=Gu (λz=>ha (SM _ z)) (λz=>hb (SM _ z)) h.2;exact⟨by rw[h.1,this.1],this.2⟩
theorem DP{c:Nat}:∀{x:List Nat} {r:List (List Nat)} {y:List Nat},c∈catL c (x::y::r):=by
 intro x r y;show c∈x++c::_;simp
theorem DQ{c:Nat}:∀{xs ys:List (List Nat)},xs≠[]->ys≠[]->(∀ x∈xs,c∉x)->(∀ y∈ys,c∉y)->catL c xs=catL c ys->xs=ys
 | [],_,h,_,_,_,_=>absurd rfl h
 | _,[],_,h,_,_,_=>absurd rfl h
 | [x],[y],_,_,_,_,h=>by
  have h':x=y:=h;rw[h']
 | [x],y::z::r,_,_,hx,_,h=>by
  have h':x=catL c (y::z::r):=h;exact absurd (h' ▸ DP) (hx x SN)
 | x::z::r,[y],_,_,_,hy,h=>by
  have h':catL c (x::z::r)=y:=h;exact absurd (h' ▸ DP) (hy y SN)
 | x::z::r,y::u::s,_,_,hx,hy,h=>by
  obtain⟨e1,e2⟩:=Gu (hx x SN) (hy y SN) (show x++c::catL c (z::r)=y++c::catL c (u::s) from h);rw[e1,DQ (by simp) (by simp) (λw hw=>hx w (SM _ hw)) (λw hw=>hy w (SM _ hw)) e2]
theorem KH(x y:Str):Txt.split x y≠[]:=by
 intro h;unfold Txt.split at h
 split at h
 . cases h
 . split at h
   . cases h
   . rw[StrLaws.partsBetween_eq]at h;obtain⟨p,r,e⟩:=StrLaws.partsFrom_ne x y.length 0 (occurrences x y 0 x.length (x.length+1));rw[e]at h;cases h
theorem KI{c:Nat}{Sl:List (List Nat)}(a:Sl≠[])(b:∀ r∈Sl,c∉r):Txt.split (tx (catL c Sl)) (tx [c])=Sl.map tx:=by
 have h1:=StrLaws.join_split (tx (catL c Sl)) (tx [c]);have h2:∀ p∈Txt.split (tx (catL c Sl)) (tx [c]),c∉p.cps.toList:=StrLaws.split_free _ c;have h3:=KH (tx (catL c Sl)) (tx [c]);generalize Txt.split (tx (catL c Sl)) (tx [c])=S at*
 have e:S=(S.map (·.cps.toList)).map tx:=by
  rw[Te]
  conv=>lhs;rw[← List.map_id S]
  exact Vf λx _=>(Ox x).symm
 rw[e,oh]at h1;have h4:=Ji h1;have h5:=DQ (c:=c) (xs:=S.map (·.cps.toList)) (ys:=Sl) (by simpa using h3) a (λx d=>by obtain⟨p,f,rfl⟩:=SL.mp d;exact h2 p f) b h4;rw[e,h5]
end L2
namespace L2
end L2
namespace L2
open PySem PySem.Spec PyProof.Rows
local macro_rules|`(tactic|walk_at "w")=>wk9 ws1
local macro_rules|`(tactic|symm)=>`(tactic|walk_at "w")
section
variable{k:Nat}{tt:TT}{te:TE}{fin:Addr->Hp->Prop}{σ0:St}{H1:Hp}
theorem Jj {cs:List Nat} (b:Nat->Bool) (f:Nat->V) (A:cs.length<=900)
  (B:∀ i c H R,cs[i]? =some c->Same H1 H->(∀ a,Same H a->R (b i) a)->tt (σ0.set k (some (.str (tx [c])))) H R)
  (u:∀ i c H Q,cs[i]? =some c->b i=true->Same H1 H->(∀ a,Same H a->Q (f i) a)->te (σ0.set k (some (.str (tx [c])))) H Q)
  (z:∀ l H,H1 l=none->Same H1 H->H l=↥(((List.range cs.length).filter b).map f)->fin l H):
  CompR (Its (tx cs)) (gName k) tt te fin σ0 H1:=by
 intro l p;have g:(tx cs).cps.size=cs.length:=by simp[tx]
 refine⟨λi m σ H=>m=cs.length-i/\i<=cs.length/\(σ=σ0\/∃ o,σ=σ0.set k o)/\Same H1 H/\H l=↥(((List.range i).filter b).map f),⟨cs.length,by simp,TF _,.inl rfl,(SF H1).laid p,by rw[aj];rfl⟩,?_⟩;rintro i m σ H ⟨rfl,E,t,s1,s⟩;by_cases d:i<cs.length
 . refine .inr ⟨by show i < (tx cs).cps.size;rw[g];exact d,λσ H=>(σ=σ0\/∃ o,σ=σ0.set k o)/\Same H1 H/\H l=↥(((List.range (i+1)).filter b).map f),λC a y=>⟨cs.length - (i+1),by lia,rfl,d,y⟩,?_⟩;rintro x a ⟨rfl,c,w,rfl⟩;have h:cs[i]? =some c:=by simpa [tx] using w
   show gName k (.str (tx [c])) σ a _;rw[be]
   have e:σ.set k (some (.str (tx [c])))=σ0.set k (some (.str (tx [c]))):=by
    rcases t with rfl | ⟨o,rfl⟩
    . rfl
    . exact Uc ..
   rw[e];refine B i c a _ h s1 λv n=>?_;have j:=n _ _ s
   cases q:b i with
   | false=>
    rw[SS SR];refine⟨.inr ⟨_,rfl⟩,s1.trans n,?_⟩;rw[TU,Tm,Tk,q]
    simpa using j
   | true=>
    rw[SY rfl];refine u i c v _ h q (s1.trans n) λD r=>⟨_,r _ _ j,by rw[Sx];exact aH (SW (ow b d A) #[1]),.inr ⟨_,rfl⟩,((s1.trans n).trans r).own p,?_⟩;rw[aj,TU,Tm,Tk,q];simp
 . have e:i=cs.length:=by lia
   subst e;exact .inl ⟨by show(tx cs).cps.size<=_;rw[g];exact SZ _,z l H p s1 s⟩
end
theorem i7{α:Type}(xs:∅)(g:Int->α):(List.range xs.length).map (λi=>g (xs.getD i 0))=xs.map g:=by
 have e:xs=(List.range xs.length).map λi=>xs.getD i 0:=by
  refine T5 λi=>?_;rw[SI];by_cases h:i<xs.length
  . rw[Tz h,Sy h];simp[List.getD,h]
  . rw[S0 #[4],S0 (by simpa using h)];rfl
 conv=>rhs;rw[e]
 rw[Te];rfl
theorem j3{a:Str}{ts:List Str}(h1:ts.length<=1000)(h2:∀ t∈ts,t.length<=1000)(h3:a.length<=10):JoinOk a ts=true:=by
 unfold JoinOk;rw[Tg];refine StrLaws.joinFits (B:=1000) h2 ?_;have c:ts.length*1000<=1000*1000:=U7 _ h1;have b:ts.length*a.length<=1000*10:=Wb h1 h3;lia
abbrev rIsN:R2:=λx y H Q=>y=.non/\Q (.bl (decide (x=.non))) H
abbrev rNotN:R2:=λx y H Q=>y=.non/\Q (.bl (!decide (x=.non))) H
def kStr:List V->Hp->VK->Prop
 | [.int i],H,Q=>i.natAbs.log2<1920/\Q (.str (Str.ofString (toString i))) H
 | _,_,_=>False
section
variable{X:Cx}
theorem fQ:CallR X (.type "str") kStr:=by
 intro c s σ H d e Q I r h;unfold kStr at h
 split at h
 . obtain⟨b,q⟩:=h
   cases r with
   | cons r0 a=>
    cases a;obtain⟨t,rfl⟩:=r0;exact PySem.P.str_of_int b ⟨.str _,H,I.tok _,⟨_,rfl⟩,q⟩
 . exact h.elim
end
section
variable{K:Frag}{H:Hp}{Q:VK}
theorem i8{x:V}:rIsN x .non H Q=Q (.bl (decide (x=.non))) H:=by simp[rIsN]
theorem ge{x:V}:rNotN x .non H Q=Q (.bl (!decide (x=.non))) H:=by simp[rNotN]
def ie{i:Int}:kStr [.int i] H Q=(i.natAbs.log2<1920/\Q (.str (Str.ofString (toString i))) H):=rfl
end
structure Bt2(mg:Str->Option Value):Prop extends Bt mg where
 all_:mg "all"=none
 sum_:mg "sum"=none
 enumerate_:mg "enumerate"=none
section
variable{K:Frag}{H:Hp}{Q:VK}{D:Ends}{σ:St}{g:TG}{tb:TS}{ta:TA}{ix:List (Option Nat)}{tt:TT}{te tf:TE}{k:Nat}
def ig:tIf tt te tf σ H Q=tt σ H λc a=>if c=true then te σ a Q else tf σ a Q:=rfl
def cK:tComp ix (vX ta) g tt te σ H Q=ta σ H λvs b=>∃ i j:Int,vs=[.int i,.int j]/\(-(2^62)<=i/\i<2^62/\ -(2^62)<=j/\j<2^62)/\CompR (Itr i (j-i).toNat) g tt te (λl a=>Q (.ref l) a) (subσ ix σ) b:=rfl
def b8:sComp k ix (vX ta) g tt te D σ H=ta σ H λvs b=>∃ i j:Int,vs=[.int i,.int j]/\(-(2^62)<=i/\i<2^62/\ -(2^62)<=j/\j<2^62)/\CompR (Itr i (j-i).toNat) g tt te (λl a=>D.nx (σ.set k ↑l) a) (subσ ix σ) b:=rfl
theorem isiE{x:V}{n t:String}{b:Bool}(c:ot H x=some t)(a:wb n=true)(d:isTy t n=b):kIsi [x,.ty n] H Q=Q (.bl b) H:=by
 subst d;show(wb n=true/\bnd (ot H x) λt=>Q (.bl (isTy t n)) H)=_;rw[c];simp only[a,true_and,bE]
def cL{i:Int}:kIsi [.int i,.ty "int"] H Q=Q (.bl true) H:=isiE (t:="int") rfl #[1] #[1]
def cM{i:Int}:kIsi [.int i,.ty "bool"] H Q=Q (.bl false) H:=isiE (t:="int") rfl #[1] #[1]
def cN{i:Int}:kIsi [.int i,.ty "str"] H Q=Q (.bl false) H:=isiE (t:="int") rfl #[1] #[1]
def cO{i:Bool}:kIsi [.bl i,.ty "bool"] H Q=Q (.bl true) H:=isiE (t:="bool") rfl #[1] #[1]
def cP{i:Bool}:kIsi [.bl i,.ty "int"] H Q=Q (.bl true) H:=isiE (t:="bool") rfl #[1] #[1]
def cQ{i:Str}:kIsi [.str i,.ty "str"] H Q=Q (.bl true) H:=isiE (t:="str") rfl #[1] #[1]
def cR{i:Bool}:kIsi [.bl i,.ty "str"] H Q=Q (.bl false) H:=isiE (t:="bool") rfl #[1] #[1]
def fF{A B:Prop}:(if true=true then A else B)=A:=SY rfl
def fG{A B:Prop}:(if false=true then A else B)=B:=SS SR
theorem fH{i:Int}:rU (λi=>.int (-i)) (.int i) H Q=Q (.int (-i)) H:=by
 refine propext ⟨?_,λh=>⟨i,rfl,h⟩⟩;rintro⟨j,e,h⟩;cases e;exact h
theorem ixT{p:Addr}{i:Int}{xs:List V}{v:V}(h:H p=some (.tup xs))(e:atI xs i=some v)(q:Q v H):cIx (.ref p) (.int i) H Q:=by
 rw[ji h];exact bm e q
theorem ixL{p:Addr}{i:Int}{xs:List V}{v:V}(h:H p=↥xs)(e:atI xs i=some v)(q:Q v H):cIx (.ref p) (.int i) H Q:=by
 rw[Lz h];exact bm e q
def ixI{p:Addr}{i:Int}{ns:∅}(h:H p=↥(ns.map V.int))(h0:0<=i)(h1:i<ns.length)(q:Q (.int (ns.getD i.toNat 0)) H):cIx (.ref p) (.int i) H Q:=ixL h (xy h0 h1) q
end
def cMulB:R2
 | .int i,.int j,H,Q=>IntMulOk i j/\Q (.int (i*j)) H
 | _,_,_,_=>False
end L2
namespace Att
open PySem PySem.W PySem.Calls PyProof.Rows
end Att
namespace L2
open PySem PySem.Spec PyProof.Rows
section
variable{K:Frag}{H:Hp}{Q:VK}{D:Ends}{σ:St}
def OQ{i j:Int}:cMulB (.int i) (.int j) H Q=(IntMulOk i j/\Q (.int (i*j)) H):=rfl
def i9{i j:Int}:cPow (.int i) (.int j) H Q=(CPow i j/\Q (.int (i^j.toNat)) H):=rfl
def AH{ix:List (Option Nat)}{b:TE}{g:TG}{c:TT}{te:TE}:tComp ix (iTup K b) g c te σ H Q=b σ H λx d=>∃ a,x=.ref a/\(∃ xs,SqT K d a xs)/\CompR (Itt K a) g c te (λl e=>Q (.ref l) e) (subσ ix σ) d:=rfl
theorem Hj{p:Addr}{bs:List Bool}(b:H p=↥(bs.map V.bl))(h:Q (.bl (bs.any id)) H):kAny [.ref p] H Q:=by
 show bnd (unL (H p)) _;rw[b];exact bm (a:=bs.map V.bl) rfl ⟨bs,rfl,h⟩
theorem uE{p q:Addr}{xs ys:List V}(d:H p=↥xs)(c:H q=↥ys)(b:xs.length+ys.length<=1000)(h:∀ r,H r=none->Q (.ref r) (upd H r (.lst (xs++ys)))):cAdd (.ref p) (.ref q) H Q:=by
 show bnd (unM (H p)) _;rw[d];refine bm (a:=xs) rfl ?_;rw[c];exact bm (a:=ys) rfl ⟨Tv (aH b),h⟩
theorem DR {g:TG} {r:TT} {te:TE} {a:Addr} {xs:List V} {fin:Addr->Hp->Prop} {n:St} {f:Hp} (d:Addr->Nat->St->Hp->Prop) (h0:∀ l,f l=none->d l 0 n (upd f l (.lst []))) (t:∀ l i σ H,f l=none->i<=xs.length->d l i σ H->SqT K H a xs)
  (w:∀ l i x σ H,f l=none->xs[i]? =some x->d l i σ H->g x σ H λj u=>r j u λb k=>if b=true then te j k λy o=>∃ ys,o l=↥ys/\ys.length<sizeLine/\d l (i+1) j (upd o l (.lst (ys++[y]))) else d l (i+1) j k)
  (v:∀ l σ H,f l=none->d l xs.length σ H->fin l H):CompR (Itt K a) g r te fin n f:=by
 intro l c;refine⟨λi m σ H=>m=xs.length-i/\i<=xs.length/\d l i σ H,⟨xs.length,by simp,TF _,h0 l c⟩,?_⟩;rintro i m σ H ⟨rfl,A,p⟩;have q:=t l i σ H c A p;by_cases h:i<xs.length
 . refine .inr ⟨⟨xs,xs[i],q,by simp[h]⟩,d l (i+1),λB s z=>⟨xs.length - (i+1),by lia,rfl,h,z⟩,λx s y=>?_⟩;obtain⟨e,y⟩:=y;subst e;exact w l i x σ _ c (y xs q) p
 . have e:i=xs.length:=by lia
   subst e;exact .inl ⟨⟨xs,q,SZ _⟩,v l σ H c p⟩
end
inductive RK where
 | Rule | Unlike | Sum | Rising | Seen | Count | Joined | NoSquare | Ring
 deriving DecidableEq
structure RCl (ι:Type) where
 A:ι->Addr
 ok:ι->Bool
section
variable{ι:Type}
def tFldK(c:RCl ι)(g:TE)(f:Str):TE:=λσ H Q=>g σ H λx d=>∃ a k e b v,x=.ref a/\c.ok k=true/\d a=some (.ins (c.A k) e b)/\b.lookup f=some v/\Q v d
def sFldK(c:RCl ι)(g i:TE)(f:Str):TS:=λD σ H=>i σ H λy h=>g σ h λx e=>∃ a k d b,x=.ref a/\c.ok k=true/\e a=some (.ins (c.A k) d b)/\b.length<1000/\
 D.nx σ (upd e a (.ins (c.A k) d (putF f y b)))
def aA(c:RCl ι)(b:ι->Bool)(m:Str)(sp:ι->Sp)(f:TE)(t:TA):TE:=λσ H Q=>f σ H λx e=>∃ a k g d,x=.ref a/\b k=true/\e a=some (.ins (c.A k) g d)/\d.lookup m=none/\
 t σ e λvs h=>sp k (x::vs) h Q E0
structure FldK(K:Frag)(c:RCl ι)(f:Str):Prop where
 ex:∀ k,c.ok k=true->Cls K (c.A k)/\NoAttr K (c.A k) f
structure MCal(P:Program)(w:World)(K:Frag)(mg:Str->Option Value)(base:Heap)(c:RCl ι)(okm:ι->Bool)(k:Nat)(m:Str)(ps:List Str)(sp:ι->Sp):Prop where
 ex:∀ i,okm i=true->∃(f:Addr) (fd:FuncData),Cls K (c.A i)/\Meth K (c.A i) m f/\FnOk P w K mg base CX0 k f fd ps (sp i)/\Binds K fd ps []
structure KCal(P:Program)(w:World)(K:Frag)(mg:Str->Option Value)(base:Heap)(k:Nat)(x:Str)(C:Addr)(ps:List Str)(sp:Sp):Prop where
 ex:∃(f:Addr) (fd:FuncData),Mk K C f/\FnOk P w K mg base CX0 k f fd ps sp/\mg x=↑C/\Binds K fd ps []
end
section
variable{ι:Type}{X:Cx}{c:RCl ι}{o e value:Expr}{es:List Expr}{f x m:Str}{p pos pos' apos:Pos}{ta tv:TE}{t:TA}{okm:ι->Bool}{k n:Nat}{ps:List Str}{sp:ι->Sp}{sp1:Sp}{C:Addr}
theorem bj(o:PE X e ta)(F:FldK X.K c f)(n:attributeBase e f X.env (eval e X.env)=eval e X.env:=by rfl):PE X (.Attribute e f pos) (tFldK c ta f):=by
 intro g s σ H Q I h;refine LQ n (thn (o g s σ H _ I h) λu s1 ⟨x,p,t,b,a,k,B,z,v,w,y,d,l,q⟩=>?_);subst w;obtain rfl:u=Value.ref a:=b;obtain⟨i,m⟩:=F.ex k y;exact Hc t d i m l λC A r j=>⟨v,p,r,j,q⟩
theorem jP(w:PE X o ta)(z:PE X value tv)(F:FldK X.K c f)(g:swapsWith value (some (.Attribute o f pos')) pos.line X.env=pure false:=by rfl):PS X (.Assign [.Attribute o f pos'] value pos) (sFldK c ta tv f):=by
 intro b s σ H D I h;refine plainObj_wpAny_Assign_Attribute (thn (z b s σ H _ I h) λu s1 ⟨y,p,C,n,q⟩=>thn (w b s1 σ p _ C q) λd L ⟨x,E,r,j,a,k,M,G,v,i,m,l,t⟩=>?_) g;subst v;obtain rfl:d=Value.ref a:=j;obtain⟨e,A⟩:=F.ex k i;exact Hd r m e A l n λJ B=>⟨σ,_,B,t⟩
def bh {pl:Sem Bool} (M:MCal X.prog X.w X.K X.mg X.base c okm k m ps sp) (N:Room n X.A) (C:k<=n) (B:PE X o ta) (O:PA X (e::es) t)
  (d:starEach (e::es) X.env=(false,eval e X.env)::starEach es X.env:=by rfl) (b:(backTo pos (starEach es X.env)).any (·.1)=false:=by rfl)
  (R:eval (.Call (.Attribute o m apos) (e::es) [] pos) X.env=(do
   let ov ← eval o X.env
   standAt apos.atName
   let (f,first) ← holding [ov] (getMethod ov m pl)
   callWith pos f first (backTo pos (starEach (e::es) X.env)) (backToKw pos (keywordEach [] X.env))):=by rfl):
  PE X (.Call (.Attribute o m apos) (e::es) [] pos) (aA c okm m sp ta t):=by
 intro p s σ H Q I h;refine WK (pl:=pl) (thn (B p s σ H _ I h) λu s1 ⟨x,G,y,D,a,i,Z,U,L,P,E,l,q⟩=>?_) R;subst L;obtain rfl:u=Value.ref a:=D;obtain⟨f,Y,z,v,F,S⟩:=M.ex i P;refine yF y E z v l ?_;refine V8 (first:=[.ref a]) (h₀:=X.base) I.ok.mod.kin v.kp (thn (O pos p s1 σ G _ y q) λj W ⟨vs,T,g,r,J⟩=>⟨g.kIn,?_⟩) d b;exact Dx (us:=.ref a::j) (vs:=.ref a::vs) F (N.mono C) S .nil Dh g (.cons rfl r) (by rw[Vn];exact J)
theorem aG {pl:Sem Bool} (M:MCal X.prog X.w X.K X.mg X.base c okm k m ps sp) (e:Room n X.A) (C:k<=n) (y:PE X o ta)
  (r:eval (.Call (.Attribute o m apos) [] [] pos) X.env=(do
   let ov ← eval o X.env
   standAt apos.atName
   let (f,first) ← holding [ov] (getMethod ov m pl)
   callWith pos f first (backTo pos (starEach [] X.env)) (backToKw pos (keywordEach [] X.env))):=by rfl):
  PE X (.Call (.Attribute o m apos) [] [] pos) (aA c okm m sp ta tNil):=by
 intro p s σ H Q I h;refine WK (pl:=pl) (thn (y p s σ H _ I h) λu s1 ⟨x,E,b,g,a,i,G,D,B,z,j,l,q⟩=>?_) r;subst B;obtain rfl:u=Value.ref a:=g;obtain⟨f,J,t,d,F,v⟩:=M.ex i z;refine yF b j t d l ?_;exact PySem.W.callWith_K0 (first:=[.ref a]) b.kIn d.kp (Dx (us:=[.ref a]) (vs:=[.ref a]) F (e.mono C) v .nil Dh b (.cons rfl .nil) q)
theorem l9 (M:KCal X.prog X.w X.K X.mg X.base k x C ps sp1) (c:Room n X.A) (l:k+1<=n) (j:Gl X x) (d:PA X (e::es) t)
  (b:(x==("__debug__":Str))=false:=by decide) (i:starEach (e::es) X.env=(false,eval e X.env)::starEach es X.env:=by rfl) (a:(backTo pos (starEach es X.env)).any (·.1)=false:=by rfl):
  PE X (.Call (.Name x p) (e::es) [] pos) (tMake C sp1 [] E0 t):=by
 obtain⟨f,m,mk,F,g,h⟩:=M.ex;exact LS mk F (c.mono l) j g h .nil Dh d b i a
end
def ox(K:Frag):List V->Hp->VK->Prop
 | [.ref p],H,Q=>bnd (unM (H p)) λys=>∀ l,H l=none->Q (.ref l) (upd H l (.tup ys))
 | _,_,_=>False
def tInG(b:List Str)(a:Bool)(te:TE):TE:=λσ H Q=>te σ H λx c=>∃ z,x=.str z/\Q (.bl (if a then !decide (z∈b) else decide (z∈b))) c
structure GTup(K:Frag)(mg:Str->Option Value)(x:Str)(ws:List Str):Prop where
 ex:∃(p:Addr) (o:Obj) (So:Array Value) (n:Nat),mg x=↑p/\K.lookup p=some o/\o.cls=.type "tuple"/\o.data=.seq So n/\So.size<=sizeLine/\Vals (ws.map V.str) So.toList
theorem mD:∀ ns:List Str,(ns.map V.str).all flatV=true
 | []=>rfl
 | n::r=>by rw[S6,VI,mD r];rfl
theorem oy(i:Str):∀ ns:List Str,inV (.str i) (ns.map V.str)=decide (i∈ns)
 | []=>by simp[inV]
 | n::r=>by
  have a:=oy i r;unfold inV at a ⊢;rw[S6,UZ,a];show((n==i)||decide (i∈r))=decide (i∈n::r);rw[Tb,TD,UJ,Sz,Sz,SU];exact⟨λh=>h.elim (λe=>.inl e.symm) .inr,λh=>h.elim (λe=>.inl e.symm) .inr⟩
section
variable{X:Cx}{a:Expr}{ta:TE}{pos p:Pos}{x:Str}{ws:List Str}
theorem wK:CallR X (.type "tuple") (ox X.K):=by
 intro c s σ H d b Q I r h;unfold ox at h
 split at h
 . obtain⟨a,e,q⟩:=bn h;exact Co c s σ H _ b Q I r ⟨_,a,rfl,.inl ⟨ST (iU e),q⟩⟩
 . exact h.elim
theorem Nu{ws:List Str}{q:Addr}(d:∃(o:Obj) (So:Array Value) (n:Nat),X.K.lookup q=some o/\o.cls=.type "tuple"/\o.data=.seq So n/\So.size<=sizeLine/\Vals (ws.map V.str) So.toList):
  OpR X (compareOp .In) (λx y H Q=>∃ z,x=.str z/\y=.ref q/\Q (.bl (decide (z∈ws))) H):=by
 intro c s σ H x y v u Q I b a h;obtain⟨z,rfl,rfl,h⟩:=h;refine pB c s σ H _ _ v u Q I b a ⟨q,ws.map V.str,rfl,.inr (.inr d),rfl,mD ws,?_⟩;rw[oy];exact h
theorem L8{ws:List Str}{q:Addr}(d:∃(o:Obj) (So:Array Value) (n:Nat),X.K.lookup q=some o/\o.cls=.type "tuple"/\o.data=.seq So n/\So.size<=sizeLine/\Vals (ws.map V.str) So.toList):
  OpR X (compareOp .NotIn) (λx y H Q=>∃ z,x=.str z/\y=.ref q/\Q (.bl (!decide (z∈ws))) H):=by
 intro c s σ H x y v u Q I b a h;obtain⟨z,rfl,rfl,h⟩:=h;refine uw c s σ H _ _ v u Q I b a ⟨q,ws.map V.str,rfl,.inr (.inr d),rfl,mD ws,?_⟩;rw[oy];exact h
end
section
variable{ι:Type}{c:RCl ι}{ta tv:TE}{t:TA}{f m:Str}{σ:St}{H:Hp}{Q:VK}{D:Ends}{okm:ι->Bool}{sp:ι->Sp}{sp1:Sp}{C:Addr}{K:Frag}
def gf:tMake C sp1 [] E0 t σ H Q=t σ H λvs b=>∀ x a,b x=none->b a=none->a≠x->sp1 (.ref x::(vs++[])) (upd (upd b a (.own x)) x (.ins C a [])) (λv c=>v=.non/\Q (.ref x) c) E0:=rfl
def jc{b:List Str}{a:Bool}{te:TE}:tInG b a te σ H Q=te σ H λx c=>∃ z,x=.str z/\Q (.bl (if a then !decide (z∈b) else decide (z∈b))) c:=rfl
theorem L9{p:Addr}{xs:List V}(a:H p=↥xs)(h:∀ l,H l=none->Q (.ref l) (upd H l (.tup xs))):ox K [.ref p] H Q:=by
 unfold ox;dsimp only;rw[a];exact h
end
def cntD(ns:∅):Nat:=(firstMet (λi=>ns.getD i 0) ns.length).length
def we(te:TE):TE:=λσ H Q=>te σ H λx b=>∃ p a,x=.ref p/\b p=↥(a.map V.int)/\a.length<=900/\Q (.int (cntD a:Nat)) b
def c9{te:TE}{σ:St}{H:Hp}{Q:VK}:we te σ H Q=te σ H λx a=>∃ p ns,x=.ref p/\a p=↥(ns.map V.int)/\ns.length<=900/\Q (.int (cntD ns:Nat)) a:=rfl
theorem Ma:bootBuiltins "set"=some (.type "set"):=by decide+kernel
theorem BD {X:Cx} {e:Expr} {te:TE} {p j pos a:Pos} (F:X.calm=true) (r:Gl X "len") (w:Gl X "set") (J:X.mg "len"=none) (E:X.mg "set"=none) (D:PE X e te)
  (c:starEach [.Call (.Name "set" j) [e] [] a] X.env=[(false,eval (.Call (.Name "set" j) [e] [] a) X.env)]:=by rfl) (d:starEach [e] X.env=[(false,eval e X.env)]:=by rfl):
  PE X (.Call (.Name "len" p) [.Call (.Name "set" j) [e] [] a] [] pos) (we te):=by
 intro z s σ H Q I h;refine Uf (fv I r J aN ?_ #[1] #[1]);refine VA ?_ c rfl;rw[c];show wpAny _ _ (spliced [(false,eval (.Call (.Name "set" j) [e] [] a) X.env)]) _ _ s;refine UX ?_;refine Uf (fv I w E Ma ?_ #[1] #[1]);refine Tt ?_ d rfl;rw[d];show wpAny _ _ (spliced [(false,eval e X.env)]) _ _ s;refine UX (thn (D z s σ H _ I h) λu s1 ⟨x,y,C,r1,G⟩=>?_);refine U5 ?_;obtain⟨l,g,rfl,m,A,q⟩:=G;cases r1;obtain⟨v,n,B,N,W⟩:=C.lst m;have O:s1.heap.IsList l v.toArray:=⟨_,N,rfl,n,rfl⟩;have R:IntsAre v g:=yG B;have f:=B.length;rw[Sx]at f;refine call_set_list (ns:=g) (I.ok.hd F) O (by simpa using R) (by rw[S8,← f];exact T7 (Nat.succ_le_succ A) #[1]) λL M S k=>?_;refine U5 ?_;obtain⟨o,T,U,t,h1,h2,h3,h4,h5,h6,h7,h8⟩:=S;have Y:(firstMet (λi=>g.getD i 0) v.toArray.size).length<=900:=SW (firstMet_length_le _ _) (by rw[S8,← f];exact A);refine call_len_set h1 h2 h3 h7 #[4] ?_;have K:Inv X z σ y {s1 with heap:=L,toks:=M}:=C.kept λb P e=>k b P (Tc e) e;refine⟨.int _,y,K.tok _,⟨_,rfl⟩,?_⟩;rw[h8,S8,← f];exact q
def gH:V->List V->Hp->VK->Prop
 | .str sep,[.ref p],H,Q=>bnd (unS (H p)) λys=>∃ ts:List Str,ys=ts.map V.str/\JoinOk sep ts=true/\Q (.str (Txt.join sep ts)) H
 | _,_,_,_=>False
theorem pG{X:Cx}:MtR X "str.join" gH:=by
 intro B s σ H x vs v D Q I w r h;unfold gH at h
 split at h
 . rename_i m p
   obtain⟨C,e,A,rfl,c,q⟩:=bn h;rcases rd (K:=X.K) e with g | g
   . obtain⟨t,rfl⟩:=w;obtain⟨u,rfl,j⟩:=dN r;cases j;obtain⟨y,b,i,z⟩:=I.list g;obtain⟨l,rfl,f⟩:=AF b;exact SC.join i.isList f c λd k=>⟨.str _,H,I.tok k,⟨d,rfl⟩,q⟩
   . obtain⟨t,rfl⟩:=w;obtain⟨u,rfl,j⟩:=dN r;cases j;obtain⟨y,b,i,z⟩:=I.tuple g;obtain⟨l,rfl,f⟩:=AF b;subst f;obtain⟨o,h1,h2,n,h3⟩:=i;have a:=c;unfold JoinOk at a;rw[Tg]at a;exact UK F.slot_str_join (VB _ _ _) F.entry_str_join (F.args_str_join_2 _ _) (meets_str_join_tuple m t p l a) ⟨⟨o,n,h1,h2,h3⟩,post_join l ⟨joinFit_length a,λd k=>⟨.str _,H,I.tok k,⟨d,rfl⟩,q⟩⟩⟩
 . exact h.elim
section
variable{X:Cx}{e:Expr}{te:TE}{p2 p3 p4 pos:Pos}{z0:Nat}
def yS:V->List V->Hp->VK->Prop
 | .ref l,[.int i],H,Q=>bnd (unM (H l)) λxs=>0<=i/\i<xs.length/\bnd (xs[i.toNat]?) λy=>Q y (upd H l (.lst (xs.eraseIdx i.toNat)))
 | _,_,_,_=>False
theorem seqIx{i:Int}{n:Nat}(h0:0<=i)(h1:i<n):seqIndex? i n=some i.toNat:=by
 obtain⟨k,rfl⟩:=US h0;have b:k<n:=by lia
 unfold seqIndex?;have a:¬ ((k:Int)<0):=by lia
 simp[b,a]
theorem Jk:MtR X "list.pop" yS:=by
 intro d s σ H x vs v g Q I c b h;unfold yS at h
 split at h
 . obtain⟨a,e,h0,h1,h⟩:=bn h;obtain⟨y,f,q⟩:=bn h;have j:a.length<=sizeLine:=(I.lstM (iU e)).1;have i:(sizeLine:Int)<2^63:=by decide
   exact Kx d s σ H _ _ v g Q I c b ⟨_,a,_,_,y,rfl,rfl,iU e,by lia,by lia,seqIx h0 h1,f,q⟩
 . exact h.elim
def tRevL(te:TE):TE:=λσ H Q=>te σ H λx a=>∃ p b,x=.ref p/\a p=↥b/\∀ l,a l=none->Q (.ref l) (upd a l (.lst b.reverse))
theorem Mb(B:PE X e te):PE X (.Subscript e (.Slice none none (some (.UnaryOp .USub (.Constant (.int 1) z0 p3) p4)) p2) pos) (tRevL te):=by
 have U:PE X (.UnaryOp .USub (.Constant (.int 1) z0 p3) p4) (tUn (rU λi=>.int (-i)) (tC (.int 1))):=G4 Dv ah;intro c s σ H Q I h;refine Subscript_ (thn (B c s σ H _ I h) λv s1 ⟨x,r,T,r1,D⟩=>?_);obtain⟨l,R,rfl,K,q⟩:=D;cases r1
 refine wpAny_Slice (thn (h9 c s1 σ r (λo H=>o=none/\H=r) T ⟨rfl,rfl⟩) λj G ⟨lo,k,L,O,e2⟩=>thn (h9 c G σ k (λo H=>o=none/\H=k) L ⟨rfl,rfl⟩) λg E ⟨hi,p,S,M,P⟩=>
  thn (dU U c E σ p (λo H=>o=some (-1)/\H=p) S ⟨1,rfl,-1,rfl,rfl,rfl⟩) λf a ⟨so,Z,m,J,z⟩=>?_)
 obtain⟨rfl,rfl⟩:=e2;obtain⟨rfl,rfl⟩:=P;obtain⟨rfl,rfl⟩:=z;obtain⟨d,n,y,N,hz⟩:=m.lst K;have t:a.heap.IsList l d.toArray:=⟨_,N,rfl,n,rfl⟩;have Y:=y.length;have u:Inv X c σ _ {a with heap:=a.heap.push {cls:=.type "slice",data:=.fields #[j,g,f]}}:=m.kept (t':=a.toks) λb ob q=>S5 _ q;show wpAny (model X.prog X.w) X.A (subscriptTail e (.Slice none none (some (.UnaryOp .USub (.Constant (.int 1) z0 p3) p4)) p2) (.ref l) (.ref a.heap.objs.size)) (EP X c σ Q) X.xe {a with heap:=a.heap.push {cls:=.type "slice",data:=.fields #[j,g,f]}}
 refine WR (ops:=_) (Heap.IsList.typeIs (s:={a with heap:=a.heap.push {cls:=.type "slice",data:=.fields #[j,g,f]}}) (t.push _)) F.slot_list_getitem.lookup
  (Wr (t.push _) (Heap.IsSliceOf.new ..) O M J #[1] ?_ (by rw[S8];lia)) (by with_unfolding_all rfl)
 rw[PySem.W.krv_pick];have C:d.toArray.toList.reverse.toArray=d.reverse.toArray:=by simp
 rw[C];exact⟨.ref _,_,u.lnew (t':=a.toks) (ys:=R.reverse) (So:=d.reverse) y.reverse (by rw[List.length_reverse];lia),rfl,q _ u.fresh⟩
end
section
variable{σ:St}{H:Hp}{Q:VK}{te:TE}
def jd{i j:Int}{H:Hp}{Q:VK}:kMax [.int i,.int j] H Q=Q (.int (if j>i then j else i)) H:=rfl
def gg:tRevL te σ H Q=te σ H λx a=>∃ p xs,x=.ref p/\a p=↥xs/\∀ l,a l=none->Q (.ref l) (upd a l (.lst xs.reverse)):=rfl
theorem Mc{l:Addr}{i:Int}{xs:List V}{y:V}(c:H l=↥xs)(h0:0<=i)(h1:i<xs.length)(b:xs[i.toNat]? =some y)(q:Q y (upd H l (.lst (xs.eraseIdx i.toNat)))):yS (.ref l) [.int i] H Q:=by
 show bnd (unM (H l)) _;rw[c];exact bm (a:=xs) rfl ⟨h0,h1,bm b q⟩
end
theorem Hk:typeLookup (.type "str") (Str.ofString "__int__")=pure none:=by rw[WF,Vx];kernel_rfl
theorem DS:typeLookup (.type "str") (Str.ofString "__index__")=pure none:=by rw[WF,Vx];kernel_rfl
theorem DT:typeLookup (.type "str") (Str.ofString "__trunc__")=pure none:=by rw[WF,Vx];kernel_rfl
def numC(n:Nat):List Nat:=if n<10 then [48+n] else [48+n/10,48+n%10]
variable{n:Nat}
theorem Jl(h:n<100):((tx (numC n)).cps.all λx=>decide (x<128))=true:=by
 have t:((List.range 100).all λn=>(tx (numC n)).cps.all λx=>decide (x<128))=true:=by decide+kernel
 exact SK.mp t n (SQ.mpr h)
def Jm{α:Type}{M:Model}{A:Around}{E:Value->Shared->Prop}{s:Shared}{Q:α->Shared->Prop}{m m':Sem α}(e:m=m')(h:wpAny M A m' Q E s):wpAny M A m Q E s:=e ▸ h
def gis(n:Nat)(b:n<100)(u:Tok):Gives (Builtin.«int.__new__» ⟨[.type "int",.str (tx (numC n)) u],[]⟩) (.int n):=
 .of_wp λM A E s Q h=>by
  obtain⟨k,g,d,o,l⟩:=s;have i:=PySem.F.conv_sub_int;have j:=PySem.F.madeHere_int;have e:=Hk;have c:=DS;have f:=DT
  iterate 44 (any_goals (first | assumption | wp_step))
  refine To (wpAny_of_eq (a:=some (tx (numC n))) rfl ?_);refine wpAny_of_eq (a:=some (numC n)) ?e1 ?_
  case e1=>
   show(pure (some (if ((tx (numC n)).cps.all λx=>decide (x<128))=true then(tx (numC n)).cps.toList else _)):Sem _)=_;rw[SY (Jl b),yR]
  refine Jm (m':=mkInt (n:Int)) ?e2 ?_
  case e2=>
   clear h i j e c f
   match n,b with |0,_|1,_|2,_|3,_|4,_|5,_|6,_|7,_|8,_|9,_|10,_|11,_|12,_|13,_|14,_|15,_|16,_|17,_|18,_|19,_|20,_|21,_|22,_|23,_|24,_|25,_|26,_|27,_|28,_|29,_|30,_|31,_|32,_|33,_|34,_|35,_|36,_|37,_|38,_|39,_|40,_|41,_|42,_|43,_|44,_|45,_|46,_|47,_|48,_|49,_|50,_|51,_|52,_|53,_|54,_|55,_|56,_|57,_|58,_|59,_|60,_|61,_|62,_|63,_|64,_|65,_|66,_|67,_|68,_|69,_|70,_|71,_|72,_|73,_|74,_|75,_|76,_|77,_|78,_|79,_|80,_|81,_|82,_|83,_|84,_|85,_|86,_|87,_|88,_|89,_|90,_|91,_|92,_|93,_|94,_|95,_|96,_|97,_|98,_|99,_=>kernel_rfl | (m+100),hm=>exact absurd hm #[0]
  repeat (any_goals (first | assumption | wp_step))
  all_goals first | exact⟨_,rfl,h⟩ | skip
def tm:List V->Hp->VK->Prop
 | [.int i],H,Q=>Q (.int i) H
 | [.bl k],H,Q=>Q (.int (if k then 1 else 0)) H
 | [.str z],H,Q=>∃ n:Nat,n<100/\z=tx (numC n)/\Q (.int n) H
 | _,_,_=>False
theorem yT{X:Cx}:CallR X (.type "int") tm:=by
 intro a s σ H e b Q I r h;unfold tm at h
 split at h
 . exact Bq a s σ H _ b Q I r (.inl ⟨_,rfl,h⟩)
 . exact Bq a s σ H _ b Q I r (.inr ⟨_,rfl,h⟩)
 . obtain⟨n,d,rfl,q⟩:=h;obtain⟨u,rfl,c⟩:=dN r;obtain⟨t,rfl⟩:=c;exact call_int_1 (gis n d t).meets (show(Made.int (n:Int)).post _ s from⟨rfl,⟨.int n,H,I.tok _,⟨_,rfl⟩,q⟩⟩)
 . exact h.elim
def dX{k:Bool}{H:Hp}{Q:VK}:tm [.bl k] H Q=Q (.int (if k then 1 else 0)) H:=rfl
def dY{i:Int}{H:Hp}{Q:VK}:tm [.int i] H Q=Q (.int i) H:=rfl
theorem AI(h:n<100):Str.ofString (toString (n:Int))=tx (numC n):=by
 have t:((List.range 100).all λ(n:Nat)=>decide (Str.ofString (toString (n:Int))=tx (numC n)))=true:=by decide+kernel
 simpa using SK.mp t n (SQ.mpr h)
theorem xC(h:n<100):32∉numC n:=by
 have t:((List.range 100).all λ(n:Nat)=>decide (32∉numC n))=true:=by decide+kernel
 simpa using SK.mp t n (SQ.mpr h)
theorem Nv(h:n<100):numC n≠[]:=by unfold numC;split <;> simp
theorem fI:(numC n).length<=2:=by unfold numC;split <;> simp
theorem KJ(h:n<100):((numC n).head? =some 48->n=0)/\numC 0=[48]:=by
 have t:((List.range 100).all λ(n:Nat)=>decide ((numC n).head? =some 48->n=0))=true:=by decide+kernel
 exact⟨SG (SK.mp t n (SQ.mpr h)),rfl⟩
theorem Gv(h:n<100):∀ c∈numC n,48<=c/\c<=57:=by
 have t:((List.range 100).all λ(n:Nat)=>(numC n).all λc=>decide (48<=c/\c<=57))=true:=by decide+kernel
 intro c a
 simpa using SK.mp (SK.mp t n (SQ.mpr h)) c a
local macro_rules|`(tactic|walk_at "w")=>wk9 ws1
local macro_rules|`(tactic|symm)=>`(tactic|walk_at "w")
def bH(K:Frag):Sp:=#[3,∃ a h w g,vs=[.ref a]/\IsFl H a h w g/\1<=h/\h<=6/\Q (.int (h*w)) H]
def mM(K:Frag):TS:=#[":jdXdk0ef#0 dk0ef#1 "]
variable{K:Frag}{vs:List V}{H:Hp}{Q:VK}{E:XK}
theorem Cp(h:bH K vs H Q E):mM K (eD9 Q) (start ["floor"] vs) H:=by
 obtain⟨a,h,w,g,rfl,b,h0,h1,q⟩:=h;exists mM;rw[ji b];refine bm (a:=V.int h) rfl ?_;symm;rw[ji b];refine bm (a:=V.int w) rfl ?_;exists⟨pE h0 h1,q⟩
def cornB(h w c:Int):Bool:=decide (c/w<h-1)&&decide (c%w<w-1)
def oA(K:Frag):Sp:=#[3,∃ a h w g c,vs=[.ref a,.int c]/\IsFl H a h w g/\0<w/\w<100/\∀ b,Same H b->Q (.bl (cornB h w c)) b]
def oB(K:Frag):TS:=#[":gl,'kba0a1ci#2 jNd<dk2ef#0 dVdk0ef#0 ef#1 d<dk2ef#1 dVdk0ef#1 ef#1 "]
theorem DU(h:oA K vs H Q E):oB K (eD9 Q) (start ["floor","cell","spot"] vs) H:=by
 obtain⟨a,h,w,g,c,rfl,e,l,i,k⟩:=h;exists oB;refine⟨a,h,w,g,c,rfl,e,l,i,λp j=>?_⟩;have s1:Same H (upd H p (.tup [.int (c/w),.int (c%w)])):=(SF H).laid j;have k1:=k _ s1;have b:=s1 _ _ e;have d:(upd H p (.tup [.int (c/w),.int (c%w)])) p=some (.tup [.int (c/w),.int (c%w)]):=aj;generalize upd H p (.tup [.int (c/w),.int (c%w)])=H1 at*;symm;rw[ji d];refine bm (a:=V.int (c/w)) rfl ?_;symm;rw[ji b];refine bm (a:=V.int h) rfl ?_;symm;unfold cornB at k1
 cases f:decide (c/w<h-1) with
 | false=>
  rw[f,S1]at k1;exact iteF k1
 | true=>
  rw[f,S7]at k1;refine iteT ?_;rw[ji d];refine bm (a:=V.int (c%w)) rfl ?_;symm;rw[ji b];refine bm (a:=V.int w) rfl ?_;symm;exact k1
def sqL(w c:Int):∅:=[c,c+1,c+w,c+w+1]
def oC(K:Frag):Sp:=#[3,∃ a h w g c,vs=[.ref a,.int c]/\IsFl H a h w g/\∀ p,H p=none->Q (.ref p) (upd H p (.lst ((sqL w c).map V.int)))]
def oE(K:Frag):TS:=#[":gldw1dk0ef#1 i#2 jua1adw1ef#1 a2adw2ef#1 c"]
theorem DW(h:oC K vs H Q E):oE K (eD9 Q) (start ["floor","corner","below"] vs) H:=by
 obtain⟨a,h,w,g,c,rfl,b,k⟩:=h;exists oE;rw[ji b];refine bm (a:=V.int w) rfl ?_;exists⟨lnR rfl,k⟩
def squL(h w:Int):List ∅:=((List.range (h*w).toNat).filter λ(i:Nat)=>cornB h w i).map λ(i:Nat)=>sqL w i
def j4(K:Frag):Sp:=#[3,∃ a h w g,vs=[.ref a]/\IsFl H a h w g/\FlOk h w g/\
 ∀ l b c,Same H c->H l=none->IsLL c l b (squL h w)->b.Nodup->l∉b->(∀ a∈b,H a=none)->Q (.ref l) c]
def tp(K:Frag):TS:=#[":jv&--0 [a,~bba0cci#1 z,'Tba2a1c,'Uba2a1c"]
def NewAt.ll{d:Hp}{l:Addr}{b:List Addr}{c:List ∅}(x:NewAt d H l b (c.map λxs=>.lst (xs.map V.int)))(e:H l=↥(b.map V.ref)):IsLL H l b c:=
 ⟨e,by rw[x.len,Sx],λj a xs h1 h2=>x.at_ j a _ h1 (by rw[SI,h2];rfl)⟩
theorem Hl(h:j4 K vs H Q E):tp K (eD9 Q) (start ["floor"] vs) H:=by
 obtain⟨a,h,w,g,rfl,e,F,k⟩:=h;obtain⟨h0,h1,B,z,u,v,y⟩:=F;have m:0<=h*w:=Ul #[4] #[4];exists tp;refine⟨a,h,w,g,rfl,e,h0,h1,?_⟩;exists⟨h*w,rfl,by lia,by lia,?_⟩;refine wJ (λ(i:Nat)=>cornB h w i) (λ(i:Nat)=>.lst ((sqL w i).map V.int)) #[4] ?_ ?_ ?_
 . intro i c R t s1 k1;show tB _ [none,⇑(0+(i:Int)),↑a] c R;symm;rw[UB];exact⟨a,h,w,g,_,rfl,s1 _ _ e,by lia,by lia,λb d=>⟨_,rfl,k1 b d⟩⟩
 . intro i c n t A s1 k1;show tCall _ _ _ _ [none,⇑(0+(i:Int)),↑a] c n;symm;rw[UB];exact⟨a,h,w,g,_,rfl,s1 _ _ e,λp j=>k1 p _ ((SF c).laid j) j aj⟩
 . intro l f b o d q x
   have s:NewAt H b l f ((squL h w).map λr=>.lst (r.map V.int)):=by
    unfold squL;rw[Te];exact x
   exact k l f b d o (s.ll q) x.nd x.nl x.fr
def ws4:String:="aK gf jc c9 gg dX dY jd i8 ge i9 if_true if_false Bool.false_eq_true decide_true decide_false dG dH ig cK b8 dE fE dF cJ fC fD cI ic cL cM cO cP cQ cR cN fF fG fH fA ie Bool.not_true Bool.not_false aK "++ws1
local macro_rules|`(tactic|walk_at "w")=>wk9 ws4
def nmC:RK->List Nat
 | .Rule=>[]
 | .Unlike=>s!"unlike"
 | .Sum=>s!"sum"
 | .Rising=>s!"rising"
 | .Seen=>s!"seen"
 | .Count=>s!"count"
 | .Joined=>s!"joined"
 | .NoSquare=>s!"nosquare"
 | .Ring=>s!"ring"
def ii:List Str:=[tx s!"sum",tx s!"seen",tx s!"count"]
def gI:List Str:=[tx s!"count",tx s!"joined",tx s!"nosquare",tx s!"ring"]
def gz:List Str:=[tx s!"joined",tx s!"nosquare",tx s!"ring"]
def rFs(p W C:Addr)(n m:Int):List (Str × V):=[("floor",.ref p),("words",.ref W),("cells",.ref C),("amount",.int n),("mark",.int m)]
abbrev WY:=RCl RK
structure IsRule(H:Hp)(c:WY)(k:RK)(r p:Addr)(ws:List (List Nat))(cs:∅)(n m:Int):Prop where
 ok:c.ok k=true
 ex:∃ dx W C,H r=some (.ins (c.A k) dx (rFs p W C n m))/\H W=some (.tup ((ws.map tx).map V.str))/\H C=some (.tup (cs.map V.int))
variable{H:Hp}{c:WY}{p:Addr}{cs:∅}
theorem IsRule.same{a:Hp}{k:RK}{r:Addr}{b:List (List Nat)}{n m:Int}(x:IsRule H c k r p b cs n m)(s:Same H a):IsRule a c k r p b cs n m:=by
 obtain⟨d,W,C,h1,h2,h3⟩:=x.ex;exact⟨x.ok,d,W,C,s _ _ h1,s _ _ h2,s _ _ h3⟩
section
variable{ι:Type}{c:RCl ι}{σ:St}{H:Hp}{Q:VK}{i:Nat}{r dx:Addr}{k:ι}{fs:List (Str × V)}{f m:Str}{v:V}{okm:ι->Bool}{sp:ι->Sp}{t:TA}{D:Ends}{tv:TE}{y:V}{H1:Hp}
def fldE(a:σ[i]? =some ↑r)(d:c.ok k=true)(b:H r=some (.ins (c.A k) dx fs))(e:fs.lookup f=some v)(q:Q v H):tFldK c (tVar i) f σ H Q:=sO a ⟨r,k,dx,fs,v,rfl,d,b,e,q⟩
def methE(d:σ[i]? =some ↑r)(e:okm k=true)(a:H r=some (.ins (c.A k) dx fs))(b:fs.lookup m=none)(q:t σ H λvs f=>sp k (.ref r::vs) f Q E0):aA c okm m sp (tVar i) t σ H Q:=sO d ⟨r,k,dx,fs,rfl,e,a,b,q⟩
def sfldV{j:Nat}{x:V}(b:σ[j]? =some (some x))(d:σ[i]? =some ↑r)(g:c.ok k=true)(a:H r=some (.ins (c.A k) dx fs))(e:fs.length<1000)(q:D.nx σ (upd H r (.ins (c.A k) dx (putF f x fs)))):sFldK c (tVar i) (tVar j) f D σ H:=
 sO b (sO d ⟨r,k,dx,fs,rfl,g,a,e,q⟩)
theorem sfldT {K:Frag} {j:Nat} {p:Addr} {xs:List V} (d:σ[j]? =some ↑p) (e:H p=↥xs) (g:σ[i]? =some ↑r) (m:c.ok k=true) (a:H r=some (.ins (c.A k) dx fs)) (h:fs.length<1000)
  (q:∀ l,H l=none->D.nx σ (upd (upd H l (.tup xs)) r (.ins (c.A k) dx (putF f (.ref l) fs)))):sFldK c (tVar i) (tCB (ox K) (tCons (tVar j) tNil)) f D σ H:=by
 unfold sFldK;exists sO d (L9 e λl b=>?_);exact sO g ⟨r,k,dx,fs,rfl,m,by rw[ap (aB a b)];exact a,h,q l b⟩
end
variable{Q:VK}
theorem Md{xs:List V}(a:H p=some (.tup xs))(h:∀ l,H l=none->Q (.ref l) (upd H l (.lst xs))):kList [.ref p] H Q:=by
 unfold kList;dsimp only;rw[a];exact h
variable{ts:List Str}
theorem Mf{a:Str}(c:H p=some (.tup (ts.map V.str)))(b:JoinOk a ts=true)(h:Q (.str (Txt.join a ts)) H):gH (.str a) [.ref p] H Q:=by
 unfold gH;dsimp only;rw[c];exact⟨ts,rfl,b,h⟩
theorem AJ{a:Str}(c:H p=↥(ts.map V.str))(b:JoinOk a ts=true)(h:Q (.str (Txt.join a ts)) H):gH (.str a) [.ref p] H Q:=by
 unfold gH;dsimp only;rw[c];exact⟨ts,rfl,b,h⟩
variable{K:Frag}
theorem BE {a:Addr} {k:Nat} {r:TT} {te:TE} {fin:Addr->Hp->Prop} {d:St} {c:Hp} {xs:∅} (b:Int->Bool) (f:Int->Int) (G:xs.length<=900) (v:c a=some (.tup (xs.map V.int)))
  (D:∀ x H R,x∈xs->Same c H->(∀ h,Same H h->R (b x) h)->r (d.set k ⇑x) H R)
  (w:∀ x H Q,x∈xs->b x=true->Same c H->(∀ h,Same H h->Q (.int (f x)) h)->te (d.set k ⇑x) H Q)
  (C:∀ l H,c l=none->Same c H->H l=↥(((xs.filter b).map f).map V.int)->fin l H):CompR (Itt K a) (gName k) r te fin d c:=by
 refine DR (xs:=xs.map V.int) (λl i σ H=>(σ=d\/∃ t,σ=d.set k t)/\Same c H/\H l=↥((((xs.take i).filter b).map f).map V.int)) (λl g=>⟨.inl rfl,(SF c).laid g,by rw[aj];rfl⟩) (λl i σ H _ _ p=>WO (p.2.1 _ _ v)) ?_ (λl σ H g p=>C l H g p.2.1 (by have:=p.2.2;rw[Sx,TH]at this;exact this));rintro l i x σ H g E ⟨y,s1,B⟩;obtain⟨z,n,rfl⟩:=aL E;have I:i<xs.length:=(SD.mp n).1;have q:xs.take (i+1)=xs.take i++[z]:=by rw[U9,n];rfl
 rw[be]
 have e:σ.set k ⇑z=d.set k ⇑z:=by
  rcases y with rfl | ⟨t,rfl⟩
  . rfl
  . exact Uc ..
 rw[e];refine D z H _ (SH n) s1 λA m=>?_;have j:=m _ _ B
 have u:((((xs.take i).filter b).map f).map V.int).length<sizeLine:=by
  rw[Sx,Sx];refine aH (SW (SV b _) ?_);rw[Tx];lia
 cases o:b z with
 | false=>
  rw[SS SR];refine⟨.inr ⟨_,rfl⟩,s1.trans m,?_⟩;rw[q,Tm,Tk,o]
  simpa using j
 | true=>
  rw[SY rfl];refine w z A _ (SH n) o (s1.trans m) λF s=>⟨_,s _ _ j,u,.inr ⟨_,rfl⟩,((s1.trans m).trans s).own g,?_⟩;rw[aj,q,Tm,Tk,o];simp
def AK(K:Frag)(c:WY)(k:RK):Sp:=#[3,∃ r p w a cs n m,vs=[.ref r]/\IsRule H c k r p (w::a) cs n m/\Q (.str (tx w)) H]
def gJ(K:Frag)(c:WY)(k:RK):Sp:=#[3,∃ r p a cs n m,vs=[.ref r]/\IsRule H c k r p a cs n m/\∀ l,H l=none->Q (.ref l) (upd H l (.lst (cs.map V.int)))]
def jQ(K:Frag)(c:WY)(k:RK):Sp:=#[3,∃ r p a cs n m,vs=[.ref r]/\IsRule H c k r p a cs n m/\Q (.int n) H]
def jR(K:Frag)(c:WY)(k:RK):Sp:=#[3,∃ r p a cs n m,vs=[.ref r]/\IsRule H c k r p a cs n m/\Q (.int m) H]
def wf(K:Frag)(c:WY)(k:RK):Sp:=#[3,∃ r p a cs n m,vs=[.ref r]/\IsRule H c k r p a cs n m/\a.length<=100/\(∀ w∈a,w.length<=100)/\Q (.str (tx (catL 32 a))) H]
def sgAt(xs cs:∅):∅:=cs.map λc=>xs.getD c.toNat 0
def mkAt(xs cs:∅)(m:Int):∅:=cs.filter λc=>decide (xs.getD c.toNat 0=m)
def aO(cs:∅)(n:Nat):Prop:=cs.length<=63/\∀ c∈cs,0<=c/\c<n
def gj(K:Frag)(c:WY)(k:RK):Sp:=#[3,∃ r p f d cs b n m,vs=[.ref r,.ref f]/\IsRule H c k r p d cs n m/\H f=↥(b.map V.int)/\aO cs b.length/\
 ∀ l a,Same H a->H l=none->a l=↥((sgAt b cs).map V.int)->Q (.ref l) a]
def jS(K:Frag)(c:WY)(k:RK):Sp:=#[3,∃ r p f d cs b n m,vs=[.ref r,.ref f]/\IsRule H c k r p d cs n m/\H f=↥(b.map V.int)/\aO cs b.length/\
 ∀ l a,Same H a->H l=none->a l=↥((mkAt b cs m).map V.int)->Q (.ref l) a]
def risB:∅->Bool
 | x::y::r=>decide (x<y)&&risB (y::r)
 | _=>true
def seenN(xs:∅):Int × Int:=xs.foldl (λa x=>if a.1<x then(x,a.2+1) else a) (0,0)
noncomputable def joinB (h w:Int) (ms:∅):Bool:=@decide (ms=[]\/(ms.Pairwise (· < ·)/\∀ x∈ms,RC h w ms (ms.headD 0) x)) (Classical.propDecidable _)
def twoB(h w:Int)(ms:∅)(c:Int):Bool:=decide (((besL h w c).filter λy=>decide (y∈ms)).length=2)
noncomputable def hoB (k:RK) (h w:Int) (cs:∅) (n m:Int) (xs:∅):Bool:=match k with
 | .Unlike=>decide (cntD (sgAt xs cs)=(sgAt xs cs).length)
 | .Sum=>decide ((sgAt xs cs).sum=n)
 | .Rising=>risB (sgAt xs cs)
 | .Seen=>decide ((seenN (sgAt xs cs)).2=n)
 | .Count=>decide (((mkAt xs cs m).length:Int)=n)
 | .NoSquare=>!((squL h w).any λa=>a.all λc=>decide (c∈mkAt xs cs m))
 | .Joined=>joinB h w (mkAt xs cs m)
 | .Ring=>joinB h w (mkAt xs cs m)&&(mkAt xs cs m).all (twoB h w (mkAt xs cs m))
 | _=>true
def cS(K:Frag)(c:WY)(k:RK):Sp:=#[3,∃ r p f d cs a n m h w g,vs=[.ref r,.ref f]/\IsRule H c k r p d cs n m/\IsFl H p h w g/\FlOk h w g/\H f=↥(a.map V.int)/\aO cs a.length/\(∀ x∈a,0<=x/\x<=1000)/\
 ∀ b,Same H b->Q (.bl (hoB k h w cs n m a)) b]
def j5(K:Frag)(c:WY)(k:RK):Sp:=#[3,∃ r p C d cs a n m h w g,vs=[.ref r,.ref C]/\IsRule H c k r p d cs n m/\IsFl H p h w g/\FlOk h w g/\H C=↥(a.map V.int)/\a.length<=63/\
 ∀ b,Same H b->Q (.bl (joinB h w a)) b]
def iw(K:Frag)(c:WY)(k:RK):Sp:=#[3,∃ r p C d cs a n m h w g z,vs=[.ref r,.ref C,.int z]/\IsRule H c k r p d cs n m/\IsFl H p h w g/\FlOk h w g/\H C=↥(a.map V.int)/\a.length<=63/\
 ∀ b,Same H b->Q (.bl (twoB h w a z)) b]
def aW(K:Frag)(c:WY):Sp:=#[3,∃ k x e p W C d cs n m,vs=[.ref x,.ref p,.ref W,.ref C,.int n,.int m]/\c.ok k=true/\H x=some (.ins (c.A k) e [])/\W≠x/\C≠x/\
 H W=↥((d.map tx).map V.str)/\H C=↥(cs.map V.int)/\∀ a,(∀ b o,b≠x->H b=some o->a b=some o)->IsRule a c k x p d cs n m->Q .non a]
def jk(K:Frag)(c:WY):TS:=#[":g~ch01/g~ch0q'lba2c~-g~ch0q'lba3c~Lg~ch04~D~ch05~/"]
variable{vs:List V}{E:XK}
theorem xD(h:aW K c vs H Q E):jk K c (eD9 Q) (start ["self","floor","words","cells","amount","mark"] vs) H:=by
 obtain⟨k,x,y,p,W,C,B,cs,n,m,rfl,d,z,A,u,w,s,q⟩:=h;exists jk;refine sfldV (k:=k) (j:=1) rfl rfl d z #[1] ?_;exists sfldT (k:=k) (j:=2) (p:=W) rfl (by rw[ap A];exact w) rfl d aj (by show(1:Nat)<1000;decide) λr h1=>?_;have a:r≠x:=λe=>by rw[e,aj]at h1;cases h1
 have t:H r=none:=by rw[ap a]at h1;exact h1
 exists sfldT (k:=k) (j:=3) (p:=C) rfl (by rw[ap u,ap (aB s t),ap u];exact s) rfl d aj (by show(2:Nat)<1000;decide) λl h2=>?_;have i:l≠x:=λe=>by rw[e,aj]at h2;cases h2
 have f:l≠r:=λe=>by rw[e,ap a,aj]at h2;cases h2
 have v:H l=none:=by rw[ap i,ap f,ap i]at h2;exact h2
 exists sfldV (k:=k) (j:=4) rfl rfl d aj (by show(3:Nat)<1000;decide) ?_;exists sfldV (k:=k) (j:=5) rfl rfl d aj (by show(4:Nat)<1000;decide) ?_;refine q _ (λb o g e=>?_) ⟨d,y,r,l,by rw[aj];rfl,?_,?_⟩
 . rw[ap g,ap g,ap g,ap (aB e v),ap g,ap (aB e t),ap g];exact e
 . rw[ap a,ap a,ap a,ap f.symm,ap a,aj]
 . rw[ap i,ap i,ap i,aj]
def uF(K:Frag)(c:WY):Sp:=λvs H Q E=>∃ k,AK K c k vs H Q E
def oF(K:Frag)(c:WY):TS:=#[":jdkJh0~-ef#0 "]
theorem DX(h:uF K c vs H Q E):oF K c (eD9 Q) (start ["self"] vs) H:=by
 obtain⟨k,r,p,w,a,cs,n,m,rfl,x,q⟩:=h;obtain⟨d,W,C,h1,h2,h3⟩:=x.ex;exists oF;refine fldE rfl x.ok h1 (v:=.ref W) (by rfl) ?_;symm;have b:atI (((w::a).map tx).map V.str) 0=some (V.str (tx w)):=fw (j:=0) rfl;exact ixT h2 b q
def tZ(K:Frag)(c:WY):Sp:=λvs H Q E=>∃ k,gJ K c k vs H Q E
def mN(K:Frag)(c:WY):TS:=#[":jqYaJh0~Lc"]
theorem Cq(h:tZ K c vs H Q E):mN K c (eD9 Q) (start ["self"] vs) H:=by
 obtain⟨k,r,p,b,cs,n,m,rfl,x,q⟩:=h;obtain⟨a,W,C,h1,h2,h3⟩:=x.ex;exists mN;refine fldE rfl x.ok h1 (v:=.ref C) (by rfl) ?_;exists Md h3 q
def rh(K:Frag)(c:WY):Sp:=λvs H Q E=>∃ k,jQ K c k vs H Q E
def lG(K:Frag)(c:WY):TS:=#[":jJh0~D"]
theorem AL(h:rh K c vs H Q E):lG K c (eD9 Q) (start ["self"] vs) H:=by
 obtain⟨k,r,p,b,cs,n,m,rfl,x,q⟩:=h;obtain⟨a,W,C,h1,h2,h3⟩:=x.ex;exists lG;exact fldE rfl x.ok h1 (v:=.int n) (by rfl) q
def uG(K:Frag)(c:WY):Sp:=λvs H Q E=>∃ k,jR K c k vs H Q E
def oG(K:Frag)(c:WY):TS:=#[":jJh0~/"]
theorem DY(h:uG K c vs H Q E):oG K c (eD9 Q) (start ["self"] vs) H:=by
 obtain⟨k,r,p,b,cs,n,m,rfl,x,q⟩:=h;obtain⟨a,W,C,h1,h2,h3⟩:=x.ex;exists oG;exact fldE rfl x.ok h1 (v:=.int m) (by rfl) q
def uH(K:Frag)(c:WY):Sp:=λvs H Q E=>∃ k,wf K c k vs H Q E
def oH(K:Frag)(c:WY):TS:=#[":jGb~s~Mexy`0aJh0~-c",[32]]
theorem DZ(h:uH K c vs H Q E):oH K c (eD9 Q) (start ["self"] vs) H:=by
 obtain⟨k,r,p,f,cs,n,m,rfl,x,e,hw,q⟩:=h;obtain⟨d,W,C,h1,h2,h3⟩:=x.ex;exists oH;refine⟨yM,fldE rfl x.ok h1 (v:=.ref W) (by rfl) ?_⟩;exists Mf h2 (j3 (by rw[Sx];lia) (λt a=>by obtain⟨y,b,rfl⟩:=SL.mp a;rw[bW];have:=hw y b;lia) (by rw[bW];decide)) ?_;rw[sZ,oh];exact q
def oI(K:Frag)(c:WY):Sp:=λvs H Q E=>∃ k,gj K c k vs H Q E
def jm(K:Frag)(c:WY):TS:=#[":jv&--1 ~NbJh0~Li#1 Cdk21"]
theorem xE(h:oI K c vs H Q E):jm K c (eD9 Q) (start ["self","filling"] vs) H:=by
 obtain⟨k,r,p,f,w,cs,d,n,m,rfl,x,i,⟨u,j⟩,q⟩:=h;obtain⟨t,W,C,h1,h2,h3⟩:=x.ex;ac_nf;unfold jm;rw[cV,AH];refine fldE rfl x.ok h1 (v:=.ref C) (by rfl) ?_;refine⟨C,rfl,⟨_,WO h3⟩,?_⟩;refine BE (xs:=cs) (λ_=>true) (λc=>d.getD c.toNat 0) #[4] h3 ?_ ?_ ?_
 . intro x a R y s1 k1;exact k1 _ (SF _)
 . intro z a e o s s1 k1;show tOp cIx _ _ [none,⇑z,↑f] a e;symm;have:=j z o;exact ixI (s1 _ _ i) this.1 #[4] (k1 _ (SF _))
 . intro l a g s1 b;rw[aY]at b;exact q l a s1 g b
def oJ(K:Frag):Sp:=#[3,∃ n:Nat,vs=[.str (tx (numC n))]/\n<100/\∀ a,Same H a->Q (.int n) a]
def oK(K:Frag):TS:=#[":goOmdrb0exy=Omd>qAa0cef#9 ~dmdrbdk0ef#0 exy`0mdDb0exy`0je:pgoPzqZav&-- 'V0i#1 CdKbB1exy`1cje:pjq'ma0c",[48],s!"0123456789"]
theorem Nw{c:Nat}(h0:48<=c)(h1:c<=57):(!(Builtin.Str.occurrences (tx s!"0123456789") ⟨#[c]⟩ 0 (tx s!"0123456789").length 1).isEmpty)=true:=by
 have t:((List.range 58).all λc=>!decide (48<=c)||!(Builtin.Str.occurrences (tx s!"0123456789") ⟨#[c]⟩ 0 (tx s!"0123456789").length 1).isEmpty)=true:=by decide+kernel
 have:=SK.mp t c (SQ.mpr #[4])
 simpa [h0] using this
theorem Ea(h:oJ K vs H Q E):oK K (eD9 Q) (start ["word"] vs) H:=by
 obtain⟨n,rfl,k,q⟩:=h;have f:=Nv k;have y:=fI (n:=n);ac_nf;unfold oK;rw[aK,aF];symm;rw[bF,SE f];refine iteF ⟨by rw[bW];exact aX #[4],?_⟩;symm;rw[bW,SE (show ¬ (9:Int) < ((numC n).length:Nat) by lia)];refine iteF ?_;rw[Ow,bW,yR]
 obtain⟨c,r,ec⟩:∃ c r,numC n=c::r:=by
  cases e:numC n with
  | nil=>exact absurd e f
  | cons c r=>exact⟨c,r,rfl⟩
 refine⟨aX #[4],bm (a:=c) (by rw[ec];exact fw (j:=0) rfl) ?_⟩;symm
 have e1:decide ((⟨#[c]⟩:Str)=tx [48])=decide (c=48):=by
  have:(⟨#[c]⟩:Str)=tx [c]:=rfl;rw[this,bF];simp
 rw[e1,bF]
 have e2:(decide (c=48)=true->decide (numC n=[48])=true):=by
  intro h;rw[Sz]at h;have:=(KJ k).1 (by rw[ec,h];rfl);subst this;decide
 have d:tSeq (tIfS (tNot (tB (tCB kAll (tCons (tComp [none,none] (iStr (tVar 0)) (gName 1) tTrue (tOp (cIn K false) (tVar 1) (tC (.str (tx s!"0123456789"))))) tNil)))) (tRet (tC .non)) tNext) (tRet (tCB tm (tCons (tVar 0) tNil)))
   (eD9 Q) [some (.str (tx (numC n)))] H:=by
  rw[aK,aF];exists Jj (cs:=numC n) (λ_=>true) (λ_=>.bl true) #[4] ?_ ?_ ?_
  . intro i c g R m s1 k1;exact k1 _ (SF _)
  . intro i c g o m s s1 k1;have p:=Gv k c (SH m);show tOp (cIn K false) _ _ [none,some (.str (tx [c]))] g o;symm;have u:=k1 _ (SF g);show o (.bl (if false=true then _ else !(Builtin.Str.occurrences (tx s!"0123456789") (tx [c]) 0 (tx s!"0123456789").length 1).isEmpty)) g;rw[SS SR,show tx [c]=⟨#[c]⟩ from rfl,Nw p.1 p.2];exact u
  . intro l g x s1 t
    have w:((List.range (numC n).length).filter λ_=>true).map (λ_=>V.bl true)=(List.replicate (numC n).length true).map V.bl:=by
     rw[aY,List.map_const',TW,Wc]
    rw[w]at t;refine j2 t ?_
    have v:(List.replicate (numC n).length true).all id=true:=by
     rw[SK];intro b s;exact(We.mp s).2
    rw[v];exists⟨n,k,rfl,q _ s1⟩
 cases m:decide (c=48) with
 | false=>
  refine iteF ?_;exact d
 | true=>
  refine iteT ?_;rw[e2 m];exact d
def fX(K:Frag):Sp:=#[3,∃ n c b,vs=[.str (tx (numC n)),.int c,.int b]/\n<100/\c<=n/\n<=b/\∀ a,Same H a->Q (.int n) a]
def jn(K:Frag):TS:=#[":gl,'Wba0ci#3 goOmd~:3e:Omd<31md>32Upj3"]
theorem xG(h:fX K vs H Q E):jn K (eD9 Q) (start ["word","least","most","number"] vs) H:=by
 obtain⟨n,c,b,rfl,a,h0,h1,q⟩:=h;exists jn;refine⟨n,rfl,a,λd s1=>?_⟩;symm;rw[aF];symm;rw[SE (show ¬ V.int n=V.non from λe=>nomatch e)];refine iteF ?_;rw[SE (show ¬ (n:Int)<c by lia)];refine iteF ?_;rw[SE (show ¬ b < (n:Int) by lia)];refine iteF ?_;exists q _ s1
def WOk(a:List (List Nat)):Prop:=∀ w∈a,∀ c∈w,c<128
variable{w:List Nat}
def WOk.cons{b:List (List Nat)}(h:∀ c∈w,c<128)(d:WOk b):WOk (w::b):=λv a=>by
 rcases SU.mp a with rfl | a
 . exact h
 . exact d v a
variable{n:Nat}
def AM(h:n<100):∀ c∈numC n,c<128:=λc a=>by have:=Gv h c a;omega
theorem Hm(h:∀ c∈w,c<128):PyData.strOk (tx w)=true:=by
 unfold PyData.strOk;simp[tx];intro c a;have:=h c a;lia
def WOk.strs{a:List (List Nat)}(h:WOk a):∀ x∈a.map tx,PyData.strOk x=true:=λx b=>by
 obtain⟨w,hw,rfl⟩:=SL.mp b;exact Hm (h w hw)
def d4(K:Frag):Sp:=#[3,∃ p n b d c,vs=[.ref p,.int d,.int c]/\H p=↥(((numC n::b).map tx).map V.str)/\n<100/\WOk b/\d<=n/\n<=c/\∀ a,Same H a->Q (.int n) a]
def j6(K:Frag):TS:=#[":gomdrb0ucUpj,'nbadk0ef#0 a1a2c"]
theorem DVs.strs{K:Frag}{H:Hp}:∀ ns:List Str,DVs K H (ns.map V.str) (ns.map PyData.str)
 | []=>.nil
 | n::r=>.cons (.str n) (DVs.strs r)
theorem pH(a b:Str):PyData.eqv (.str a) (.str b)=decide (a=b):=by
 rw[PyData.eqv];by_cases h:a=b
 . subst h;simp
 . simp[h]
theorem ma(ns:List Str)(b:∀ x∈ns,PyData.strOk x=true):SeqAt.shaped (.list (ns.map PyData.str))=true:=by
 have h1:PyData.canLayAll0 (ns.map PyData.str)=true:=rf λd a=>by obtain⟨x,c,rfl⟩:=SL.mp a;rw[PyData.canLay0];exact b x c
 have h2:PyData.depthAll (ns.map PyData.str)<=0:=pF λd a=>by obtain⟨x,_,rfl⟩:=SL.mp a;exact SZ _
 simp[SeqAt.shaped,PyData.canLay0,h1,PyData.depth];lia
variable{xs:List Str}
theorem Ny{q:Addr}{ys:List Str}(a:H p=↥(xs.map V.str))(b:H q=↥(ys.map V.str))(h1:∀ x∈xs,PyData.strOk x=true)(h2:∀ x∈ys,PyData.strOk x=true)(h:Q (.bl (decide (xs=ys))) H):cEq K (.ref p) (.ref q) H Q:=by
 show rEqD K (.ref p) (.ref q) H Q;refine⟨.list (xs.map PyData.str),.list (ys.map PyData.str),.lst (ST a) (.strs xs),.lst (ST b) (.strs ys),ma xs h1,ma ys h2,?_⟩;rw[PyData.eqv,wd PyData.str pH];exact h
theorem Nz{q:Addr}{ys:List Str}(a:H p=↥(xs.map V.str))(b:H q=↥(ys.map V.str))(h1:∀ x∈xs,PyData.strOk x=true)(h2:∀ x∈ys,PyData.strOk x=true)(h:Q (.bl (!decide (xs=ys))) H):cNe K (.ref p) (.ref q) H Q:=by
 show rNeD K (.ref p) (.ref q) H Q;refine⟨.list (xs.map PyData.str),.list (ys.map PyData.str),.lst (ST a) (.strs xs),.lst (ST b) (.strs ys),ma xs h1,ma ys h2,?_⟩;rw[PyData.eqv,wd PyData.str pH];exact h
theorem yU(h:d4 K vs H Q E):j6 K (eD9 Q) (start ["words","least","most"] vs) H:=by
 obtain⟨p,n,g,d,k,rfl,a,b,hw,h0,h1,q⟩:=h;ac_nf;unfold j6;rw[aK,aF];exists⟨aX #[1],λl e=>?_⟩;have s1:Same H (upd H l (.lst [])):=(SF H).laid e;refine Ny (s1 _ _ a) (ys:=[]) aj (WOk.strs (WOk.cons (AM b) hw)) (λx i=>nomatch i) ?_;generalize upd H l (.lst [])=H1 at*;symm;rw[SE (by simp)];refine iteF ?_;symm;have f:atI (((numC n::g).map tx).map V.str) 0=some (V.str (tx (numC n))):=fw (j:=0) rfl;refine ixL (s1 _ _ a) f ?_;exists⟨n,d,k,rfl,b,h0,h1,λm c=>q _ (s1.trans c)⟩
theorem KK(a:∅)(v:Int):(step_dedup a v).length<=a.length+1:=by
 unfold step_dedup
 split <;> simp
theorem Eb:∀(l a:∅),(l.foldl step_dedup a).length<=a.length+l.length
 | [],a=>by simp
 | x::r,a=>by
  have h1:=Eb r (step_dedup a x);have h2:=KK a x;rw[Ti,S2];lia
theorem wL:∀(l c:∅),c.Nodup->((l.foldl step_dedup c).length=c.length+l.length↔(c++l).Nodup)
 | [],c,h=>by simpa using h
 | x::r,c,h=>by
  rw[Ti];by_cases d:x∈c
  . have e:step_dedup c x=c:=by
     unfold step_dedup;rw[SY (by simpa using d)]
    rw[e];have:=Eb r c;constructor
    . intro z;rw[S2]at z;lia
    . intro z;have:=(Uk.mp z).2.2 x d x SN;exact absurd rfl this
  . have e:step_dedup c x=c++[x]:=by
     unfold step_dedup;rw[SS (by simpa using d)]
    rw[e];have j:(c++[x]).Nodup:=Uk.mpr ⟨h,by simp,λa g b i z=>d (by rw[SO.mp i]at z;exact z ▸ g)⟩;have f:=wL r (c++[x]) j;rw[Ta,WI]at f;rw[S2,show c.length+(r.length+1)=c.length+1+r.length by lia,show c++x::r=c++[x]++r by simp];exact f
theorem AN(ns:∅):(List.range ns.length).map (λi=>ns.getD i 0)=ns:=by
 have:=i7 ns (λx=>x)
 simpa using this
theorem xH(ns:∅):cntD ns=ns.length↔ns.Nodup:=by
 unfold cntD firstMet;rw[AN];have:=wL ns [] UT
 simpa using this
def mO(K:Frag):Sp:=#[3,∃(a p:Addr) (h w g:Int) (b:List Nat),vs=[.ref a,.ref p]/\IsFl H a h w g/\FlOk h w g/\H p=↥(((b.map numC).map tx).map V.str)/\b≠[]/\b.length<=16/\(∀ n∈b,(n:Int)<h*w)/\b.Nodup/\
 ∀ l c,Same H c->H l=none->c l=↥((b.map λ(n:Nat)=>(n:Int)).map V.int)->Q (.ref l) c]
def mP(K:Frag):TS:=#[":g~e#2 &--0 sb1i#1 C,'nba1aef#0 adV,~bba2cef#1 cgomdrb2ucUpgomdDb'o2qAa2cUpj2"]
variable{ns:List Nat}
theorem yV(h:ns.Nodup):(ns.map λ(n:Nat)=>(n:Int)).Nodup:=by
 induction ns with
 | nil=>exact UT
 | cons a r ih=>
  rw[Ty]at h;rw[S6,Ty];refine⟨λz=>?_,ih h.2⟩;obtain⟨b,hb,e⟩:=SL.mp z
  exact h.1 (by have:b=a:=by lia
                exact this ▸ hb)
theorem Cr(h:mO K vs H Q E):mP K (eD9 Q) (start ["floor","words","cells"] vs) H:=by
 obtain⟨a,p,h,w,g,ns,rfl,B,F,r,k,s,m,j,q⟩:=h;obtain⟨h0,h1,N,J,C,G,I⟩:=F;exists mP;refine⟨⟨_,ST r⟩,?_⟩;refine bK (xs:=((ns.map numC).map tx).map V.str) (λ_=>true) (λi=>.int (ns.getD i 0:Nat)) (by simp;lia) (ST r) ?_ ?_ ?_
 . intro i x c R d s1 k1;exact k1 _ (SF _)
 . intro i x c t d M s1 k1;rw[SI,SI,SI]at d
   cases e:ns[i]? with
   | none=>rw[e]at d;cases d
   | some n=>
    rw[e]at d;cases d;have L:=m n (SH e);show tCall _ _ _ _ [none,some (.str (tx (numC n))),↑a] c t;exists⟨a,h,w,g,rfl,s1 _ _ B,h0,h1,?_⟩;exists⟨n,0,_,rfl,by lia,by lia,by lia,λu b=>?_⟩;have o:=k1 _ b;have y:ns.getD i 0=n:=by rw[List.getD,e];rfl
    rw[y]at o;exact o
 . intro l c v s1 f
   have D:((List.range (((ns.map numC).map tx).map V.str).length).filter λ_=>true).map (λi=>V.int (ns.getD i 0:Nat))=(ns.map λ(n:Nat)=>(n:Int)).map V.int:=by
    rw[aY,Sx,Sx,Sx,Te];refine T5 λi=>?_;rw[SI,SI];by_cases h:i<ns.length
    . rw[Tz h,Sy h];simp[List.getD,h]
    . rw[S0 (by simpa using h),S0 #[4]];rfl
   rw[D]at f;symm;rw[aF];exists⟨aX #[1],λz A=>?_⟩;have b:Same c (upd c z (.lst [])):=(SF c).laid A;refine wc (b _ _ f) (ys:=[]) aj ?_;generalize upd c z (.lst [])=u at*;symm;rw[SE (by simpa using k)];refine iteF ?_;symm;rw[aF];exists⟨l,_,rfl,b _ _ f,by rw[Sx];lia,?_⟩;rw[aZ (b _ _ f),Sx];symm;rw[SB (by rw[(xH _).mpr (yV j)])];refine iteF ?_;exists q l _ (s1.trans b) v (b _ _ f)
def allK:RK->Bool
 | .Joined=>true
 | .NoSquare=>true
 | .Ring=>true
 | _=>false
def numK:RK->Bool
 | .Sum=>true
 | .Seen=>true
 | .Count=>true
 | _=>false
def sgnK:RK->Bool
 | .Count=>true
 | .Joined=>true
 | .NoSquare=>true
 | .Ring=>true
 | _=>false
theorem NA(k:RK):decide (tx (nmC k)∈gz)=allK k:=by cases k <;> decide+kernel
theorem NB(k:RK):decide (tx (nmC k)∈ii)=numK k:=by cases k <;> decide+kernel
theorem NC(k:RK):decide (tx (nmC k)∈gI)=sgnK k:=by cases k <;> decide+kernel
structure AO(k:RK)(h w:Int)(ns:List Nat)(cs:∅):Prop where
 told:allK k=false->ns≠[]/\ns.length<=16/\(∀ n∈ns,(n:Int)<h*w)/\ns.Nodup/\cs=ns.map λ(n:Nat)=>(n:Int)
 all:allK k=true->ns=[]/\cs=rngL 0 (h*w)
def qB(K:Frag):Sp:=#[3,∃ k a p h w g ns cs,vs=[.ref a,.str (tx (nmC k)),.ref p]/\IsFl H a h w g/\FlOk h w g/\H p=↥(((ns.map numC).map tx).map V.str)/\AO k h w ns cs/\(∀ n∈ns,n<100)/\
 ∀ l b,Same H b->H l=none->b l=↥(cs.map V.int)->Q (.ref l) b]
def qC(K:Frag):TS:=#[":goz~E'XR1j,'Yba0a2cpgomdDb2ucUpj~;a,~bba0cc"]
theorem FJ(h:qB K vs H Q E):qC K (eD9 Q) (start ["floor","name","words"] vs) H:=by
 obtain⟨k,a,p,h,w,g,ns,cs,rfl,e,F,f,i,A,q⟩:=h;obtain⟨h0,h1,B,v,o,y,u⟩:=id F;have c:0<=h*w:=Ul #[4] #[4];ac_nf;unfold qC;rw[aK,aF];symm;rw[NA]
 cases j:allK k with
 | false=>
  obtain⟨t,s,r,n,rfl⟩:=i.told j;exists⟨a,p,h,w,g,ns,rfl,e,F,f,t,s,r,n,q⟩
 | true=>
  obtain⟨rfl,rfl⟩:=i.all j;symm;rw[aF];exists⟨aX #[1],λz m=>?_⟩;have s1:Same H (upd H z (.lst [])):=(SF H).laid m;refine Nz (xs:=[]) (ys:=[]) (s1 _ _ f) aj (λx b=>nomatch b) (λx b=>nomatch b) ?_;generalize upd H z (.lst [])=H1 at*;exists⟨a,h,w,g,rfl,s1 _ _ e,h0,h1,?_⟩;exists⟨h*w,rfl,by lia,by lia,λl d=>?_⟩;exact q l _ (s1.laid d) (s1.free d) aj
def tq(K:Frag)(c:WY):Sp:=#[3,∃ k p W C b cs n m,vs=[.ref p,.ref W,.ref C,.int n,.int m]/\k≠.Rule/\c.ok k=true/\H W=↥(((nmC k::b).map tx).map V.str)/\H C=↥(cs.map V.int)/\
 ∀ r a,Same H a->H r=none->IsRule a c k r p (nmC k::b) cs n m->Q (.ref r) a]
def tu(K:Frag)(c:WY):TS:=#[":gldk1ef#0 i#5 gomdrb5exy`0j;~f'Z~gbh=?a0a1a2a3a4cpgomdrb5exy`1j;~f'*~gbh=?a0a1a2a3a4cpgomdrb5exy`2j;~f'+~gbh=?a0a1a2a3a4cpgomdrb5exy`3j;~f'-~gbh=?a0a1a2a3a4cpgomdrb5exy`4j;~f'/~gbh=?a0a1a2a3a4cpgomdrb5exy`5j;~f':~gbh=?a0a1a2a3a4cpgomdrb5exy`6j;~f';~gbh=?a0a1a2a3a4cpgomdrb5exy`7j;~f'?~gbh=?a0a1a2a3a4cpU",s!"unlike",s!"sum",s!"rising",s!"seen",s!"count",s!"joined",s!"nosquare",s!"ring"]
theorem Mg{k:RK}{W C:Addr}{j:List (List Nat)}{n m:Int}(s:c.ok k=true)(h:H W=↥((j.map tx).map V.str))(g:H C=↥(cs.map V.int))(q:∀ r f,Same H f->H r=none->IsRule f c k r p j cs n m->Q (.ref r) f):
  ∀ x d,H x=none->H d=none->d≠x->aW K c (.ref x::([.ref p,.ref W,.ref C,.int n,.int m]++[])) (upd (upd H d (.own x)) x (.ins (c.A k) d [])) (λv t=>v=.non/\Q (.ref x) t) E0:=by
 intro x d a i w;refine⟨k,x,d,p,W,C,j,cs,n,m,rfl,s,aj,aB h a,aB g a,?_,?_,λf u l=>⟨rfl,q x f (λb o e=>u b o (aB e a) ?_) a l⟩⟩
 . rw[ap (aB h a),ap (aB h i)];exact h
 . rw[ap (aB g a),ap (aB g i)];exact g
 . rw[ap (aB e a),ap (aB e i)];exact e
theorem Hn(h:tq K c vs H Q E):tu K c (eD9 Q) (start ["floor","words","cells","amount","mark","name"] vs) H:=by
 obtain⟨k,p,W,C,r,cs,n,m,rfl,s,o,a,d,q⟩:=h;have mk:=Mg (K:=K) o a d q;have f:atI (((nmC k::r).map tx).map V.str) 0=some (V.str (tx (nmC k))):=fw (j:=0) rfl;exists tu;refine ixL a f ?_
 have D:∀(l:List Nat) (t:TS) (u:TS) (D:Ends) (b:Bool),decide (nmC k=l)=b->(if b=true then t D [↑p,↑W,↑C,⇑n,⇑m,some (.str (tx (nmC k)))] H else u D [↑p,↑W,↑C,⇑n,⇑m,some (.str (tx (nmC k)))] H)->
   tIfS (tTest (tOp (cEq K) (tVar 5) (tC (.str (tx l))))) t u D [↑p,↑W,↑C,⇑n,⇑m,some (.str (tx (nmC k)))] H:=λl t u D b g e=>by
  rw[aF];symm;rw[bF,g];exact e
 have R:∀(D:Ends),D.rt=Q->tRet (tMake (c.A k) (aW K c) [] E0 (tCons (tVar 0) (tCons (tVar 1) (tCons (tVar 2) (tCons (tVar 3) (tCons (tVar 4) tNil)))))) D [↑p,↑W,↑C,⇑n,⇑m,some (.str (tx (nmC k)))] H:=λD i=>by
  symm;rw[i];exact mk
 cases k with
 | Rule=>exact absurd rfl s
 | Unlike=>exact D _ _ _ _ true #[1] (iteT (R _ rfl))
 | Sum=>exact D _ _ _ _ false #[1] (iteF (D _ _ _ _ true #[1] (iteT (R _ rfl))))
 | Rising=>exact D _ _ _ _ false #[1] (iteF (D _ _ _ _ false #[1] (iteF (D _ _ _ _ true #[1] (iteT (R _ rfl))))))
 | Seen=>exact D _ _ _ _ false #[1] (iteF (D _ _ _ _ false #[1] (iteF (D _ _ _ _ false #[1] (iteF (D _ _ _ _ true #[1] (iteT (R _ rfl))))))))
 | Count=>exact D _ _ _ _ false #[1] (iteF (D _ _ _ _ false #[1] (iteF (D _ _ _ _ false #[1] (iteF (D _ _ _ _ false #[1] (iteF (D _ _ _ _ true #[1] (iteT (R _ rfl))))))))))
 | Joined=>exact D _ _ _ _ false #[1] (iteF (D _ _ _ _ false #[1] (iteF (D _ _ _ _ false #[1] (iteF (D _ _ _ _ false #[1] (iteF (D _ _ _ _ false #[1] (iteF (D _ _ _ _ true #[1] (iteT (R _ rfl))))))))))))
 | NoSquare=>exact D _ _ _ _ false #[1] (iteF (D _ _ _ _ false #[1] (iteF (D _ _ _ _ false #[1] (iteF (D _ _ _ _ false #[1] (iteF (D _ _ _ _ false #[1] (iteF (D _ _ _ _ false #[1] (iteF (D _ _ _ _ true #[1] (iteT (R _ rfl))))))))))))))
 | Ring=>exact D _ _ _ _ false #[1] (iteF (D _ _ _ _ false #[1] (iteF (D _ _ _ _ false #[1] (iteF (D _ _ _ _ false #[1] (iteF (D _ _ _ _ false #[1] (iteF (D _ _ _ _ false #[1] (iteF (D _ _ _ _ false #[1] (iteF (D _ _ _ _ true #[1] (iteT (R _ rfl))))))))))))))))
def rowW(k:RK)(n m:Nat)(ns:List Nat):List (List Nat):=nmC k::((if numK k then [numC n] else [])++(if sgnK k then [numC m] else [])++ns.map numC)
structure Ec(k:RK)(h w g:Int)(n m:Nat)(ns:List Nat)(cs:∅):Prop where
 k0:k≠.Rule
 n0:n<=99
 nz:numK k=false->n=0
 m0:sgnK k=true->1<=(m:Int)/\(m:Int)<=g
 mz:sgnK k=false->m=0
 cl:AO k h w ns cs
 ns0:∀ x∈ns,x<100
 len:ns.length<=16
def j7(K:Frag)(c:WY):Sp:=#[3,∃ k p h w g n m ns cs,vs=[.ref p,.str (tx (catL 32 (rowW k n m ns)))]/\IsFl H p h w g/\FlOk h w g/\Ec k h w g n m ns cs/\c.ok k=true/\
 ∀ r a,Same H a->H r=none->IsRule a c k r p (rowW k n m ns) cs n m->Q (.ref r) a]
def gA(K:Frag)(c:WY):TS:=#[":j,'[bha0a2a,']ba0a3a4ca5a6c"]
def j8(K:Frag)(c:WY):TS:=#[":gldk2ef#0 i#3 gl]^2*ef#1 ~pi#4 glef#0 i#5 glef#0 i#6 goz~E'^B3gl,'pba4aef#0 aef#99 ci#5 l]^4*ef#1 ~pi#4 pgoz~E{aB3gl,'pba4aef#1 adk0ef#2 ci#6 l]^4*ef#1 ~pi#4 p{bbh"]
def oM(K:Frag)(c:WY):TS:=#[":goPzq~Fa1ae~G~scUpglGb~s{c1aexy`0ci#2 {dbh",[32]]
theorem Mh(k:RK):32∉nmC k:=by cases k <;> decide
variable{m:Nat}
theorem Jn{k:RK}(c:n<100)(b:m<100)(d:∀ x∈ns,x<100):∀ r∈rowW k n m ns,32∉r:=by
 intro r a;unfold rowW at a;rcases SU.mp a with rfl | a
 . exact Mh k
 rcases SX.mp a with a | a
 . rcases SX.mp a with a | a
   . split at a
     . rw[SO.mp a];exact xC c
     . cases a
   . split at a
     . rw[SO.mp a];exact xC b
     . cases a
 . obtain⟨x,e,rfl⟩:=SL.mp a;exact xC (d x e)
theorem KL(xs:List V):cutV xs (some 1) none=xs.drop 1:=by
 unfold cutV;have h1:HT.sIx xs.length 0 (some 1)=min 1 xs.length:=HT.sIx_nat ..;have h2:HT.sIx xs.length xs.length none=xs.length:=rfl;rw[h1,h2]
 cases xs with
 | nil=>rfl
 | cons x r=>
  have:min 1 (x::r).length=1:=by simp
  rw[this];show(r).take _=r;rw[Tj (by simp)]
theorem pI {k:RK} {W R:Addr} {h w g:Int} {b:List (List Nat)} {t:V} (F:FlOk h w g) (j:IsFl H p h w g) (f:H W=↥(((nmC k::b).map tx).map V.str)) (d:H R=↥(((ns.map numC).map tx).map V.str)) (v:AO k h w ns cs) (o:∀ x∈ns,x<100) (k0:k≠.Rule) (s:c.ok k=true)
  (q:∀ r a,Same H a->H r=none->IsRule a c k r p (nmC k::b) cs n m->Q (.ref r) a):
  gA K c (eD9 Q) [↑p,some t,↑W,some (.str (tx (nmC k))),↑R,⇑n,⇑m] H:=by
 unfold gA;exists⟨k,p,R,h,w,g,ns,cs,rfl,j,F,d,v,o,λl A s1 z y=>?_⟩;exists⟨k,p,W,l,b,cs,n,m,rfl,k0,s,s1 _ _ f,y,λr u i e x=>q r u (s1.trans i) (s1.free e) x⟩
theorem wM{k:RK}(h:ns.length<=16):(rowW k n m ns).length<=100/\∀ w∈rowW k n m ns,w.length<=100:=by
 unfold rowW;refine⟨?_,λw hw=>?_⟩
 . simp only[S2,Ta,Sx]
   split <;> split <;> simp <;> lia
 . rcases SU.mp hw with rfl | hw
   . cases k <;> decide
   have h2:∀ x,(numC x).length<=100:=λx=>SW fI #[1];rcases SX.mp hw with hw | hw
   . rcases SX.mp hw with hw | hw
     . split at hw
       . rw[SO.mp hw];exact h2 _
       . cases hw
     . split at hw
       . rw[SO.mp hw];exact h2 _
       . cases hw
   . obtain⟨x,a,rfl⟩:=SL.mp hw;exact h2 _
theorem yW:∀(Sl:List (List Nat)),(∀ r∈Sl,r.length<=100)->(catL 32 Sl).length<=101*Sl.length
 | [],_=>TF _
 | [x],h=>by
  have:=h x SN;show x.length<=101*1;lia
 | x::y::r,h=>by
  have h1:=h x SN;have b:=yW (y::r) λz a=>h z (SM _ a);have e:catL 32 (x::y::r)=x++32::catL 32 (y::r):=by first | rfl | simp[catL]
  rw[e,Ta,S2,S2];lia
theorem AQ{x:Str}(a:H p=↥((x::xs).map V.str))(q:∀ l,H l=none->Q (.ref l) (upd H l (.lst (xs.map V.str)))):lF (.ref p) (some 1) none H Q:=by
 refine sW a λl b=>?_;rw[KL];exact q l b
theorem yX {k:RK} {W:Addr} {h w g:Int} {N:V} (F:FlOk h w g) (I:IsFl H p h w g) (A:H W=↥(((rowW k n m ns).map tx).map V.str)) (O:Ec k h w g n m ns cs) (M:c.ok k=true)
  (q:∀ r E,Same H E->H r=none->IsRule E c k r p (rowW k n m ns) cs n m->Q (.ref r) E):
  j8 K c (eD9 Q) [↑p,some N,↑W,none,none,none,none] H:=by
 obtain⟨k0,n0,nz,S,Y,L,l,ac⟩:=O;obtain⟨h0,h1,w0,w1,ab,g0,g1⟩:=id F;have T:atI (((rowW k n m ns).map tx).map V.str) 0=some (V.str (tx (nmC k))):=fw (j:=0) rfl;have y:WOk (ns.map numC):=λv d=>by obtain⟨x,hx,rfl⟩:=SL.mp d;exact AM (l x hx)
 unfold j8;exists ixL A T ?_;exists AQ A λR Z=>?_;obtain⟨H1,U,s1,t⟩:=aU (.lst ((((if numK k then [numC n] else [])++(if sgnK k then [numC m] else [])++ns.map numC).map tx).map V.str)) Z;rw[U];symm
 have u:∀{z:Hp} {B:Addr},Same H z->z B=↥((((if sgnK k then [numC m] else [])++ns.map numC).map tx).map V.str)->
   tSeq (tIfS (tB (tInG gI false (tVar 3))) (tSeq (tAsg (tCall (d4 K) [] E0 (tCons (tVar 4) (tCons (tC (.int 1)) (tCons (tOp cIx (tVar 0) (tC (.int 2))) tNil)))) (gName 6)) (tAsg (tSl lF (tVar 4) (tPart (tC (.int 1))) gi) (gName 4))) tNext) (gA K c) (eD9 Q)
    [↑p,some N,↑W,some (.str (tx (nmC k))),↑B,⇑n,⇑0] z:=by
  intro z B s a;rw[aK,aF];symm;rw[NC]
  cases o:sgnK k with
  | false=>
   rw[o]at a;have:=Y o;subst this;exists pI F (s _ _ I) (s _ _ A) a L l k0 M λr b f G x=>q r b (s.trans f) (s.free G) x
  | true=>
   rw[o]at a;have P:=S o;exists ixT (s _ _ I) (v:=V.int g) rfl ?_;exists⟨B,m,ns.map numC,1,g,rfl,a,by lia,y,P.1,P.2,λb f=>?_⟩;exists AQ (f _ _ a) λD i=>?_;have C:Same b (upd b D (.lst (((ns.map numC).map tx).map V.str))):=(SF b).laid i;have e:=(s.trans f).trans C;exact pI F (e _ _ I) (e _ _ A) aj L l k0 M λr H5 X G x=>q r H5 (e.trans X) (e.free G) x
 rw[aF];symm;rw[NB]
 cases J:numK k with
 | false=>
  rw[J]at t;have:=nz J;subst this;exists u s1 t
 | true=>
  rw[J]at t;exists⟨R,n,(if sgnK k then [numC m] else [])++ns.map numC,0,99,rfl,t,by lia,?_,by lia,by lia,λb f=>?_⟩
  . intro v d;rcases SX.mp d with d | d
    . split at d
      . rename_i o
        have:=S o;rw[SO.mp d];exact AM #[4]
      . cases d
    . exact y v d
  exists AQ (f _ _ t) λD i=>?_;have C:Same b (upd b D (.lst ((((if sgnK k then [numC m] else [])++ns.map numC).map tx).map V.str))):=(SF b).laid i;exists u ((s1.trans f).trans C) aj
theorem Ed(h:j7 K c vs H Q E):oM K c (eD9 Q) (start ["floor","line","words","name","rest","amount","mark"] vs) H:=by
 obtain⟨k,p,h,w,g,n,m,ns,cs,rfl,l,F,O,s,q⟩:=h
 have o:m<100:=by
  by_cases e:sgnK k=true
  . have:=(O.m0 e).2;have:=F.g1;lia
  . have:=O.mz (by simpa using e);lia
 have a:Txt.split (tx (catL 32 (rowW k n m ns))) (tx [32])=(rowW k n m ns).map tx:=KI (by simp[rowW]) (Jn (by have:=O.n0;lia) o O.ns0);have d:=wM (k:=k) (n:=n) (m:=m) O.len;have b:=yW _ d.2;ac_nf;unfold oM;rw[aK,aF];exists⟨yM,?_⟩;rw[L3,a];refine⟨by rw[bW];decide,by rw[bW];exact Tv (T7 b (T7 (Nat.mul_le_mul_left 101 d.1) #[1])),by rw[Sx];exact aX #[4],λW i=>?_⟩;have s1:Same H (upd H W (.lst (((rowW k n m ns).map tx).map V.str))):=(SF H).laid i;exact yX F (s1 _ _ l) aj O s λr t j f x=>q r t (s1.trans j) (s1.free f) x
def dJ(ns:∅)(k:Int):Int:=(if 0 < (ns.length:Int) then k*k*7919+104729*k+11+ns.getD (k%ns.length).toNat 0%10^30*(48271+k/ns.length) else k*k*7919+104729*k+11)%2147483629
def bZ(K:Frag):Sp:=#[3,∃ a ns k,vs=[.ref a,.int k]/\SqL K H a (ns.map V.int)/\ns.length<=63/\0<=k/\k<=10000/\Q (.int (dJ ns k)) H]
def mQ(K:Frag):TS:=#[":gldwdwdXdX11ef#7919 dXef#104729 1ef#11 i#2 gomd>q~?ba0cef#0 gldLd{eb0dL1q~?ba0cd{fef#10 ef#30 i#3 ldw2dX3dwef#48271 d~o1q~?ba0ci#2 pjdL2ef#2147483629 "]
theorem Cs(h:bZ K vs H Q E):mQ K (eD9 Q) (start ["_law_script","_law_k","_law_number","_law_cell"] vs) H:=by
 obtain⟨a,ns,k,rfl,c,i,k0,k1,q⟩:=h;exists mQ;have g:k*k<=10000*10000:=Int.mul_le_mul k1 k1 k0 #[1];have e:0<=k*k:=Ul k0 k0;refine⟨.inl ⟨by lia,by lia⟩,.inr ⟨by decide,by decide⟩,.inl ⟨by decide,by decide⟩,?_⟩;rw[aF];exists⟨a,_,rfl,.inl c,?_⟩;symm;rw[Sx];unfold dJ at q;by_cases b:0 < (ns.length:Int)
 . rw[SY b]at q;rw[SB b];refine iteT ⟨a,_,rfl,.inl c,?_⟩;symm;rw[Sx];have f:=Uo k (WT b);have d:=T8 k b;refine⟨b,a,_,_,_,rfl,rfl,c,xy f d,?_⟩;exists⟨⟨by decide,by decide,by decide⟩,by decide,a,_,rfl,.inl c,?_⟩;symm;rw[Sx];refine⟨⟨b,by lia⟩,.inr ⟨?_,?_⟩,?_⟩
   . have:0<=k / (ns.length:Int):=Int.ediv_nonneg k0 #[4];lia
   . have:k / (ns.length:Int)<=k:=Int.ediv_le_self _ k0;lia
   . exists⟨by decide,q⟩
 . rw[SS b]at q;rw[SE b];refine iteF ?_;exists⟨by decide,q⟩
theorem BF{α β:Type}(f:α->β):∀(l:List α) (j:Nat),(l.map f).eraseIdx j=(l.eraseIdx j).map f
 | [],_=>rfl
 | _::_,0=>rfl
 | x::r,j+1=>by
  show f x::(r.map f).eraseIdx j=f x::(r.eraseIdx j).map f;rw[BF f r j]
theorem yY{α:Type}:∀(l:List α) (j:Nat) (h:j<l.length),(l[j]::l.eraseIdx j).Perm l
 | [],_,h=>absurd h (by simp)
 | x::r,0,_=>List.Perm.refl _
 | x::r,j+1,h=>by
  have a:j<r.length:=by simpa using h
  have b:=yY r j a;show(r[j]::x::r.eraseIdx j).Perm (x::r);exact(List.Perm.swap x r[j] (r.eraseIdx j)).trans (List.Perm.cons x b)
theorem uI{α β:Type}(f:α->β):∀{l:List α},(l.map f).Nodup->l.Nodup
 | [],_=>UT
 | a::r,h=>by
  rw[S6,Ty]at h;rw[Ty];exact⟨λz=>h.1 (SL.mpr ⟨a,z,rfl⟩),uI f h.2⟩
theorem BG(n:Int):(rngL 0 n).Nodup:=by
 unfold rngL;have e:(List.range (n-0).toNat).map (λ(k:Nat)=>0+(k:Int))=(List.range (n-0).toNat).map λ(k:Nat)=>(k:Int):=Vf λk _=>by lia
 rw[e];exact yV VD
theorem wg{n x:Int}(h:x∈rngL 0 n):0<=x/\x<n:=by
 unfold rngL at h;obtain⟨k,a,rfl⟩:=SL.mp h;have:=SQ.mp a;lia
def fJ(K:Frag):Sp:=#[3,∃(a:Addr) (ns:∅) (e d b:Int),vs=[.ref a,.int e,.int d,.int b]/\SqL K H a (ns.map V.int)/\ns.length<=63/\0<=e/\e<=1000/\d<=16/\0<=b/\b<=d/\
 ∀(l:Addr) (f:Hp) (cs:List Nat),Same H f->H l=none->f l=↥((cs.map λ(n:Nat)=>(n:Int)).map V.int)->cs.Nodup->(∀ c∈cs,(c:Int)<d)->(cs.length:Int)=b->Q (.ref l) f]
def lH(K:Frag):TS:=#[":gl~;a2ci#4 gluci#5 gI[a3ci#6 TGbMW5aGbM{g4adL,~qba0adw16cqAa4cccj5"]
theorem AR(h:fJ K vs H Q E):lH K (eD9 Q) (start ["_law_script","_law_at","_law_many","_law_count","_law_left","_law_found","_law_k"] vs) H:=by
 obtain⟨a,ns,l,b,k,rfl,T,O,Z,a1,X,W,c1,q⟩:=h;exists lH;refine⟨b,rfl,by lia,by lia,λL C=>?_⟩;obtain⟨U,N,s1,G⟩:=aU (.lst ((rngL 0 b).map V.int)) C;rw[N];exists⟨aX #[1],λR p=>?_⟩;have m:R≠L:=λe=>by rw[e,G]at p;cases p
 refine⟨k,rfl,by lia,by lia,?_⟩
 refine pA (λi σ z=>∃(v:Option V) (d f:∅),σ=[↑a,⇑l,⇑b,⇑k,↑L,↑R,v]/\Same H z/\z L=↥(f.map V.int)/\z R=↥(d.map V.int)/\(d++f).Perm (rngL 0 b)/\d.length=i)
  ⟨none,[],rngL 0 b,rfl,s1.laid p,by rw[ap m.symm];exact G,by rw[aj];rfl,List.Perm.refl _,rfl⟩ ?_ ?_
 . rintro i σ u Y ⟨v,d,f,rfl,s,e1,e2,o,w⟩;have I:=o.length_eq;rw[Ta,dI]at I;exists⟨br e2,br e1,a,ns,_,rfl,s.seq T,O,by lia,by lia,?_⟩;symm;rw[aZ e1,Sx];have g:0 < (f.length:Int):=by lia
   have P:=Uo (dJ ns (l+(0+(i:Int)))) (WT g);have j1:=T8 (dJ ns (l+(0+(i:Int)))) g;refine⟨g,?_⟩;generalize dJ ns (l+(0+(i:Int))) % (f.length:Int)=j at*;have B:j.toNat<f.length:=by lia
   refine Mc e1 P (by rw[Sx];lia) (y:=V.int f[j.toNat]) (by rw[SI,Sy B];rfl) ?_;have A:(upd u L (.lst ((f.map V.int).eraseIdx j.toNat))) R=↥(d.map V.int):=by rw[ap m];exact e2
   symm;rw[fV A];refine⟨by rw[Sx];exact aH #[4],_,d++[f[j.toNat]],f.eraseIdx j.toNat,rfl,(s.own C).own (s1.free p),?_,?_,?_,by simp[w]⟩
   . rw[ap m.symm,aj,BF]
   . rw[aj];simp
   . have S:=yY f j.toNat B;have M:=List.Perm.append_left d S;refine List.Perm.trans ?_ o;rw[TJ];exact M
 . rintro σ u ⟨v,d,f,rfl,s,e1,e2,o,w⟩;symm;have t:(d++f).Nodup:=o.nodup_iff.mpr (BG b);have F:∀ x∈d,0<=x/\x<b:=λx r=>wg (o.mem_iff.mp (SX.mpr (.inl r)))
   have D:(d.map Int.toNat).map (λ(n:Nat)=>(n:Int))=d:=by
    rw[Te]
    conv=>rhs;rw[← List.map_id d]
    exact Vf λx r=>by have:=F x r;show((x.toNat:Nat):Int)=x;lia
   refine q R u (d.map Int.toNat) s (s1.free p) (by rw[D];exact e2) ?_ ?_ ?_
   . have h1:=(Uk.mp t).1;rw[← D]at h1;exact uI _ h1
   . intro c J;obtain⟨x,r,rfl⟩:=SL.mp J;have:=F x r;lia
   . rw[Sx,w];lia
def pJ(K:Frag)(c:WY):Sp:=cS K c .Unlike
def j9(K:Frag)(c:WY):TS:=#[":glthE~O~Pbh0a1ci#2 jdrb'o2qAa2c"]
theorem yZ(h:pJ K c vs H Q E):j9 K c (eD9 Q) (start ["self","filling","signs"] vs) H:=by
 obtain⟨r,p,f,i,cs,xs,n,m,h,w,g,rfl,x,s,F,j,b,v,q⟩:=h;obtain⟨u,W,C,h1,h2,h3⟩:=x.ex;exists j9;refine methE rfl x.ok h1 (by rfl) ?_;exists⟨r,p,f,i,cs,xs,n,m,rfl,x,j,b,λl t s1 o d=>?_⟩;have k:(sgAt xs cs).length<=100:=by unfold sgAt;rw[Sx];exact SW b.1 #[1]
 exists⟨l,_,rfl,d,by lia,?_⟩;symm;rw[aZ d,Sx];symm;have a:=q _ s1;unfold hoB at a;dsimp only at a
 have e:decide (((cntD (sgAt xs cs):Nat):Int)=((sgAt xs cs).length:Nat))=decide (cntD (sgAt xs cs)=(sgAt xs cs).length):=by
  rw[Tb,Sz,Sz];lia
 rw[e];exact a
theorem wN(xs:∅)(i:Nat)(y:Int):(xs.map V.int).set i (.int y)=(xs.set i y).map V.int:=by rw[List.map_set]
theorem AS(h:n<100):((n:Int)).natAbs.log2<1920:=by
 have t:((List.range 100).all λn=>decide (n.log2<1920))=true:=by decide+kernel
 have:=SK.mp t n (SQ.mpr h)
 simpa using this
theorem Mi(h:n<100)(q:Q (.str (tx (numC n))) H):kStr [.int (n:Int)] H Q:=by
 refine⟨AS h,?_⟩;rw[AI h];exact q
theorem uJ {C:Addr} {cs:List Nat} {fin:Addr->Hp->Prop} (o:H C=↥((cs.map λ(n:Nat)=>(n:Int)).map V.int)) (r:cs.length<=100) (p:∀ c∈cs,c<100)
  (k:∀ l d,H l=none->Same H d->d l=↥(((cs.map numC).map tx).map V.str)->fin l d):CompR (Itl K C) (gName 1) tTrue (tCB kStr (tCons (tVar 1) tNil)) fin [none,none] H:=by
 refine bK (xs:=(cs.map λ(n:Nat)=>(n:Int)).map V.int) (λ_=>true) (λi=>.str (tx (numC (cs.getD i 0)))) (by simp;lia) (ST o) ?_ ?_ ?_
 . intro i x a R b s1 k1;exact k1 _ (SF _)
 . intro i x a g b s s1 k1;rw[SI,SI]at b
   cases e:cs[i]? with
   | none=>rw[e]at b;cases b
   | some n=>
    rw[e]at b;cases b;show tCB kStr _ [none,⇑(n:Int)] a g;symm;have j:=k1 _ (SF a);have m:cs.getD i 0=n:=by rw[List.getD,e];rfl
    rw[m]at j;have:=Mi (H:=a) (Q:=g) (p n (SH e)) j;exact this
 . intro l a f s1 q;refine k l a f s1 ?_;rw[q,aY,Sx,Sx,Te,Te]
   congr 2
   refine T5 λi=>?_;rw[SI,SI];by_cases h:i<cs.length
   . rw[Tz h,Sy h];simp[List.getD,h]
   . rw[S0 (by simpa using h),S0 #[4]];rfl
theorem d5{c:Nat}{x:List Nat}:∀{a:List (List Nat)},a≠[]->catL c (x::a)=x++c::catL c a
 | [],h=>absurd rfl h
 | y::r,_=>by first | rfl | simp[catL]
section
variable{X:Cx}{a:Expr}{ta:TE}{pos p:Pos}{x:Str}{ws:List Str}
theorem y0(G:GTup X.K X.mg x ws)(g:PE X a ta)(l:Gl X x)(c:(x==("__debug__":Str))=false:=by decide)(i:behindInMarks .In (.Name x p)=false:=by with_unfolding_all rfl):PT X (.Compare a [.In] [.Name x p] pos) (tB (tInG ws false ta)):=by
 obtain⟨q,o,j,n,h1,h2⟩:=G.ex;have h0:=ao (pos:=pos) (Nu ⟨o,j,n,h2⟩) g (cG (v:=V.ref q) l h1 rfl c) i;intro f s σ H Q I h;refine h0 f s σ H Q I ?_
 have e:(λ(x:V) (b:Hp)=>∃ z,x=.str z/\∃ k,V.bl (if false=true then !decide (z∈ws) else decide (z∈ws))=.bl k/\Q k b)=λx b=>∃ z,x=.str z/\(V.ref q=V.ref q)/\∃ k,V.bl (decide (z∈ws))=.bl k/\Q k b:=by
  funext x b;simp
 have d:ta σ H (λ(x:V) (b:Hp)=>∃ z,x=.str z/\∃ k,V.bl (if false=true then !decide (z∈ws) else decide (z∈ws))=.bl k/\Q k b):=h;rw[e]at d;exact d
theorem Mj(G:GTup X.K X.mg x ws)(g:PE X a ta)(l:Gl X x)(c:(x==("__debug__":Str))=false:=by decide)(i:behindInMarks .NotIn (.Name x p)=false:=by with_unfolding_all rfl):PT X (.Compare a [.NotIn] [.Name x p] pos) (tB (tInG ws true ta)):=by
 obtain⟨q,o,j,n,h1,h2⟩:=G.ex;have h0:=ao (pos:=pos) (L8 ⟨o,j,n,h2⟩) g (cG (v:=V.ref q) l h1 rfl c) i;intro f s σ H Q I h;refine h0 f s σ H Q I ?_
 have e:(λ(x:V) (b:Hp)=>∃ z,x=.str z/\∃ k,V.bl (if true=true then !decide (z∈ws) else decide (z∈ws))=.bl k/\Q k b)=λx b=>∃ z,x=.str z/\(V.ref q=V.ref q)/\∃ k,V.bl (!decide (z∈ws))=.bl k/\Q k b:=by
  funext x b;simp
 have d:ta σ H (λ(x:V) (b:Hp)=>∃ z,x=.str z/\∃ k,V.bl (if true=true then !decide (z∈ws) else decide (z∈ws))=.bl k/\Q k b):=h;rw[e]at d;exact d
end
inductive PzK where
 | Puzzle
 deriving DecidableEq
structure RR where
 k:RK
 n:Nat
 m:Nat
 ns:List Nat
 cs:∅
def RR.ws(r:RR):List (List Nat):=rowW r.k r.n r.m r.ns
def RR.txt(r:RR):Str:=tx (catL 32 r.ws)
def RR.Ok(r:RR)(h w g:Int):Prop:=Ec r.k h w g r.n r.m r.ns r.cs
structure IsRules(H:Hp)(c:WY)(p L:Addr)(rs:List Addr)(Sl:List RR):Prop where
 top:H L=↥(rs.map V.ref)
 len:rs.length=Sl.length
 at_:∀(i:Nat) (r:Addr) (x:RR),rs[i]? =some r->Sl[i]? =some x->IsRule H c x.k r p x.ws x.cs x.n x.m
variable{H:Hp}{c:WY}{p L:Addr}{rs:List Addr}{Sl:List RR}
def IsRules.same{a:Hp}(x:IsRules H c p L rs Sl)(s:Same H a):IsRules a c p L rs Sl:=
 ⟨s _ _ x.top,x.len,λi r y h1 h2=>(x.at_ i r y h1 h2).same s⟩
variable{a:Addr}{cs:∅}{xs:List V}{o:HO}
theorem IsRule.lst{k:RK}{r:Addr}{d:List (List Nat)}{n m:Int}(x:IsRule H c k r p d cs n m)(b:H a=↥xs):IsRule (upd H a o) c k r p d cs n m:=by
 obtain⟨f,W,C,h1,h2,h3⟩:=x.ex;refine⟨x.ok,f,W,C,?_,?_,?_⟩
 . rw[ap (λe=>by rw[e,b]at h1;cases h1)];exact h1
 . rw[ap (λe=>by rw[e,b]at h2;cases h2)];exact h2
 . rw[ap (λe=>by rw[e,b]at h3;cases h3)];exact h3
def pFs(p L G:Addr):List (Str × V):=[("floor",.ref p),("laws",.ref L),("given",.ref G)]
structure b9(c:WY)(h w g:Int)(Sl:List RR):Prop where
 F:FlOk h w g
 n:Sl.length<=12
 ok:∀ r∈Sl,r.Ok h w g
 c:∀ r∈Sl,c.ok r.k=true
structure CluesOk(h w g:Int)(cl:∅):Prop where
 len:cl.length=(h*w).toNat
 ok:∀ x∈cl,0<=x/\x<=g
abbrev WZ:=RCl PzK
structure IsPz(H:Hp)(c:WY)(d:WZ)(P L G:Addr)(h w g:Int)(Sl:List RR)(cl:∅):Prop where
 ok:d.ok .Puzzle=true
 R:b9 c h w g Sl
 C:CluesOk h w g cl
 gv:H G=↥(cl.map V.int)
 ex:∃ dx p rs,H P=some (.ins (d.A .Puzzle) dx (pFs p L G))/\IsFl H p h w g/\IsRules H c p L rs Sl
variable{d:WZ}{h w g:Int}{cl:∅}
theorem IsPz.same{a:Hp}{P G:Addr}(x:IsPz H c d P L G h w g Sl cl)(s:Same H a):IsPz a c d P L G h w g Sl cl:=by
 obtain⟨b,p,rs,h1,h2,h3⟩:=x.ex;exact⟨x.ok,x.R,x.C,s _ _ x.gv,b,p,rs,s _ _ h1,s _ _ h2,h3.same s⟩
theorem IsPz.lst{P G:Addr}(x:IsPz H c d P L G h w g Sl cl)(b:H a=↥xs)(j:a≠L)(f:a≠G):IsPz (upd H a o) c d P L G h w g Sl cl:=by
 obtain⟨k,p,rs,h1,h2,h3⟩:=x.ex;refine⟨x.ok,x.R,x.C,by rw[ap f.symm];exact x.gv,k,p,rs,?_,?_,⟨by rw[ap j.symm];exact h3.top,h3.len,λi r y e1 e2=>(h3.at_ i r y e1 e2).lst b⟩⟩
 . rw[ap (λe=>by rw[e,b]at h1;cases h1)];exact h1
 . show(upd H a o) p=_;rw[ap (λe=>by rw[e]at h2;rw[show H a=_ from h2]at b;cases b)];exact h2
def iX(K:Frag):Sp:=#[3,∃ i:Int,vs=[.int i]/\Q (.bl true) H]
def qD(K:Frag):TS:=#[":jNq~Fa0ae~G~[c~]q~Fa0ae~G{hc"]
variable{K:Frag}{vs:List V}{Q:VK}{E:XK}
theorem FK(h:iX K vs H Q E):qD K (eD9 Q) (start ["value"] vs) H:=by
 obtain⟨i,rfl,q⟩:=h;exists qD;exact q
def cD(K:Frag):Sp:=#[3,∃ i m:Int,vs=[.int i,.int m]/\Q (.bl (decide (1<=i)&&decide (i<=m))) H]
def iy(K:Frag):TS:=#[":jN,~^ba0cNd(ef#1 0d(01"]
theorem wn(h:cD K vs H Q E):iy K (eD9 Q) (start ["value","most"] vs) H:=by
 obtain⟨i,m,rfl,q⟩:=h;exists iy;refine⟨i,rfl,⟨true,rfl,iteT ?_⟩⟩;symm
 cases a:decide (1<=i) with
 | false=>
  rw[a,S1]at q;exact iteF q
 | true=>
  rw[a,S7]at q;exact iteT q
def qE(K:Frag):Sp:=#[3,∃ h w g:Int,vs=[.int h,.int w,.int g]/\FlOk h w g/\∀ p,H p=none->Q (.ref p) (upd H p (.tup [.int h,.int w,.int g]))]
def qF(K:Frag):TS:=#[":goPz,~Qba0aef#6 cUpgoPz,~Qba1aef#6 cUpgomd>dX01ef#16 UpgoPz,~Qba2aef#6 cUpjQa0a1a2c"]
theorem FL(h:qE K vs H Q E):qF K (eD9 Q) (start ["high","wide","signs"] vs) H:=by
 obtain⟨h,w,g,rfl,F,q⟩:=h;obtain⟨h0,h1,e,c,b,d,a⟩:=id F;ac_nf;unfold qF;rw[aK,aF];exists⟨h,6,rfl,⟨_,rfl,?_⟩⟩;rw[SB h0,SB h1,VJ];refine iteF ?_;rw[aF];exists⟨w,6,rfl,⟨_,rfl,?_⟩⟩;rw[SB e,SB c,VJ];refine iteF ?_;rw[aF];exists⟨pE h0 h1,?_⟩;rw[SE (show ¬ (16:Int)<h*w by lia)];refine iteF ?_;rw[aF];exists⟨g,6,rfl,⟨_,rfl,?_⟩⟩;rw[SB d,SB a,VJ];refine iteF ?_;exists⟨lnR rfl,q⟩
def jo(K:Frag):Sp:=#[3,∃ p h w g,vs=[.ref p]/\IsFl H p h w g/\FlOk h w g/\∀ p,H p=none->Q (.ref p) (upd H p (.tup [.int h,.int w,.int g]))]
def jp(K:Frag):TS:=#[":goOPzq~Fa0ae~G{icmdDbqAa0cef#3 Upj,{jbadk0ef#0 adk0ef#1 adk0ef#2 c"]
theorem xI(h:jo K vs H Q E):jp K (eD9 Q) (start ["floor"] vs) H:=by
 obtain⟨p,h,w,g,rfl,a,F,q⟩:=h;ac_nf;unfold jp;rw[aK,aF];exists Nt a ?_;symm;rw[Nm a,show(([V.int h,V.int w,V.int g]:List V).length:Int)=3 from rfl];exists ixT a (v:=V.int h) rfl ?_;exists ixT a (v:=V.int w) rfl ?_;exists ixT a (v:=V.int g) rfl ?_;exists⟨h,w,g,rfl,F,q⟩
def mR(K:Frag)(c:WY):Sp:=#[3,∃ p a h w g Sl,vs=[.ref p,.ref a]/\IsFl H p h w g/\H a=↥((Sl.map RR.txt).map V.str)/\b9 c h w g Sl/\
 ∀ l rs b,Same H b->H l=none->IsRules b c p l rs Sl->Q (.ref l) b]
def mS(K:Frag)(c:WY):TS:=#[":gomd>qAa1cef#12 Upjv&--0 sb1i#1 C,'qbha2a1c"]
theorem Ct(h:mR K c vs H Q E):mS K c (eD9 Q) (start ["floor","lines"] vs) H:=by
 obtain⟨p,a,h,w,g,Sl,rfl,N,B,O,q⟩:=h;have S:=O.n;ac_nf;unfold mS;rw[aK,aF];symm;rw[aZ B,Sx,Sx];symm;rw[SE (show ¬ (12:Int) < (Sl.length:Nat) by lia)];refine iteF ?_;exists⟨⟨_,ST B⟩,?_⟩
 refine pC (xs:=(Sl.map RR.txt).map V.str) (λl i σ t=>(∃ D,σ=[none,D,↑p])/\Same H t/\∃ rs:List Addr,t l=↥(rs.map V.ref)/\rs.length=i/\∀(j:Nat) (r:Addr) (x:RR),rs[j]? =some r->Sl[j]? =some x->IsRule t c x.k r p x.ws x.cs x.n x.m)
  (λl o=>⟨⟨none,rfl⟩,(SF H).laid o,[],by rw[aj];rfl,rfl,λj r x e=>by simp at e⟩) (λl i σ t _ _ x=>x.2.1.seq (ST B)) ?_ ?_
 . rintro l i x σ v o s ⟨⟨D,rfl⟩,s1,rs,d,u,b⟩;rw[SI,SI]at s
   cases e:Sl[i]? with
   | none=>rw[e]at s;cases s
   | some y=>
    rw[e]at s;cases s;have T:=(SD.mp e).1;have G:=SH e;rw[be];show tTrue [none,some (.str y.txt),↑p] v _;exists⟨y.k,p,h,w,g,y.n,y.m,y.ns,y.cs,rfl,s1 _ _ N,O.F,O.ok y G,O.c y G,λr R f C J=>?_⟩;have M:r≠l:=λz=>by rw[z,d]at C;cases C
    refine⟨_,f _ _ d,by rw[Sx];exact aH #[4],⟨_,rfl⟩,(s1.trans f).own o,rs++[r],by rw[aj];simp,by simp[u],λj L P h1 h2=>?_⟩;by_cases I:j<rs.length
    . rw[Tn I]at h1;exact((b j L P h1 h2).same f).lst (f _ _ d)
    . rw[Tp #[4]]at h1
      have A:j-rs.length=0:=by
       have:=(SD.mp h1).1;simp at this;lia
      rw[A]at h1;have:j=i:=by lia
      subst this;rw[e]at h2;simp at h1;cases h2;subst h1;exact J.lst (f _ _ d)
 . rintro l σ v o ⟨_,s1,rs,d,u,b⟩;exact q l rs v s1 o ⟨d,by rw[u];simp,b⟩
def filB(a g:Int)(n:Nat)(xs:∅):Bool:=decide (xs.length=n)&&xs.all λx=>decide (a<=x)&&decide (x<=g)
def je(K:Frag):Sp:=#[3,∃ p a h w g b xs,vs=[.ref p,.ref a,.int b]/\IsFl H p h w g/\FlOk h w g/\H a=↥(xs.map V.int)/\xs.length<=100/\∀ c,Same H c->Q (.bl (filB b g (h*w).toNat xs)) c]
def mT(K:Frag):TS:=#[":goOPzq~Fa1ae~GMcmdDbqAa1c,~bba0cjeHBpjqZav&--02 sb1i#1 CN,~^ba1cNd(31d(1dk2ef#2 c"]
theorem Cu(h:je K vs H Q E):mT K (eD9 Q) (start ["floor","filling","least"] vs) H:=by
 obtain⟨p,a,h,w,g,b,xs,rfl,m,F,e,C,q⟩:=h;obtain⟨h0,h1,I,G,A,B,D⟩:=id F;have n:0<=h*w:=Ul #[4] #[4];ac_nf;unfold mT;rw[aK,aF];exists Nr e ?_;symm;rw[aZ e,Sx];exists⟨p,h,w,g,rfl,m,h0,h1,?_⟩;symm;unfold filB at q;by_cases j:xs.length=(h*w).toNat
 . rw[SB (show(xs.length:Int)=h*w by lia)];rw[SB j]at q;exists⟨⟨_,ST e⟩,?_⟩;refine bK (xs:=xs.map V.int) (λ_=>true) (λi=>.bl (decide (b<=xs.getD i 0)&&decide (xs.getD i 0<=g))) (by rw[Sx];lia) (ST e) ?_ ?_ ?_
   . intro i x d R o s1 k1;exact k1 _ (SF _)
   . intro i x d r o f s1 k1;obtain⟨z,u,rfl⟩:=aL o;have c:=k1 _ (SF d);rw[bJ u]at c;show tAndV _ _ [none,⇑z,↑p,⇑b] d r;exists⟨z,rfl,⟨true,rfl,iteT ?_⟩⟩;symm
     cases f:decide (b<=z) with
     | false=>
      rw[f,S1]at c;exact iteF c
     | true=>
      rw[f,S7]at c;refine iteT ?_;exists ixT (s1 _ _ m) (v:=V.int g) rfl ?_;symm;exact c
   . intro l d s s1 k
     have y:((List.range (xs.map V.int).length).filter λ_=>true).map (λi=>V.bl (decide (b<=xs.getD i 0)&&decide (xs.getD i 0<=g)))=(xs.map λx=>decide (b<=x)&&decide (x<=g)).map V.bl:=by
      rw[aY,Sx];refine T5 λi=>?_;rw[SI,SI,SI];by_cases h:i<xs.length
      . rw[Tz h,Sy h];simp[List.getD,h]
      . rw[S0 (by simpa using h),S0 #[4]];rfl
     rw[y]at k;refine j2 k ?_;have t:(xs.map λx=>decide (b<=x)&&decide (x<=g)).all id=xs.all λx=>decide (b<=x)&&decide (x<=g):=by rw[Ur];rfl
     rw[t];exact q _ s1
 . rw[SE (show ¬ (xs.length:Int)=h*w by lia)];rw[SE j]at q;exists q _ (SF _)
def jq(K:Frag):Sp:=#[3,∃ p a h w g xs,vs=[.ref p,.ref a]/\IsFl H p h w g/\FlOk h w g/\H a=↥(xs.map V.int)/\CluesOk h w g xs/\∀ l b,Same H b->H l=none->b l=↥(xs.map V.int)->Q (.ref l) b]
def jr(K:Frag):TS:=#[":goPz,'rba0a1aef#0 cUpjqYa1c"]
theorem CluesOk.fil{xs:∅}(C:CluesOk h w g xs):filB 0 g (h*w).toNat xs=true:=by
 unfold filB;rw[SB C.len,S7,SK];intro x a;have:=C.ok x a;simp[this.1,this.2]
theorem xJ(h:jq K vs H Q E):jr K (eD9 Q) (start ["floor","clues"] vs) H:=by
 obtain⟨p,a,h,w,g,xs,rfl,d,F,b,C,q⟩:=h;obtain⟨h0,h1,m,i,e,j,f⟩:=id F;ac_nf;unfold jr;rw[aK,aF];exists⟨p,a,h,w,g,0,xs,rfl,d,F,b,by have:=C.len;lia,λk s1=>?_⟩;rw[C.fil];refine⟨true,rfl,iteF ?_⟩;exists iW (s1 _ _ b) λl c=>?_;exact q l _ (s1.laid c) (s1.free c) aj
theorem IsRule.ins{k:RK}{r:Addr}{f:List (List Nat)}{n m:Int}{C h:Addr}{fs:List (Str × V)}(x:IsRule H c k r p f cs n m)(b:H a=some (.ins C h fs))(i:fs.length≠5):IsRule (upd H a o) c k r p f cs n m:=by
 obtain⟨d,W,g,h1,h2,h3⟩:=x.ex;refine⟨x.ok,d,W,g,?_,?_,?_⟩
 . rw[ap (λe=>by rw[e,b]at h1;cases h1;exact i rfl)];exact h1
 . rw[ap (λe=>by rw[e,b]at h2;cases h2)];exact h2
 . rw[ap (λe=>by rw[e,b]at h3;cases h3)];exact h3
def IsRules.ins{C d:Addr}{fs:List (Str × V)}(x:IsRules H c p L rs Sl)(b:H a=some (.ins C d fs))(f:fs.length≠5):IsRules (upd H a o) c p L rs Sl:=
 ⟨by rw[ap (λe=>by have:=x.top;rw[e,b]at this;cases this)];exact x.top,x.len,λi r y h1 h2=>(x.at_ i r y h1 h2).ins b f⟩
def ce(K:Frag)(c:WY)(d:WZ):Sp:=#[3,∃ x f p a b h w g Sl cl,vs=[.ref x,.ref p,.ref a,.ref b]/\d.ok .Puzzle=true/\H x=some (.ins (d.A .Puzzle) f [])/\IsFl H p h w g/\H a=↥((Sl.map RR.txt).map V.str)/\H b=↥(cl.map V.int)/\b9 c h w g Sl/\CluesOk h w g cl/\
 ∀ L G e,(∀ y o,y≠x->H y=some o->e y=some o)->H L=none->H G=none->IsPz e c d x L G h w g Sl cl->Q .non e]
def gK(K:Frag)(c:WY)(d:WZ):TS:=#[":g~cn0,{kba1c/g~cn0,{lbhaJn0/a2c~R~cn0,{mbaJn0/a3c'a"]
theorem uK(h:ce K c d vs H Q E):gK K c d (eD9 Q) (start ["self","floor","lines","clues"] vs) H:=by
 obtain⟨x,i,p,a,b,h,w,g,Sl,cl,rfl,t,N,hp,W,hb,R,C,q⟩:=h;ac_nf;unfold gK sFldK;exists⟨p,h,w,g,rfl,hp,R.F,λf D=>?_⟩;have j:x≠f:=aB N D;refine⟨x,.Puzzle,i,[],rfl,t,by rw[ap j];exact N,by show(0:Nat)<1000;decide,?_⟩
 have f1:∀ y o,y≠x->H y=some o->(upd (upd H f (.tup [.int h,.int w,.int g])) x (.ins (d.A .Puzzle) i (putF "floor" (.ref f) []))) y=some o:=λy o s e=>by
  rw[ap s,ap (aB e D)];exact e
 have n:(upd (upd H f (.tup [.int h,.int w,.int g])) x (.ins (d.A .Puzzle) i (putF "floor" (.ref f) []))) x=some (.ins (d.A .Puzzle) i [("floor",.ref f)]):=aj
 have r:IsFl (upd (upd H f (.tup [.int h,.int w,.int g])) x (.ins (d.A .Puzzle) i (putF "floor" (.ref f) []))) f h w g:=by
  show(upd (upd H f (.tup [.int h,.int w,.int g])) x _) f=_;rw[ap j.symm,aj]
 have M:∀ l,(upd (upd H f (.tup [.int h,.int w,.int g])) x (.ins (d.A .Puzzle) i (putF "floor" (.ref f) []))) l=none->H l=none:=λl e=>by
  have T:l≠x:=λz=>by rw[z,aj]at e;cases e
  rw[ap T]at e;have n2:l≠f:=λz=>by rw[z,aj]at e;cases e
  rw[ap n2]at e;exact e
 have Y:a≠x:=λz=>by rw[z,N]at W;cases W
 have O:b≠x:=λz=>by rw[z,N]at hb;cases hb
 generalize upd (upd H f (.tup [.int h,.int w,.int g])) x (.ins (d.A .Puzzle) i (putF "floor" (.ref f) []))=H1 at*;refine fldE (c:=d) (k:=.Puzzle) rfl t n (v:=.ref f) (by rfl) ?_;exists⟨f,a,h,w,g,Sl,rfl,r,f1 a _ Y W,R,λL rs u I U X=>?_⟩;refine⟨x,.Puzzle,i,_,rfl,t,I _ _ n,by show(1:Nat)<1000;decide,?_⟩;have ab:L≠x:=λz=>by rw[z,n]at U;cases U
 have X3:=X.ins (o:=.ins (d.A .Puzzle) i (putF "laws" (.ref L) [("floor",.ref f)])) (I _ _ n) (by show(1:Nat)≠5;decide)
 have f2:∀ y o,y≠x->H y=some o->(upd u x (.ins (d.A .Puzzle) i (putF "laws" (.ref L) [("floor",.ref f)]))) y=some o:=λy o s e=>by
  rw[ap s];exact I _ _ (f1 y o s e)
 have m:(upd u x (.ins (d.A .Puzzle) i (putF "laws" (.ref L) [("floor",.ref f)]))) x=some (.ins (d.A .Puzzle) i [("floor",.ref f),("laws",.ref L)]):=aj
 have J:IsFl (upd u x (.ins (d.A .Puzzle) i (putF "laws" (.ref L) [("floor",.ref f)]))) f h w g:=by
  show(upd u x _) f=_;rw[ap j.symm];exact I _ _ r
 have S:∀ l,(upd u x (.ins (d.A .Puzzle) i (putF "laws" (.ref L) [("floor",.ref f)]))) l=none->H1 l=none:=λl e=>by
  have T:l≠x:=λz=>by rw[z,aj]at e;cases e
  rw[ap T]at e;exact I.free e
 generalize upd u x (.ins (d.A .Puzzle) i (putF "laws" (.ref L) [("floor",.ref f)]))=H3 at*;refine fldE (c:=d) (k:=.Puzzle) rfl t m (v:=.ref f) (by rfl) ?_;exists⟨f,b,h,w,g,cl,rfl,J,R.F,f2 b _ O hb,C,λG H4 B Z eG=>?_⟩;refine⟨x,.Puzzle,i,_,rfl,t,B _ _ m,by show(2:Nat)<1000;decide,?_⟩;have P:G≠x:=λz=>by rw[z,m]at Z;cases Z
 refine q L G _ (λy o s e=>?_) (M L U) (M G (S G Z)) ⟨t,R,C,?_,i,f,rs,?_,?_,?_⟩
 . rw[ap s];exact B _ _ (f2 y o s e)
 . rw[ap P];exact eG
 . rw[aj];rfl
 . show(upd H4 x _) f=_;rw[ap j.symm];exact B _ _ J
 . exact(X3.same B).ins (B _ _ m) (by show(2:Nat)≠5;decide)
theorem Jo {Z:Addr->Hp->Prop} {b:Addr} (u:d.ok .Puzzle=true) (r:IsFl H p h w g) (n:H a=↥((Sl.map RR.txt).map V.str)) (t:H b=↥(cl.map V.int)) (R:b9 c h w g Sl) (C:CluesOk h w g cl)
  (q:∀ P L G i,Same H i->H P=none->H L=none->H G=none->IsPz i c d P L G h w g Sl cl->Z P i):
  ∀ x f,H x=none->H f=none->f≠x->ce K c d (.ref x::([.ref p,.ref a,.ref b]++[])) (upd (upd H f (.own x)) x (.ins (d.A .Puzzle) f [])) (λv E=>v=.non/\Z x E) E0:=by
 intro x f j s J;have k:∀ y o,H y=some o->(upd (upd H f (.own x)) x (.ins (d.A .Puzzle) f [])) y=some o:=λy o e=>by rw[ap (aB e j),ap (aB e s)];exact e
 have l:∀ y,(upd (upd H f (.own x)) x (.ins (d.A .Puzzle) f [])) y=none->H y=none:=λy e=>by
  have B:y≠x:=λz=>by rw[z,aj]at e;cases e
  rw[ap B]at e;have D:y≠f:=λz=>by rw[z,aj]at e;cases e
  rw[ap D]at e;exact e
 exact⟨x,f,p,a,b,h,w,g,Sl,cl,rfl,u,aj,k _ _ r,k _ _ n,k _ _ t,R,C,λL G i F m I X=>⟨rfl,q x L G i (λy o e=>F y o (aB e j) (k _ _ e)) j (l L m) (l G I) X⟩⟩
def d6(K:Frag)(c:WY)(d:WZ)(_:PzK):Sp:=#[3,∃(P L G:Addr) (h w g:Int) (Sl:List RR) (cl:∅),vs=[.ref P]/\IsPz H c d P L G h w g Sl cl/\∀ p,IsFl H p h w g->Q (.ref p) H]
def pL(K:Frag)(c:WY)(d:WZ):Sp:=d6 K c d .Puzzle
def kc(K:Frag)(c:WY)(d:WZ):TS:=#[":jJn0/"]
theorem y4(h:pL K c d vs H Q E):kc K c d (eD9 Q) (start ["self"] vs) H:=by
 obtain⟨P,L,G,h,w,g,Sl,cl,rfl,x,q⟩:=h;obtain⟨a,p,rs,h1,h2,h3⟩:=x.ex;exists kc;exact fldE (k:=.Puzzle) rfl x.ok h1 (v:=.ref p) (by rfl) (q p h2)
def gL(K:Frag)(c:WY)(d:WZ)(_:PzK):Sp:=#[3,∃(P L G:Addr) (h w g:Int) (Sl:List RR) (cl:∅),vs=[.ref P]/\IsPz H c d P L G h w g Sl cl/\∀ l,H l=none->Q (.ref l) (upd H l (.lst (cl.map V.int)))]
def pM(K:Frag)(c:WY)(d:WZ):Sp:=gL K c d .Puzzle
def kd(K:Frag)(c:WY)(d:WZ):TS:=#[":jqYaJn0'ac"]
theorem y7(h:pM K c d vs H Q E):kd K c d (eD9 Q) (start ["self"] vs) H:=by
 obtain⟨P,L,G,h,w,g,Sl,cl,rfl,x,q⟩:=h;obtain⟨a,p,rs,h1,h2,h3⟩:=x.ex;exists kd;refine fldE (k:=.Puzzle) rfl x.ok h1 (v:=.ref G) (by rfl) ?_;exists iW x.gv q
def d7(K:Frag)(c:WY)(d:WZ)(_:PzK):Sp:=#[3,∃(P L G:Addr) (h w g:Int) (Sl:List RR) (cl:∅),vs=[.ref P]/\IsPz H c d P L G h w g Sl cl/\∀ l p rs,H l=none->IsFl (upd H l (.lst (rs.map V.ref))) p h w g->IsRules (upd H l (.lst (rs.map V.ref))) c p l rs Sl->Q (.ref l) (upd H l (.lst (rs.map V.ref)))]
def pN(K:Frag)(c:WY)(d:WZ):Sp:=d7 K c d .Puzzle
def ke(K:Frag)(c:WY)(d:WZ):TS:=#[":jqYaJn0~Rc"]
theorem y8(h:pN K c d vs H Q E):ke K c d (eD9 Q) (start ["self"] vs) H:=by
 obtain⟨P,L,G,h,w,g,Sl,cl,rfl,x,q⟩:=h;obtain⟨b,p,rs,h1,h2,h3⟩:=x.ex;exists ke;refine fldE (k:=.Puzzle) rfl x.ok h1 (v:=.ref L) (by rfl) ?_;exists iW h3.top λl a=>?_;have s1:Same H (upd H l (.lst (rs.map V.ref))):=(SF H).laid a;exact q l p rs a (s1 _ _ h2) ⟨aj,h3.len,λi r y e1 e2=>(h3.at_ i r y e1 e2).same s1⟩
theorem Ho {fin:Addr->Hp->Prop} (X:IsRules H c p L rs Sl) (R:b9 c h w g Sl)
  (v:∀ l d,H l=none->Same H d->d l=↥((Sl.map RR.txt).map V.str)->fin l d):CompR (Itl K L) (gName 1) tTrue (aA c c.ok "line" (wf K c) (tVar 1) tNil) fin [none,none] H:=by
 have D:=R.n;have t:=X.len;refine bK (xs:=rs.map V.ref) (λ_=>true) (λi=>.str ((Sl.map RR.txt).getD i (tx []))) (by rw[Sx];lia) (ST X.top) ?_ ?_ ?_
 . intro i x b R a s1 k1;exact k1 _ (SF _)
 . intro i x b s a A s1 k1;rw[SI]at a
   cases e:rs[i]? with
   | none=>rw[e]at a;cases a
   | some r=>
    rw[e]at a;cases a;have E:=(SD.mp e).1;have f:Sl[i]? =some Sl[i]:=Sy #[4];have j:=X.at_ i r _ e f;obtain⟨B,W,C,h1,h2,h3⟩:=j.ex;have o:=k1 _ (SF b);have y:(Sl.map RR.txt).getD i (tx [])=Sl[i].txt:=by rw[List.getD,SI,f];rfl
    rw[y]at o;have O:=R.ok _ (SH f);have q:=wM (k:=Sl[i].k) (n:=Sl[i].n) (m:=Sl[i].m) O.len;show aA c c.ok "line" _ _ _ [none,↑r] b s;refine methE (k:=Sl[i].k) rfl j.ok (s1 _ _ h1) (by rfl) ?_;exists⟨r,p,_,_,_,_,rfl,j.same s1,q.1,q.2,o⟩
 . intro l b u s1 z;refine v l b u s1 ?_;rw[z,aY,Sx,t]
   congr 2
   refine T5 λi=>?_;rw[SI,SI,SI];by_cases h:i<Sl.length
   . rw[Tz h,Sy h];simp[List.getD,h]
   . rw[S0 (by simpa using h),S0 #[4]];rfl
def xK(K:Frag)(c:WY)(d:WZ)(_:PzK):Sp:=#[3,∃(P L G:Addr) (h w g:Int) (Sl:List RR) (cl:∅),vs=[.ref P]/\IsPz H c d P L G h w g Sl cl/\∀ l a,Same H a->H l=none->a l=↥((Sl.map RR.txt).map V.str)->Q (.ref l) a]
def pQ(K:Frag)(c:WY)(d:WZ):Sp:=xK K c d .Puzzle
def kf(K:Frag)(c:WY)(d:WZ):TS:=#[":jv&-- sbJn0~Ri#1 CthE{n{obh1c"]
theorem y9(h:pQ K c d vs H Q E):kf K c d (eD9 Q) (start ["self"] vs) H:=by
 obtain⟨P,L,G,h,w,g,Sl,cl,rfl,x,q⟩:=h;obtain⟨f,p,rs,h1,h2,h3⟩:=x.ex;ac_nf;unfold kf;rw[cV,bB];refine fldE (k:=.Puzzle) rfl x.ok h1 (v:=.ref L) (by rfl) ?_;refine⟨L,rfl,⟨_,ST h3.top⟩,?_⟩;exact Ho h3 x.R λl b e s1 a=>q l b s1 e a
def lI(K:Frag)(c:WY)(d:WZ)(_:PzK):Sp:=#[3,∃(P L G b:Addr) (h w g:Int) (Sl:List RR) (cl a:∅),vs=[.ref P,.ref b]/\IsPz H c d P L G h w g Sl cl/\H b=↥(a.map V.int)/\CluesOk h w g a/\
 ∀ f i j e,Same H e->H f=none->H i=none->H j=none->IsPz e c d f i j h w g Sl a->Q (.ref f) e]
def pR(K:Frag)(c:WY)(d:WZ):Sp:=lI K c d .Puzzle
def kg(K:Frag)(c:WY)(d:WZ):TS:=#[":j;'s't'ubhn=?aJn0/atnF{p{qbhn0ca1c"]
theorem za(h:pR K c d vs H Q E):kg K c d (eD9 Q) (start ["self","clues"] vs) H:=by
 obtain⟨P,L,G,b,h,w,g,Sl,cl,o,rfl,x,r,f,q⟩:=h;obtain⟨y,p,rs,h1,h2,h3⟩:=x.ex;exists kg;refine fldE (k:=.Puzzle) rfl x.ok h1 (v:=.ref p) (by rfl) ?_;exists methE (k:=.Puzzle) rfl x.ok h1 (by rfl) ?_;exists⟨P,L,G,h,w,g,Sl,cl,rfl,x,λl u s1 t s=>?_⟩;exists Jo x.ok (s1 _ _ h2) s (s1 _ _ r) x.R f λj i n a e e1 e2 m X=>q j i n a (s1.trans e) (s1.free e1) (s1.free e2) (s1.free m) X
inductive DRows(w:World)(K:Frag):List DictEntry->List (Str × List Str)->Prop
 | nil:DRows w K [] []
 | cons {hsh:Int} {k:Str} {t:Tok} {q:Addr} {o:Obj} {So:Array Value} {n:Nat} {ws:List Str} {es:List DictEntry} {D:List (Str × List Str)}:hsh=hashStr w k->K.lookup q=some o->o.cls=.type "tuple"->o.data=.seq So n->So.size<=sizeLine->Vals (ws.map V.str) So.toList->DRows w K es D->DRows w K (⟨hsh,.str k t,.ref q⟩::es) ((k,ws)::D)
structure GDict(w:World)(K:Frag)(mg:Str->Option Value)(x:Str)(D:List (Str × List Str)):Prop where
 ex:∃(p:Addr) (o:Obj) (es:Array DictEntry) (ep:Nat),mg x=↑p/\K.lookup p=some o/\o.ExactDict/\o.data=.dict es ep/\DRows w K es.toList D/\(D.map λx=>x.1).Nodup
theorem DRows.of{P:Program}{w:World}{K:Frag}{f:List DictEntry}{D:List (Str × List Str)}(h:DRows w K f D):
  ∃ b:List (Str × Value),Pairs (strKind P w) f b/\b.map (λx=>x.1)=D.map (λx=>x.1)/\(∀ e∈f,∃ k,(strKind P w).is k e.key=true/\e.hash=(strKind P w).hash k)/\
   ∀ k g,D.lookup k=some g->∃ q,valueAt b k=↑q/\∃(o:Obj) (So:Array Value) (n:Nat),K.lookup q=some o/\o.cls=.type "tuple"/\o.data=.seq So n/\So.size<=sizeLine/\Vals (g.map V.str) So.toList:=by
 induction h with
 | nil=>exact⟨[],.nil,rfl,λe c=>(by cases c),λk g e=>(by cases e)⟩
 | @cons s k t q o So n g f D h1 h2 h3 h4 h5 h6 _ l=>
  obtain⟨b,p,m,y,v⟩:=l;have j:(strKind P w).is k (.str k t)=true:=by show(k==k)=true;simp
  refine⟨(k,.ref q)::b,.cons j rfl p,by rw[S6,S6,m],λe c=>?_,λd i e=>?_⟩
  . rcases SU.mp c with rfl | c
    . exact⟨k,j,h1⟩
    . exact y e c
  . rw[TR]at e;unfold valueAt;rw[UI];by_cases a:d=k
    . subst a;simp at e;subst e;refine⟨q,by simp,o,So,n,h2,h3,h4,h5,h6⟩
    . have u:(d==k)=false:=by simpa using a
      rw[u]at e;have r:decide (k=d)=false:=SE (λz=>a z.symm);dsimp only;rw[r];exact v d i e
def tIxG(K:Frag)(D:List (Str × List Str))(te:TE):TE:=λσ H Q=>te σ H λy b=>∃ k a,y=.str k/\D.lookup k=some a/\∀ q,SqT K b q (a.map V.str)->Q (.ref q) b
def rInS(K:Frag):R2:=λx y H Q=>∃(z:Str) (q:Addr) (a:List Str),x=.str z/\y=.ref q/\SqT K H q (a.map V.str)/\Q (.bl (decide (z∈a))) H
section
variable{X:Cx}{a b:Expr}{ta tb:TE}{pos p:Pos}{x:Str}{D:List (Str × List Str)}
theorem ND(G:GDict X.w X.K X.mg x D)(hb:PE X b tb)(J:Gl X x)(g:AE b)(l:(x==("__debug__":Str))=false:=by decide):PE X (.Subscript (.Name x p) b pos) (tIxG X.K D tb):=by
 obtain⟨d,o,E,M,h1,h2,h3,h4,h5,h6⟩:=G.ex;obtain⟨Sn,p1,R,p3,Z⟩:=h5.of (P:=X.prog)
 have ir:IxR X (λx y H Q=>x=.ref d/\∃ k a,y=.str k/\D.lookup k=some a/\∀ q,SqT X.K H q (a.map V.str)->Q (.ref q) H):=by
  intro i j A s σ H x y v u Q I N S h F;obtain⟨rfl,k,a,rfl,O,q⟩:=h;cases (show v=Value.ref d from N);have f:s.heap.get? d=some o:=I.kIn d o h2;have m:Heap.DictOf (strKind X.prog X.w) s.heap d Sn:=⟨o,E,M,f,h3,h4,λe C=>p3 e (Array.mem_toList_iff.mpr C),p1,by rw[R];exact h6⟩;obtain⟨r,W,B,Y,n,g1,U,g3,T,g5⟩:=Z k a O;obtain⟨t,rfl⟩:∃ t,u=Value.str k t:=S;have L:(strKind X.prog X.w).is k (.str k t)=true:=by show(k==k)=true;simp
  refine WR m.typeIs Wh.lookup (wpAny_getItem_of L m.mapOf W ?_) F;exact⟨.ref r,H,I.tok _,rfl,q r (.inr ⟨B,Y,n,g1,U,g3,T,g5⟩)⟩
 have h0:=Dg (pos:=pos) ir (cG (pos:=p) (v:=V.ref d) J h1 rfl l) hb g;intro A s σ H Q I h;refine h0 A s σ H Q I ?_
 have e:(λ(y:V) (c:Hp)=>∃ k a,y=.str k/\D.lookup k=some a/\∀ q,SqT X.K c q (a.map V.str)->Q (.ref q) c)=λy c=>(V.ref d=V.ref d)/\∃ k a,y=.str k/\D.lookup k=some a/\∀ q,SqT X.K c q (a.map V.str)->Q (.ref q) c:=by
  funext y c;simp
 have z:tb σ H (λ(y:V) (c:Hp)=>∃ k a,y=.str k/\D.lookup k=some a/\∀ q,SqT X.K c q (a.map V.str)->Q (.ref q) c):=h;rw[e]at z;exact z
theorem NE:OpR X (compareOp .In) (rInS X.K):=by
 intro c s σ H x y v u Q I b e h;obtain⟨z,q,a,rfl,rfl,d,h⟩:=h;refine pB c s σ H _ _ v u Q I b e ⟨q,a.map V.str,rfl,.inr d,rfl,mD a,?_⟩;rw[oy];exact h
end
section
variable{K:Frag}{σ:St}{H:Hp}{Q:VK}{te:TE}{D:List (Str × List Str)}
def Oy:tIxG K D te σ H Q=te σ H λy b=>∃ k a,y=.str k/\D.lookup k=some a/\∀ q,SqT K b q (a.map V.str)->Q (.ref q) b:=rfl
end
def ws5:String:="aK if_true if_false Bool.false_eq_true decide_true decide_false dG dH ig cK b8 dE fE dF cJ fC fD cI ic cL cM cO cP cQ cR cN fF fG fH fA ie Bool.not_true Bool.not_false aK "++ws1
local macro_rules|`(tactic|walk_at "w")=>wk9 ws5
def stB(m s:Int):Bool:=decide (1<=s)&&(decide (s<=((Builtin.Int.intBits m:Nat):Int))&&decide (m/2^(s-1).toNat%2=1))
def fR(K:Frag):Sp:=#[3,∃ m s:Int,vs=[.int m,.int s]/\Q (.bl (stB m s)) H]
def uL(K:Frag):TS:=#[":jNd(ef#1 1Nd(1'vb~['w0drbdLd{r0dV1ef#1 ef#2 ef#1 "]
variable{K:Frag}{vs:List V}{H:Hp}{Q:VK}{E:XK}
theorem Jp(h:fR K vs H Q E):uL K (eD9 Q) (start ["mask","sign"] vs) H:=by
 obtain⟨m,s,rfl,q⟩:=h;exists uL;unfold stB at q
 cases h1:decide (1<=s) with
 | false=>rw[h1,S1]at q;exact iteF q
 | true=>
  refine iteT ⟨rfl,?_⟩;symm;rw[h1,S7]at q
  cases h2:decide (s<=((Builtin.Int.intBits m:Nat):Int)) with
  | false=>rw[h2,S1]at q;exact iteF q
  | true=>
   rw[h2,S7]at q;exact iteT ⟨by have:=SG h1;lia,by decide,q⟩
def pT(K:Frag):Sp:=#[3,∃ s:Int,vs=[.int s]/\1<=s/\s<=100000/\Q (.int (2^(s-1).toNat)) H]
def uM(K:Frag):TS:=#[":glef#1 i#1 gI[adV0ef#1 ci#2 ldX1ef#2 i#1 j1"]
theorem Jq(h:pT K vs H Q E):uM K (eD9 Q) (start ["sign","bit","step"] vs) H:=by
 obtain⟨s,rfl,h1,h2,q⟩:=h;exists uM;refine⟨s-1,rfl,by lia,by lia,?_⟩;refine pA (λi σ a=>∃ b:Option V,σ=[⇑s,⇑(2^i),b]/\a=H) ⟨none,rfl,rfl⟩ ?_ ?_
 . rintro i σ a c ⟨b,rfl,rfl⟩;exists⟨.inr ⟨by decide,by decide⟩,?_⟩;simp[Int.pow_succ]
 . rintro σ a ⟨b,rfl,rfl⟩;symm;exact q
def woI(m s:Int):Int:=if stB m s=true then m-2^(s-1).toNat else m
def nS(K:Frag):Sp:=#[3,∃ m s:Int,vs=[.int m,.int s]/\s<=100000/\Q (.int (woI m s)) H]
def tw(K:Frag):TS:=#[":j~az,~tba0a1cdV0,'xba1c0"]
theorem Hq(h:nS K vs H Q E):tw K (eD9 Q) (start ["mask","sign"] vs) H:=by
 obtain⟨m,s,rfl,h2,q⟩:=h;exists tw;refine⟨m,s,rfl,_,rfl,?_⟩;unfold woI at q
 cases a:stB m s with
 | false=>
  rw[a,SS SR]at q;exact iteF q
 | true=>
  rw[a,SY rfl]at q;refine iteT ⟨s,rfl,?_,h2,?_⟩
  . unfold stB at a;rw[SA,Sz]at a;exact a.1
  . symm;exact q
def dB(K:Frag):Sp:=#[3,∃ m s:Int,vs=[.int m,.int s]/\s<=100000/\Q (.bl (decide (woI m s=0))) H]
def qG(K:Frag):TS:=#[":jdrb,'yba0a1cef#0 "]
theorem FM(h:dB K vs H Q E):qG K (eD9 Q) (start ["mask","sign"] vs) H:=by
 obtain⟨m,s,rfl,h2,q⟩:=h;exists qG;refine⟨m,s,rfl,h2,?_⟩;symm;exact q
def sgL(m:Int):∅:=((List.range (Builtin.Int.intBits m)).filter λ(i:Nat)=>stB m (1+(i:Int))).map λ(i:Nat)=>1+(i:Int)
def bv(K:Frag):Sp:=#[3,∃ m:Int,vs=[.int m]/\Builtin.Int.intBits m<=900/\∀ l a,Same H a->H l=none->a l=↥((sgL m).map V.int)->Q (.ref l) a]
def qH(K:Frag):TS:=#[":jv&--0 'zaef#1 adw'vb~['w0ef#1 ci#1 z,~tba2a1c1"]
theorem FN(h:bv K vs H Q E):qH K (eD9 Q) (start ["mask"] vs) H:=by
 obtain⟨m,rfl,b,k⟩:=h;exists qH;refine⟨rfl,1,_,rfl,by lia,?_⟩;have d:(((Builtin.Int.intBits m:Nat):Int)+1-1).toNat=Builtin.Int.intBits m:=by lia
 rw[d];refine qA (λ(i:Nat)=>stB m (1+(i:Int))) (λ(i:Nat)=>1+(i:Int)) b ?_ ?_ ?_
 . intro i a R e s1 k1;show tB _ [none,⇑(1+(i:Int)),⇑m] a R;exists⟨m,_,rfl,_,rfl,k1 _ (SF _)⟩
 . intro i a g e b s1 k1;exact k1 _ (SF _)
 . intro l a c s1 f;exact k l a s1 c f
local macro_rules|`(tactic|walk_at "w")=>wk9 ws4
inductive TK where
 | clue | only | place | count | step | sum | square | reach | turn | pair | ways
 deriving DecidableEq
def tkC:TK->List Nat
 | .clue=>s!"clue"
 | .only=>s!"only"
 | .place=>s!"place"
 | .count=>s!"count"
 | .step=>s!"step"
 | .sum=>s!"sum"
 | .square=>s!"square"
 | .reach=>s!"reach"
 | .turn=>s!"turn"
 | .pair=>s!"pair"
 | .ways=>s!"ways"
def gt_KINDS:List Str:=[tx s!"clue",tx s!"only",tx s!"place",tx s!"count",tx s!"step",tx s!"sum",tx s!"square",tx s!"reach",tx s!"turn",tx s!"pair",tx s!"ways"]
def jf:List Str:=[tx s!"clue",tx s!"only",tx s!"place",tx s!"step",tx s!"pair"]
def gB:List Str:=[tx s!"count",tx s!"sum",tx s!"ways"]
def gd_RULES_OF_KIND:List (Str × List Str):=[(tx s!"only",[tx s!"unlike"]),(tx s!"place",[tx s!"unlike"]),(tx s!"count",[tx s!"count"]),(tx s!"step",[tx s!"rising"]),(tx s!"sum",[tx s!"sum"]),(tx s!"square",[tx s!"nosquare"]),(tx s!"reach",[tx s!"joined",tx s!"ring"]),(tx s!"turn",[tx s!"ring"]),(tx s!"pair",[tx s!"unlike"])]
def wsOf:TK->List Str
 | .only=>[tx s!"unlike"]
 | .place=>[tx s!"unlike"]
 | .count=>[tx s!"count"]
 | .step=>[tx s!"rising"]
 | .sum=>[tx s!"sum"]
 | .square=>[tx s!"nosquare"]
 | .reach=>[tx s!"joined",tx s!"ring"]
 | .turn=>[tx s!"ring"]
 | .pair=>[tx s!"unlike"]
 | _=>[]
def goesB:TK->RK->Bool
 | .ways,_=>true
 | .only,.Unlike=>true
 | .place,.Unlike=>true
 | .count,.Count=>true
 | .step,.Rising=>true
 | .sum,.Sum=>true
 | .square,.NoSquare=>true
 | .reach,.Joined=>true
 | .reach,.Ring=>true
 | .turn,.Ring=>true
 | .pair,.Unlike=>true
 | _,_=>false
def lineK:TK->Bool
 | .clue=>true
 | .only=>true
 | .place=>true
 | .step=>true
 | .pair=>true
 | _=>false
def nbrK:TK->Bool
 | .count=>true
 | .sum=>true
 | .ways=>true
 | _=>false
theorem Ml(t:TK):decide (tx (tkC t)∈jf)=lineK t:=by cases t <;> decide+kernel
theorem NF(t:TK):decide (tx (tkC t)∈gB)=nbrK t:=by cases t <;> decide+kernel
variable{t:TK}
theorem Oz(h1:t≠.clue)(h2:t≠.ways):gd_RULES_OF_KIND.lookup (tx (tkC t))=some (wsOf t):=by
 cases t <;> first | exact absurd rfl h1 | exact absurd rfl h2 | decide+kernel
theorem Mm(h2:t≠.ways)(k:RK):decide (tx (nmC k)∈wsOf t)=goesB t k:=by
 cases t <;> first | exact absurd rfl h2 | (cases k <;> decide+kernel)
theorem Mn(t:TK):decide (tkC t=s!"ways")=decide (t=.ways):=by cases t <;> decide
theorem AT(t:TK):decide (tkC t=s!"clue")=decide (t=.clue):=by cases t <;> decide
theorem Gw(t:TK):decide (tkC t=s!"only")=decide (t=.only):=by cases t <;> decide
def tz(K:Frag):Sp:=#[3,∃ p h w g i,vs=[.ref p,.int i]/\IsFl H p h w g/\FlOk h w g/\Q (.bl (decide (0<=i)&&decide (i<h*w))) H]
def tD(K:Frag):TS:=#[":jN,~^ba1cNd(ef#0 1d<1,~bba0c"]
variable{K:Frag}{vs:List V}{H:Hp}{Q:VK}{E:XK}
theorem Hr(h:tz K vs H Q E):tD K (eD9 Q) (start ["floor","value"] vs) H:=by
 obtain⟨p,h,w,g,i,rfl,b,F,q⟩:=h;exists tD;refine⟨i,rfl,⟨true,rfl,iteT ?_⟩⟩;symm
 cases a:decide (0<=i) with
 | false=>
  rw[a,S1]at q;exact iteF q
 | true=>
  rw[a,S7]at q;refine iteT ?_;exists⟨p,h,w,g,rfl,b,F.h0,F.h1,?_⟩;symm;exact q
def tE(K:Frag):Sp:=#[3,∃ p h w g i,vs=[.ref p,.int i]/\IsFl H p h w g/\Q (.bl (decide (1<=i)&&decide (i<=g))) H]
def tF(K:Frag):TS:=#[":j,~Qba1adk0ef#2 c"]
theorem Hs(h:tE K vs H Q E):tF K (eD9 Q) (start ["floor","value"] vs) H:=by
 obtain⟨p,h,w,g,i,rfl,a,q⟩:=h;exists tF;refine ixT a (v:=V.int g) rfl ?_;exists⟨i,g,rfl,q⟩
def tG(K:Frag)(c:WY):Sp:=#[3,∃ t k r p a cs n m,vs=[.str (tx (tkC t)),.ref r]/\t≠.clue/\IsRule H c k r p (nmC k::a) cs n m/\Q (.bl (goesB t k)) H]
def tH(K:Frag)(c:WY):TS:=#[":j~Hdrb0exy`0d{sbthE{t{ubh1c{vb{w0",s!"ways"]
variable{c:WY}
theorem Ht(h:tG K c vs H Q E):tH K c (eD9 Q) (start ["kind","rule"] vs) H:=by
 obtain⟨t,k,r,p,e,cs,n,m,rfl,b,x,q⟩:=h;obtain⟨f,W,C,h1,h2,h3⟩:=x.ex;exists tH;rw[bF,Mn];by_cases hw:t=.ways
 . subst hw;rw[SB rfl];exact iteT q
 . rw[SE hw];refine iteF ?_;refine methE (k:=k) rfl x.ok h1 (by rfl) ?_;exists⟨r,p,nmC k,e,cs,n,m,rfl,x,?_⟩;dsimp only;rw[Oy];exists⟨_,_,rfl,Oz b hw,λd a=>?_⟩;refine⟨_,d,_,rfl,rfl,a,?_⟩;rw[Mm hw];exact q
def cf(K:Frag)(c:WY):Sp:=#[3,∃ k r p b cs n m z,vs=[.ref r,.int z]/\IsRule H c k r p b cs n m/\cs.length<=63/\∀ l a,Same H a->H l=none->a l=↥((cs.filter λx=>!decide (x=z)).map V.int)->Q (.ref l) a]
def uN(K:Frag)(c:WY):TS:=#[":jv&--1 sbthE~u~vbh0ci#1 mdDb121"]
theorem Jr(h:cf K c vs H Q E):uN K c (eD9 Q) (start ["rule","cell"] vs) H:=by
 obtain⟨k,r,p,j,cs,n,m,z,rfl,x,w,q⟩:=h;obtain⟨v,W,C,h1,h2,h3⟩:=x.ex;ac_nf;unfold uN;rw[cV,bB];refine methE (k:=k) rfl x.ok h1 (by rfl) ?_;exists⟨r,p,j,cs,n,m,rfl,x,λl f=>?_⟩;obtain⟨u,g,s1,e⟩:=aU (.lst (cs.map V.int)) f;rw[g];refine⟨l,rfl,⟨_,ST e⟩,?_⟩;refine ba (xs:=cs) (λx=>!decide (x=z)) (λx=>x) #[4] (ST e) ?_ ?_ ?_
 . intro y a R i b k2;show tTest _ [none,⇑y,⇑z] a R;exists k2 _ (SF _)
 . intro y a s i t b k2;show tVar 1 [none,⇑y,⇑z] a s;exists k2 _ (SF _)
 . intro T a o b d;rw[Ud]at d;exact q T a (s1.trans b) (s1.free o) d
def hitB(t:TK)(Sl:List RR)(r z:Int):Bool:=if r<0 then false else if t=.clue then decide (r=0) else match Sl[r.toNat]? with
 | none=>false
 | some x=>goesB t x.k&&decide (z∈x.cs)
structure IsTh(H:Hp)(T M:Addr)(t:TK)(r z s:Int)(ms:∅):Prop where
 T:H T=some (.tup [.str (tx (tkC t)),.int r,.int z,.int s,.ref M])
 M:H M=↥(ms.map V.int)
 n:ms.length<=100
def IsTh.same{a:Hp}{T M:Addr}{r z s:Int}{ms:∅}(x:IsTh H T M t r z s ms)(s':Same H a):IsTh a T M t r z s ms:=⟨s' _ _ x.T,s' _ _ x.M,x.n⟩
def formB(h w g:Int)(Sl:List RR)(t:TK)(r z s:Int):Bool:=(decide (0<=z)&&decide (z<h*w))&&((decide (1<=s)&&decide (s<=g))&&hitB t Sl r z)
theorem Js{k:RK}{h w g:Int}{m:Nat}(b:allK k=true)(k0:k≠.Rule)(i:numK k=false)(a:sgnK k=true)(d:1<=(m:Int))(c:(m:Int)<=g):RR.Ok ⟨k,0,m,[],rngL 0 (h*w)⟩ h w g:=by
 refine⟨k0,TF _,λ_=>rfl,λ_=>⟨d,c⟩,λe=>?_,⟨λe=>?_,λ_=>⟨rfl,rfl⟩⟩,λx f=>(by cases f),TF _⟩
 . rw[show sgnK k=false from e]at a;cases a
 . rw[show allK k=false from e]at b;cases b
theorem NG{p:Addr}{i:Int}{ns:∅}(h:H p=some (.tup (ns.map V.int))):cIn K false (.int i) (.ref p) H Q=Q (.bl (decide (i∈ns))) H:=by
 unfold cIn;dsimp only;rw[h];dsimp only[unD,unS,bnd];rw[ou,mB];simp[flatV]
def clueB(cl:∅)(z s:Int)(ms:∅):Bool:=decide (ms=[])&&(!decide (cl.getD z.toNat 0=0)&&!decide (cl.getD z.toNat 0=s))
def kh(K:Frag):Sp:=#[3,∃ C M z s cl b,vs=[.ref C,.int z,.int s,.ref M]/\H C=↥(cl.map V.int)/\0<=z/\z<cl.length/\H M=↥(b.map V.int)/\∀ a,Same H a->Q (.bl (clueB cl z s b)) a]
def ki(K:Frag):TS:=#[":jNdrb3ucNdDbdk01ef#0 dDbdk012"]
theorem zb(h:kh K vs H Q E):ki K (eD9 Q) (start ["clues","cell","sign","more"] vs) H:=by
 obtain⟨C,M,z,s,cl,g,rfl,e,f,d,j,q⟩:=h;exists ki;refine⟨aX #[1],λl i=>?_⟩;obtain⟨H1,z9,s1,el⟩:∃ z,upd H l (.lst [])=z/\Same H z/\z l=↥(([]:∅).map V.int):=aU _ i;rw[z9];refine wc (s1 _ _ j) el ?_;have a:=q _ s1;unfold clueB at a
 cases c:decide (g=[]) with
 | false=>
  rw[c,S1]at a;exact⟨false,rfl,iteF a⟩
 | true=>
  rw[c,S7]at a;refine⟨true,rfl,iteT ?_⟩;exists ixI (s1 _ _ e) f d ?_;symm
  cases b:decide (cl.getD z.toNat 0=0) with
  | true=>
   rw[b,UL,S1]at a;exact iteF a
  | false=>
   rw[b,UD,S7]at a;refine iteT ?_;refine ixI (s1 _ _ e) f d ?_;symm;exact a
def onlyB(cs Sj:∅)(z s:Int)(ms:∅):Bool:=decide (ms.length=1)&&(decide (ms.getD 0 0∈cs.filter λx=>!decide (x=z))&&decide (woI (Sj.getD (ms.getD 0 0).toNat 0) s=0))
def kj(K:Frag)(c:WY):Sp:=#[3,∃ k r p A M e cs a d n m z s,vs=[.ref r,.ref A,.int z,.int s,.ref M]/\IsRule H c k r p e cs n m/\aO cs a.length/\H A=↥(a.map V.int)/\H M=↥(d.map V.int)/\s<=1000/\∀ b,Same H b->Q (.bl (onlyB cs a z s d)) b]
def km(K:Frag)(c:WY):TS:=#[":jNdrbqAa4cef#1 NdKbBdk4ef#0 ,+bha0a2c,~wbadk1dk4ef#0 a3c"]
theorem zc(h:kj K c vs H Q E):km K c (eD9 Q) (start ["rule","masks","cell","sign","more"] vs) H:=by
 obtain⟨k,r,p,A,M,j,cs,v,b,n,m,z,s,rfl,x,f,o,d,B,q⟩:=h;exists km;rw[aZ d,Sx];symm;unfold onlyB at q
 have e1:decide ((b.length:Int)=1)=decide (b.length=1):=by
  rw[Tb,Sz,Sz];lia
 rw[e1]
 cases e:decide (b.length=1) with
 | false=>
  rw[e,S1]at q;exact iteF (q _ (SF _))
 | true=>
  rw[e,S7]at q;have w:=SG e;refine iteT ?_;refine ixI d #[1] #[4] ?_;rw[show(0:Int).toNat=0 from rfl];exists⟨k,r,p,j,cs,n,m,z,rfl,x,f.1,λl y s1 t u=>?_⟩;dsimp only;rw[sS u]
  cases a:decide (b.getD 0 0∈cs.filter λx=>!decide (x=z)) with
  | false=>
   rw[a,S1]at q;exact⟨false,rfl,iteF (q _ s1)⟩
  | true=>
   rw[a,S7]at q;have i:=SJ.mp (SG a);have g:=f.2 _ i.1;refine⟨true,rfl,iteT ?_⟩;exists ixI (s1 _ _ d) #[1] #[4] ?_;rw[show(0:Int).toNat=0 from rfl];exists ixI (s1 _ _ o) g.1 g.2 ?_;exists⟨_,s,rfl,by lia,q _ s1⟩
theorem RR.cin22{r:RR}{h w g:Int}(O:r.Ok h w g)(F:FlOk h w g):aO r.cs (h*w).toNat:=by
 obtain⟨h0,h1,t,m,f,p,l⟩:=id F;have b:0<=h*w:=Ul #[4] #[4]
 cases d:allK r.k with
 | false=>
  obtain⟨s,q,i,o,e⟩:=O.cl.told d;rw[e];refine⟨by rw[Sx];lia,λc a=>?_⟩;obtain⟨n,j,rfl⟩:=SL.mp a;have:=i n j;lia
 | true=>
  obtain⟨_,e⟩:=O.cl.all d;rw[e];refine⟨by rw[dI];lia,λc a=>?_⟩;have:=wg a;lia
abbrev Vk:=@RR.cin22
structure Asks(H:Hp)(c:WY)(d:WZ)(P L G A T M:Addr)(h w g:Int)(Sl:List RR)(cl Sj:∅)(t:TK)(r z s:Int)(ms:∅):Prop where
 P:IsPz H c d P L G h w g Sl cl
 T:IsTh H T M t r z s ms
 A:H A=↥(Sj.map V.int)
 n:Sj.length=(h*w).toNat
variable{Sl:List RR}
theorem bQ{h w g:Int}{r z s:Int}(f:formB h w g Sl t r z s=true):0<=z/\z<h*w/\1<=s/\s<=g/\hitB t Sl r z=true:=by
 unfold formB at f;simp only[SA,Sz]at f;exact⟨f.1.1,f.1.2,f.2.1.1,f.2.1.2,f.2.2⟩
theorem dZ{r z:Int}(b:t≠.clue)(f:hitB t Sl r z=true):0<=r/\∃ x,Sl[r.toNat]? =some x/\goesB t x.k=true/\z∈x.cs:=by
 unfold hitB at f;by_cases a:r<0
 . rw[SY a]at f;cases f
 rw[SS a,SS b]at f
 cases e:Sl[r.toNat]? with
 | none=>rw[e]at f;cases f
 | some x=>
  rw[e]at f;simp only[SA,Sz]at f;exact⟨by lia,x,rfl,f.1,f.2⟩
def cW(K:Frag):Sp:=#[3,∃ A C b cs,vs=[.ref A,.ref C]/\H A=↥(b.map V.int)/\H C=↥(cs.map V.int)/\aO cs b.length/\∀ l a,Same H a->H l=none->a l=↥((sgAt b cs).map V.int)->Q (.ref l) a]
def qI(K:Frag):TS:=#[":jv&--0 sb1i#1 Cdk21"]
theorem FO(h:cW K vs H Q E):qI K (eD9 Q) (start ["masks","cells"] vs) H:=by
 obtain⟨A,C,f,cs,rfl,i,d,⟨n,j⟩,q⟩:=h;exists qI;refine⟨⟨_,ST d⟩,?_⟩;refine ba (xs:=cs) (λ_=>true) (λc=>f.getD c.toNat 0) #[4] (ST d) ?_ ?_ ?_
 . intro x a R o s1 k1;exact k1 _ (SF _)
 . intro z a e k m s1 k1;show tOp cIx _ _ [none,⇑z,↑A] a e;symm;have:=j z k;exact ixI (s1 _ _ i) this.1 #[4] (k1 _ (SF _))
 . intro l a g s1 b;rw[aY]at b;exact q l a s1 g b
def gk(K:Frag):Sp:=#[3,∃(C:Addr) (a:∅) (s:Int),vs=[.ref C,.int s]/\H C=↥(a.map V.int)/\a.length<=63/\∀ b,Same H b->Q (.int ((a.filter λm=>stB m s).length:Nat)) b]
def qJ(K:Frag):TS:=#[":jqAav&--1 sb0i#1 z,~tba1a2c1c"]
theorem FP(h:gk K vs H Q E):qJ K (eD9 Q) (start ["some","sign"] vs) H:=by
 obtain⟨C,e,s,rfl,c,i,q⟩:=h;exists qJ;refine⟨⟨_,ST c⟩,?_⟩;refine ba (xs:=e) (λm=>stB m s) (λm=>m) #[4] (ST c) ?_ ?_ ?_
 . intro x a R j s1 k1;show tB _ [none,⇑x,⇑s] a R;exists⟨x,s,rfl,_,rfl,k1 _ (SF _)⟩
 . intro z a d k g s1 k1;show tVar 1 [none,⇑z,⇑s] a d;exists k1 _ (SF _)
 . intro l a f s1 b;rw[Ud]at b;rw[aZ b,Sx];exact q _ s1
def gM(g:Int)(cs Sj:∅)(z s:Int)(ms:∅):Bool:=decide ((cs.length:Int)=g)&&(decide (ms.length=1)&&(!decide (ms.getD 0 0=s)&&((decide (1<=ms.getD 0 0)&&decide (ms.getD 0 0<=g))&&decide (((sgAt Sj (cs.filter λx=>!decide (x=z))).filter λm=>stB m (ms.getD 0 0)).length=0))))
def js(K:Frag)(c:WY):Sp:=#[3,∃ k f r p A M e cs a d n m z s h w g,vs=[.ref f,.ref r,.ref A,.int z,.int s,.ref M]/\IsFl H f h w g/\IsRule H c k r p e cs n m/\aO cs a.length/\H A=↥(a.map V.int)/\H M=↥(d.map V.int)/\∀ b,Same H b->Q (.bl (gM g cs a z s d)) b]
def gp(K:Frag)(c:WY):TS:=#[":jdrb,~Sba,~rba2a,+bha1a3ccadk5ef#0 cef#0 "]
def lq(K:Frag)(c:WY):TS:=#[":goOmdrbdk5ef#0 4Pz,{xba0adk5ef#0 cjeHBp{ybh"]
def jt(K:Frag)(c:WY):TS:=#[":goOmdDbqAathE~u~vbh1ccdk0ef#2 mdDbqAa5cef#1 jeHBp{zbh"]
theorem uh {k:RK} {f r p A M:Addr} {h:List (List Nat)} {cs Sj ms:∅} {n m z s:Int} (x:IsRule H c k r p h cs n m) (b:aO cs Sj.length) (w:H A=↥(Sj.map V.int)) (l:H M=↥(ms.map V.int)) (D:ms.length=1)
  (q:∀ d,Same H d->Q (.bl (decide (((sgAt Sj (cs.filter λx=>!decide (x=z))).filter λm=>stB m (ms.getD 0 0)).length=0))) d):
  gp K c (eD9 Q) [↑f,↑r,↑A,⇑z,⇑s,↑M] H:=by
 unfold gp;exists⟨k,r,p,h,cs,n,m,z,rfl,x,b.1,λO E s1 G t=>?_⟩;symm;have a:aO (cs.filter λx=>!decide (x=z)) Sj.length:=⟨SW (SV _ _) b.1,λy v=>b.2 y (SJ.mp v).1⟩;refine⟨A,O,Sj,_,rfl,s1 _ _ w,t,a,λB F g C u=>?_⟩;dsimp only;refine ixI ((s1.trans g) _ _ l) #[1] #[4] ?_;rw[show(0:Int).toNat=0 from rfl];exists⟨B,_,_,rfl,u,by unfold sgAt;rw[Sx];exact a.1,λo i=>?_⟩;symm;have j:=q o ((s1.trans g).trans i)
 have e:decide ((((sgAt Sj (cs.filter λx=>!decide (x=z))).filter λm=>stB m (ms.getD 0 0)).length:Int)=0)=decide (((sgAt Sj (cs.filter λx=>!decide (x=z))).filter λm=>stB m (ms.getD 0 0)).length=0):=by
  rw[Tb,Sz,Sz];lia
 rw[e];exact j
theorem xM(h:js K c vs H Q E):jt K c (eD9 Q) (start ["floor","rule","masks","cell","sign","more"] vs) H:=by
 obtain⟨k,f,r,p,A,M,D,cs,N,b,n,m,z,s,h,w,g,rfl,o,x,J,I,i,q⟩:=h;obtain⟨O,W,C,h1,h2,h3⟩:=x.ex;ac_nf;unfold jt;rw[aK,aF];exists methE (k:=k) rfl x.ok h1 (by rfl) ?_;exists⟨r,p,D,cs,n,m,rfl,x,λl y=>?_⟩;obtain⟨L,B,s1,F⟩:=aU (.lst (cs.map V.int)) y;rw[B]
 try dsimp only
 rw[aZ F,Sx];refine ixT (s1 _ _ o) (v:=V.int g) rfl ?_;symm;unfold gM at q
 cases t:decide ((cs.length:Int)=g) with
 | false=>
  rw[t,S1]at q;exists q _ s1
 | true=>
  rw[t,S7]at q;symm;rw[aZ (s1 _ _ i),Sx];symm
  have e1:decide ((b.length:Int)=1)=decide (b.length=1):=by
   rw[Tb,Sz,Sz];lia
  rw[e1]
  cases a:decide (b.length=1) with
  | false=>
   rw[a,S1]at q;exists q _ s1
  | true=>
   rw[a,S7]at q;have j:=SG a;symm;unfold lq;rw[aK,aF];exists ixI (s1 _ _ i) #[1] #[4] ?_;rw[show(0:Int).toNat=0 from rfl];symm
   cases d:decide (b.getD 0 0=s) with
   | true=>
    rw[d,UL,S1]at q;refine iteT ?_;exists q _ s1
   | false=>
    rw[d,UD,S7]at q;refine iteF ?_;refine ixI (s1 _ _ i) #[1] #[4] ?_;rw[show(0:Int).toNat=0 from rfl];exists⟨f,h,w,g,_,rfl,s1 _ _ o,?_⟩
    cases e:(decide (1<=b.getD 0 0)&&decide (b.getD 0 0<=g)) with
    | false=>
     rw[e,S1]at q;refine⟨false,rfl,iteT ?_⟩;exists q _ s1
    | true=>
     rw[e,S7]at q;refine⟨true,rfl,iteF ?_⟩;exact uh (x.same s1) J (s1 _ _ I) (s1 _ _ i) j λG u=>q G (s1.trans u)
theorem Ee(t:TK):decide (tkC t=s!"place")=decide (t=.place):=by cases t <;> decide
def fK(K:Frag):Sp:=#[3,∃(C:Addr) (a:∅) (s:Int),vs=[.ref C,.int s]/\H C=↥(a.map V.int)/\a.length<=63/\s<=100000/\∀ b,Same H b->Q (.int ((a.filter λm=>decide (woI m s=0)).length:Nat)) b]
def oN(K:Frag):TS:=#[":jqAav&--1 sb0i#1 z,~wba1a2c1c"]
variable{K:Frag}{vs:List V}{H:Hp}{Q:VK}{E:XK}
theorem Ef(h:fK K vs H Q E):oN K (eD9 Q) (start ["some","sign"] vs) H:=by
 obtain⟨C,e,s,rfl,c,j,f,q⟩:=h;exists oN;refine⟨⟨_,ST c⟩,?_⟩;refine ba (xs:=e) (λm=>decide (woI m s=0)) (λm=>m) #[4] (ST c) ?_ ?_ ?_
 . intro x a R k s1 k1;show tB _ [none,⇑x,⇑s] a R;exists⟨x,s,rfl,f,_,rfl,k1 _ (SF _)⟩
 . intro z a d n i s1 k1;show tVar 1 [none,⇑z,⇑s] a d;exists k1 _ (SF _)
 . intro l a g s1 b;rw[Ud]at b;rw[aZ b,Sx];exact q _ s1
def rosP(c z:Int)(q:∅):Bool:=decide (q.getD 0 0=c)&&decide (z∈q)
def rosL(h w c z:Int):∅:=match (squL h w).find? (rosP c z) with
 | none=>[]
 | some q=>q.filter λx=>!decide (x=z)
variable{h w:Int}
theorem oi{q:∅}(b:q∈squL h w):∃ i:Nat,i < (h*w).toNat/\cornB h w i=true/\q=sqL w i:=by
 unfold squL at b;obtain⟨i,a,rfl⟩:=SL.mp b;obtain⟨a,c⟩:=SJ.mp a;exact⟨i,SQ.mp a,c,rfl⟩
theorem Gx{c:Int}(d:1<=w)(b:0<=c)(a:cornB h w c=true):c+w+1<h*w:=by
 unfold cornB at a;rw[SA,Sz,Sz]at a;have e:=WJ c w;have m:=UW (show c/w+2<=h by lia) (show 0<=w by lia);rw[Int.mul_add]at m;rw[Int.mul_comm h w];lia
theorem OA{c x:Int}(b:1<=w)(a:0<=c)(d:cornB h w c=true)(e:x∈sqL w c):0<=x/\x<h*w:=by
 have:=Gx b a d;simp[sqL]at e;lia
variable{z:Int}
theorem Jt{g c:Int}{n:Nat}(F:FlOk h w g)(f:n=(h*w).toNat):aO (rosL h w c z) n:=by
 have b:=F.w0;unfold rosL
 cases e:(squL h w).find? (rosP c z) with
 | none=>exact⟨by show(0:Nat)<=63;lia,λx a=>by cases a⟩
 | some q=>
  obtain⟨i,j,d,rfl⟩:=oi (UF e);refine⟨SW (SV _ _) (by show(4:Nat)<=63;lia),λx a=>?_⟩;have:=OA b #[4] d (SJ.mp a).1;lia
def iA(K:Frag):Sp:=#[3,∃ f h w g c z,vs=[.ref f,.int c,.int z]/\IsFl H f h w g/\FlOk h w g/\∀ l a,Same H a->H l=none->a l=↥((rosL h w c z).map V.int)->Q (.ref l) a]
def iB(K:Frag):TS:=#[":gIsb,'bba0ci#3 o~dmdrbdk3ef#0 1mdKbB23jv&--2 sb3i#1 mdDb121pjuc"]
theorem wp(h:iA K vs H Q E):iB K (eD9 Q) (start ["floor","corner","cell","square"] vs) H:=by
 obtain⟨f,h,w,g,c,z,rfl,J,F,q⟩:=h;ac_nf;unfold iB;rw[aK];exists⟨f,h,w,g,rfl,J,F,λl M W s1 hl x nd nl hn=>?_⟩;refine⟨l,rfl,⟨_,ST x.top⟩,?_⟩;refine bg (K:=K) (xs:=M.map V.ref) (λi σ P=>∃ I:Option V,σ=[↑f,⇑c,⇑z,I]/\Same W P/\∀(j:Nat) (q:∅),j<i->(squL h w)[j]? =some q->rosP c z q=false) ⟨none,rfl,SF _,λj q C=>by lia⟩ (λi σ P _ ⟨_,_,s,_⟩=>s.seq (ST x.top)) ?_ ?_
 . rintro i v σ N p ⟨I,rfl,d,b⟩;rw[SI]at p
   cases B:M[i]? with
   | none=>rw[B]at p;cases p
   | some a=>
   rw[B]at p;cases p;have m:i < (squL h w).length:=by rw[← x.len];exact(SD.mp B).1
   have O:(squL h w)[i]? =some (squL h w)[i]:=Sy m;have A:=(x.same d).at_ i a _ B O
   have q4:((squL h w)[i]).length=4:=by
    obtain⟨k,_,_,e⟩:=oi (S9 m);rw[e];rfl
   have nx:rosP c z (squL h w)[i]=false->∀(j:Nat) (q:∅),j<i+1->(squL h w)[j]? =some q->rosP c z q=false:=λJ j q C n=>by
    by_cases G:j=i
    . subst G;rw[O]at n;cases n;exact J
    . exact b j q #[4] n
   have t:rosP c z (squL h w)[i]=true->rosL h w c z=(squL h w)[i].filter λx=>!decide (x=z):=λZ=>by
    have e:(squL h w).find? (rosP c z)=some (squL h w)[i]:=by
     rw[VE];refine⟨Z,i,m,rfl,λj C=>?_⟩;rw[b j _ C (Sy #[4])];rfl
    unfold rosL;rw[e]
   generalize (squL h w)[i]=sq at*;unfold rosP at nx t;symm;rw[aF];exists ixI A #[1] #[4] ?_;rw[show(0:Int).toNat=0 from rfl];symm
   cases L:decide (sq.getD 0 0=c) with
   | false=>
    rw[L,S1]at nx;refine iteF ?_;exists⟨_,rfl,d,nx rfl⟩
   | true=>
    rw[L,S7]at nx t;refine iteT ?_;rw[sS A]
    cases r:decide (z∈sq) with
    | false=>
     rw[r]at nx;refine⟨false,rfl,?_⟩;exists⟨_,rfl,d,nx rfl⟩
    | true=>
     rw[r]at t;refine⟨true,rfl,?_⟩;exists⟨⟨_,ST A⟩,?_⟩;refine ba (xs:=sq) (λx=>!decide (x=z)) (λx=>x) #[4] (ST A) ?_ ?_ ?_
     . intro y o R Y D k3;show tTest _ [none,⇑y,⇑z] o R;exists k3 _ (SF _)
     . intro y o X Y L D k3;show tVar 1 [none,⇑y,⇑z] o X;exists k3 _ (SF _)
     . intro T o u D S;rw[Ud,← t rfl]at S;exact q T o ((s1.trans d).trans D) ((s1.trans d).free u) S
 . rintro σ N ⟨I,rfl,d,b⟩
   have e:rosL h w c z=[]:=by
    have e:(squL h w).find? (rosP c z)=none:=by
     rw[Wf];intro q n;obtain⟨i,U⟩:=List.getElem?_of_mem n;rw[b i q (by rw[Sx,x.len];exact(SD.mp U).1) U];decide
    unfold rosL;rw[e]
   exists⟨aX #[1],λT u=>?_⟩;exact q T _ ((s1.trans d).trans ((SF N).laid u)) ((s1.trans d).free u) (by rw[aj,e];rfl)
def squB(h w m:Int)(Sj:∅)(z s:Int)(ms:∅):Bool:=decide (s=m)&&(decide (ms.length=1)&&(!decide (rosL h w (ms.getD 0 0) z=[])&&decide (((sgAt Sj (rosL h w (ms.getD 0 0) z)).filter λk=>decide (woI k s=0)).length=(rosL h w (ms.getD 0 0) z).length)))
def iC(K:Frag)(c:WY):Sp:=#[3,∃ k f r p A M e cs a d n m z s h w g,vs=[.ref f,.ref r,.ref A,.int z,.int s,.ref M]/\IsFl H f h w g/\FlOk h w g/\IsRule H c k r p e cs n m/\a.length=(h*w).toNat/\H A=↥(a.map V.int)/\H M=↥(d.map V.int)/\s<=1000/\∀ b,Same H b->Q (.bl (squB h w m a z s d)) b]
def fY(K:Frag)(c:WY):TS:=#[":gl,{Aba0adk5ef#0 a3ci#6 jNdDb6ucdrb,~Tba,~rba2a6ca4cqAa6c"]
def iD(K:Frag)(c:WY):TS:=#[":goOmdDb4thE~x~ybh1cmdDbqAa5cef#1 jeHBp{Bbh"]
variable{c:WY}{Sj:∅}
theorem tI {f A M:Addr} {C:V} {ms:∅} {s g:Int} (v:IsFl H f h w g) (F:FlOk h w g) (i:Sj.length=(h*w).toNat) (D:H A=↥(Sj.map V.int)) (x:H M=↥(ms.map V.int)) (I:ms.length=1) (E:s<=1000)
  (q:∀ o,Same H o->Q (.bl (!decide (rosL h w (ms.getD 0 0) z=[])&&decide (((sgAt Sj (rosL h w (ms.getD 0 0) z)).filter λk=>decide (woI k s=0)).length=(rosL h w (ms.getD 0 0) z).length))) o):
  fY K c (eD9 Q) [↑f,some C,↑A,⇑z,⇑s,↑M,none] H:=by
 have b:=Jt (c:=ms.getD 0 0) (z:=z) F i;unfold fY;exists ixI x #[1] #[4] ?_;rw[show(0:Int).toNat=0 from rfl];exists⟨f,h,w,g,_,z,rfl,v,F,λR n s1 L d=>?_⟩;exists⟨aX #[1],λZ y=>?_⟩;obtain⟨H2,z9,s2,eZ⟩:∃ z,upd n Z (.lst [])=z/\Same n z/\z Z=↥(([]:∅).map V.int):=aU _ y;rw[z9];have a:=s1.trans s2;refine sV (s2 _ _ d) eZ ?_;generalize m:rosL h w (ms.getD 0 0) z=ros at*
 cases p:decide (ros=[]) with
 | true=>
  rw[p,UL]at q;refine⟨false,rfl,iteF ?_⟩;exact q _ a
 | false=>
  rw[p,UD]at q;refine⟨true,rfl,iteT ?_⟩;exists⟨A,R,Sj,ros,rfl,a _ _ D,s2 _ _ d,b,λB J l G u=>?_⟩;dsimp only;refine⟨B,_,s,rfl,u,by unfold sgAt;rw[Sx];exact b.1,by lia,λr j=>?_⟩;symm;rw[aZ (((s2.trans l).trans j) _ _ d),Sx];symm;have t:=q r ((a.trans l).trans j)
  have e:decide ((((sgAt Sj ros).filter λk=>decide (woI k s=0)).length:Int)=(ros.length:Int))=decide (((sgAt Sj ros).filter λk=>decide (woI k s=0)).length=ros.length):=by
   rw[Tb,Sz,Sz];lia
  rw[e];exact t
theorem wq(h:iC K c vs H Q E):iD K c (eD9 Q) (start ["floor","rule","masks","cell","sign","more","rest"] vs) H:=by
 obtain⟨k,f,r,p,A,M,j,cs,Sj,b,n,m,z,s,h,w,g,rfl,t,F,x,d,l,e,o,q⟩:=h;obtain⟨u,W,C,h1,h2,h3⟩:=x.ex;ac_nf;unfold iD;rw[aK,aF];exists methE (k:=k) rfl x.ok h1 (by rfl) ?_;exists⟨r,p,j,cs,n,m,rfl,x,?_⟩;symm;unfold squB at q
 cases i:decide (s=m) with
 | false=>
  rw[i,S1]at q;exists q _ (SF _)
 | true=>
  rw[i,S7]at q;symm;rw[aZ e,Sx];symm
  have e1:decide ((b.length:Int)=1)=decide (b.length=1):=by
   rw[Tb,Sz,Sz];lia
  rw[e1]
  cases a:decide (b.length=1) with
  | false=>
   rw[a,S1]at q;exists q _ (SF _)
  | true=>
   rw[a,S7]at q;exists tI t F d l e (SG a) o q
theorem BH(t:TK):decide (tkC t=s!"square")=decide (t=.square):=by cases t <;> decide
def othL(cs:∅)(z:Int):∅:=cs.filter λx=>!decide (x=z)
def cntB(cs:∅)(n m:Int)(Sj:∅)(z s:Int)(ms:∅):Bool:=
 decide (ms=[])&&(if s=m then decide (n<=(((sgAt Sj (othL cs z)).filter λk=>decide (woI k s=0)).length:Int)) else decide ((((sgAt Sj (othL cs z)).filter λk=>stB k m).length:Int)<n))
def ju(K:Frag)(c:WY):Sp:=#[3,∃ k r p A M d cs Sj b n m z s,vs=[.ref r,.ref A,.int z,.int s,.ref M]/\IsRule H c k r p d cs n m/\aO cs Sj.length/\H A=↥(Sj.map V.int)/\H M=↥(b.map V.int)/\s<=1000/\∀ a,Same H a->Q (.bl (cntB cs n m Sj z s b)) a]
def gq(K:Frag)(c:WY):TS:=#[":gl,~rba1a,+bha0a2cci#5 gomdrb3thE~x~ybh0cjd),~Tba5a3cthE~U~Vbh0cpjd<,~Sba5athE~x~ybh0ccthE~U~Vbh0c"]
def jv(K:Frag)(c:WY):TS:=#[":gomdDb4ucjeHBp{Cbh"]
variable{cs:∅}{m:Int}
theorem ui {k:RK} {r p A M:Addr} {e:List (List Nat)} {n s:Int} (x:IsRule H c k r p e cs n m) (j:aO cs Sj.length) (N:H A=↥(Sj.map V.int)) (G:s<=1000)
  (q:∀ t,Same H t->Q (.bl (if s=m then decide (n<=(((sgAt Sj (othL cs z)).filter λk=>decide (woI k s=0)).length:Int)) else decide ((((sgAt Sj (othL cs z)).filter λk=>stB k m).length:Int)<n))) t):
  gq K c (eD9 Q) [↑r,↑A,⇑z,⇑s,↑M,none] H:=by
 have f:aO (othL cs z) Sj.length:=⟨SW (SV _ _) j.1,λy J=>j.2 y (SJ.mp J).1⟩;have o:(sgAt Sj (othL cs z)).length<=63:=by unfold sgAt;rw[Sx];exact f.1
 unfold gq;exists⟨k,r,p,e,cs,n,m,z,rfl,x,j.1,λO T s1 P E=>?_⟩;exists⟨A,O,Sj,othL cs z,rfl,s1 _ _ N,E,f,λB R w S u=>?_⟩;have a:=s1.trans w;have d:=x.same a;obtain⟨U,W,C,h1,h2,h3⟩:=d.ex;symm;rw[aF];exists methE (k:=k) rfl d.ok h1 (by rfl) ?_;exists⟨r,p,e,cs,n,m,rfl,d,?_⟩;symm;by_cases h:s=m
 . rw[SY h]at q;rw[SB h];exists⟨B,_,_,rfl,u,o,by lia,λD g=>?_⟩;have b:=d.same g;obtain⟨l,v,F,i,I,L⟩:=b.ex;refine methE (k:=k) rfl b.ok i (by rfl) ?_;exists⟨r,p,e,cs,n,m,rfl,b,?_⟩;exists q _ (a.trans g)
 . rw[SS h]at q;rw[SE h];exists methE (k:=k) rfl d.ok h1 (by rfl) ?_;exists⟨r,p,e,cs,n,m,rfl,d,?_⟩;exists⟨B,_,_,rfl,u,o,λD g=>?_⟩;have b:=d.same g;obtain⟨l,v,F,i,I,L⟩:=b.ex;refine methE (k:=k) rfl b.ok i (by rfl) ?_;exists⟨r,p,e,cs,n,m,rfl,b,?_⟩;exists q _ (a.trans g)
theorem xN(h:ju K c vs H Q E):jv K c (eD9 Q) (start ["rule","masks","cell","sign","more","some"] vs) H:=by
 obtain⟨k,r,p,A,M,o,cs,Sj,d,n,m,z,s,rfl,x,e,j,g,l,q⟩:=h;ac_nf;unfold jv;rw[aK,aF];exists⟨aX #[1],λZ i=>?_⟩;obtain⟨H1,z9,s1,eZ⟩:∃ z,upd H Z (.lst [])=z/\Same H z/\z Z=↥(([]:∅).map V.int):=aU _ i;rw[z9];refine sV (s1 _ _ g) eZ ?_;unfold cntB at q
 cases a:decide (d=[]) with
 | false=>
  rw[a,S1]at q;refine⟨true,rfl,?_⟩;exists q _ s1
 | true=>
  rw[a,S7]at q;refine⟨false,rfl,?_⟩;exists ui (x.same s1) e (s1 _ _ j) l λb f=>q b (s1.trans f)
theorem KM(t:TK):decide (tkC t=s!"count")=decide (t=.count):=by cases t <;> decide
variable{xs:∅}
theorem lJ{q:Addr}{x:Int}(j:H q=↥(xs.map V.int))(k:x∈xs)(l:xs.length<=900)(h:Q (.int (xs.findIdx (· ==x):Nat)) H):jZ K (.ref q) [.int x] H Q:=by
 have c:xs.findIdx (· ==x)<xs.length:=Um ⟨x,k,by simp⟩
 have i:∀ a b:Int,PyData.eqv (.int a) (.int b)=decide (a=b):=λa b=>by
  rw[PyData.eqv];by_cases h:a=b
  . subst h;simp
  . simp[h]
 refine⟨xs.map PyData.int,.int x,xs.findIdx (· ==x),.lst (ST j) (.ints xs),.int x,or xs,rfl,?_,by lia,⟨PyData.int xs[xs.findIdx (· ==x)],?_,?_⟩,λm e d g=>?_,h⟩
 . rw[jW];lia
 . rw[SI,Sy c];rfl
 . have:=VN (w:=c);rw[i,Sz]
   simpa using this
 . have f:m<xs.length:=by lia
   rw[SI,Sy f]at g;cases g;have:=WB d;rw[i,Tf]
   simpa using this
def d8(xs:∅)(x:Int):Nat:=xs.findIdx (· ==x)
def ordB(cs ms:∅):Bool:=decide (ms.length=2)&&(decide (ms.getD 0 0∈cs)&&(decide (ms.getD 1 0∈cs)&&decide (d8 cs (ms.getD 0 0)<d8 cs (ms.getD 1 0))))
def fZ(K:Frag):Sp:=#[3,∃ C M cs a,vs=[.ref C,.ref M]/\H C=↥(cs.map V.int)/\cs.length<=63/\H M=↥(a.map V.int)/\Q (.bl (ordB cs a)) H]
def f6(K:Frag):TS:=#[":goOmdDbqAa1cef#2 OmdKbRdk1ef#0 0mdKbRdk1ef#1 0jeHBpjd<GbM~zb0adk1ef#0 cGbM~zb0adk1ef#1 c"]
theorem tJ(h:fZ K vs H Q E):f6 K (eD9 Q) (start ["cells","more"] vs) H:=by
 obtain⟨C,M,cs,a,rfl,d,i,e,q⟩:=h;ac_nf;unfold f6;rw[aK,aF];symm;rw[aZ e,Sx];symm;unfold ordB at q
 have e1:decide ((a.length:Int)=2)=decide (a.length=2):=by
  rw[Tb,Sz,Sz];lia
 rw[e1]
 cases f:decide (a.length=2) with
 | false=>
  rw[f,S1]at q;symm;exact q
 | true=>
  rw[f,S7]at q;have g:=SG f;exists ixI e #[1] #[4] ?_;rw[show(0:Int).toNat=0 from rfl];symm;rw[jY d]
  cases c:decide (a.getD 0 0∈cs) with
  | false=>
   rw[c,S1]at q;refine⟨true,rfl,iteT ?_⟩;symm;exact q
  | true=>
   rw[c,S7]at q;refine⟨false,rfl,iteF ?_⟩;exists ixI e #[1] #[4] ?_;rw[show(1:Int).toNat=1 from rfl];symm;rw[jY d]
   cases b:decide (a.getD 1 0∈cs) with
   | false=>
    rw[b,S1]at q;refine⟨true,rfl,iteT ?_⟩;symm;exact q
   | true=>
    rw[b,S7]at q;refine⟨false,rfl,iteF ?_⟩;exists⟨br d,?_⟩;refine ixI e #[1] #[4] ?_;rw[show(0:Int).toNat=0 from rfl];exists lJ d (SG c) #[4] ?_;exists⟨br d,?_⟩;refine ixI e #[1] #[4] ?_;rw[show(1:Int).toNat=1 from rfl];exists lJ d (SG b) #[4] ?_;symm
    have e2:decide (((cs.findIdx (· ==a.getD 0 0):Nat):Int) < ((cs.findIdx (· ==a.getD 1 0):Nat):Int))=decide (d8 cs (a.getD 0 0)<d8 cs (a.getD 1 0)):=by
     rw[Tb,Sz,Sz];unfold d8;lia
    rw[e2];exact q
def orM(Sj:∅)(ms:∅):Int:=Builtin.bitOr (Sj.getD (ms.getD 0 0).toNat 0) (Sj.getD (ms.getD 1 0).toNat 0)
def pairB(cs Sj:∅)(z s:Int)(ms:∅):Bool:=ordB (cs.filter λx=>!decide (x=z)) ms&&decide (((sgL (orM Sj ms)).filter λx=>!decide (x=s)).length<=1)
theorem Ju{a b:Int}(c:0<=a)(d:0<=b):Builtin.bitOr a b=((a.toNat||| b.toNat:Nat):Int):=by
 have f:∀{x:Int},0<=x->decide (0<= -x-1)=false/\ -(-x-1)-1=x:=λh=>⟨SE #[4],by lia⟩;unfold Builtin.bitOr Builtin.bitAnd Builtin.bitNot;rw[(f c).1,(f d).1];show -(-((((-(-a-1)-1).toNat||| (-(-b-1)-1).toNat:Nat):Int))-1)-1=_;rw[(f c).2,(f d).2];lia
theorem zd{a b:Int}(d:0<=a)(f:a<64)(c:0<=b)(e:b<64):0<=Builtin.bitOr a b/\Builtin.bitOr a b<64:=by
 have l:a.toNat||| b.toNat<2^6:=Nat.or_lt_two_pow #[4] #[4];rw[Ju d c];lia
theorem NH:((List.range 64).all λm=>decide (Builtin.Int.intBits (m:Int)<=6)&&decide (sgL (m:Int)=(([0,1,2,3,4,5]:List Nat).filter λ(i:Nat)=>stB (m:Int) (1+(i:Int))).map λ(i:Nat)=>1+(i:Int)))=true:=by decide+kernel
theorem dL(b:0<=m)(a:m<64):Builtin.Int.intBits m<=6/\sgL m=(([0,1,2,3,4,5]:List Nat).filter λ(i:Nat)=>stB m (1+(i:Int))).map λ(i:Nat)=>1+(i:Int):=by
 have t:=SK.mp NH m.toNat (SQ.mpr #[4]);have e1:((m.toNat:Nat):Int)=m:=by lia
 rw[e1,SA,Sz,Sz]at t;exact t
theorem ze{i:Int}(b:∀ m∈Sj,0<=m/\m<64)(d:0<=i)(c:i<Sj.length):0<=Sj.getD i.toNat 0/\Sj.getD i.toNat 0<64:=by
 have a:i.toNat<Sj.length:=by lia
 rw[List.getD,Sy a];exact b _ (S9 a)
def ko(K:Frag)(c:WY):Sp:=#[3,∃ k r p A M d cs Sj b n m z s,vs=[.ref r,.ref A,.int z,.int s,.ref M]/\IsRule H c k r p d cs n m/\aO cs Sj.length/\(∀ m∈Sj,0<=m/\m<64)/\H A=↥(Sj.map V.int)/\H M=↥(b.map V.int)/\∀ a,Same H a->Q (.bl (pairB cs Sj z s b)) a]
def gN(K:Frag)(c:WY):TS:=#[":gl,-bad{Ddk1dk4ef#0 dk1dk4ef#1 ci#5 jd(qAav&--3 sb5i#1 mdDb121cef#1 "]
def kq(K:Frag)(c:WY):TS:=#[":goPz,{Eba,+bha0a2ca4cjeHBp{Fbh"]
theorem uO {A M:Addr} {ms:∅} {s:Int} {w:V} (p:aO cs Sj.length) (j:∀ m∈Sj,0<=m/\m<64) (o:H A=↥(Sj.map V.int)) (n:H M=↥(ms.map V.int)) (h:ordB (cs.filter λx=>!decide (x=z)) ms=true)
  (q:∀ i,Same H i->Q (.bl (decide (((sgL (orM Sj ms)).filter λx=>!decide (x=s)).length<=1))) i):
  gN K c (eD9 Q) [some w,↑A,⇑z,⇑s,↑M,none] H:=by
 unfold ordB at h;simp only[SA,Sz]at h;obtain⟨F,C,v,_⟩:=h;have d:=p.2 _ (SJ.mp C).1;have f:=p.2 _ (SJ.mp v).1;have k0:=ze j d.1 d.2;have k1:=ze j f.1 f.2;have e:=zd k0.1 k0.2 k1.1 k1.2;have G:=(dL e.1 e.2).1;unfold gN;exists ixI n #[1] #[4] ?_;rw[show(0:Int).toNat=0 from rfl];exists ixI o d.1 d.2 ?_;exists ixI n #[1] #[4] ?_;rw[show(1:Int).toNat=1 from rfl];exists ixI o f.1 f.2 ?_;exists⟨_,rfl,by lia,λl t s1 r u=>?_⟩;have a:t l=↥((sgL (orM Sj ms)).map V.int):=u
 have B:(sgL (orM Sj ms)).length<=6:=by
  unfold orM;rw[(dL e.1 e.2).2,Sx];exact SV _ _
 exists⟨⟨_,ST a⟩,?_⟩;refine ba (xs:=sgL (orM Sj ms)) (λx=>!decide (x=s)) (λx=>x) #[4] (ST a) ?_ ?_ ?_
 . intro x b R D g k2;show tTest _ [none,⇑x,⇑s] b R;exists k2 _ (SF _)
 . intro x b y D I g k2;show tVar 1 [none,⇑x,⇑s] b y;exists k2 _ (SF _)
 . intro T b E g k;rw[Ud]at k;symm;rw[aZ k,Sx];symm
   have e2:decide ((((sgL (orM Sj ms)).filter λx=>!decide (x=s)).length:Int)<=1)=decide (((sgL (orM Sj ms)).filter λx=>!decide (x=s)).length<=1):=by
    rw[Tb,Sz,Sz];lia
   rw[e2];exact q _ (s1.trans g)
theorem zg(h:ko K c vs H Q E):kq K c (eD9 Q) (start ["rule","masks","cell","sign","more","together"] vs) H:=by
 obtain⟨k,r,p,A,M,o,cs,Sj,d,n,m,z,s,rfl,x,a,i,l,e,q⟩:=h;ac_nf;unfold kq;rw[aK,aF];exists⟨k,r,p,o,cs,n,m,z,rfl,x,a.1,λO t s1 u j=>?_⟩;exists⟨O,M,_,d,rfl,j,SW (SV _ _) a.1,s1 _ _ e,?_⟩;unfold pairB at q
 cases b:ordB (cs.filter λx=>!decide (x=z)) d with
 | false=>
  rw[b,S1]at q;refine⟨false,rfl,iteT ?_⟩;exists q _ s1
 | true=>
  rw[b,S7]at q;refine⟨true,rfl,iteF ?_⟩;exact uO a i (s1 _ _ l) (s1 _ _ e) b λf g=>q f (s1.trans g)
theorem Mp(t:TK):decide (tkC t=s!"step")=decide (t=.step):=by cases t <;> decide
theorem Gy(xs:List V){a b:Nat}(c:a<=b):cutV xs (some (a:Int)) (some (b:Int))=(xs.drop a).take (b-a):=by
 have h1:HT.sIx xs.length 0 (some (a:Int))=min a xs.length:=by rw[HT.sIx_nat]
 have h2:HT.sIx xs.length xs.length (some (b:Int))=min b xs.length:=by rw[HT.sIx_nat]
 unfold cutV;rw[h1,h2];by_cases e:a<=xs.length
 . rw[VU e];by_cases d:b<=xs.length
   . rw[VU d]
   . rw[VF #[4],Tj (by simp),Tj (by simp;lia)]
 . rw[VF #[4],VF #[4],VG,WC #[4]];simp
theorem md {k:Nat} {a:Addr} {te:TE} {fin:Addr->Hp->Prop} {d:St} {b:Hp} (f:Int->Bool) (q:xs.length<=900) (n:SqL K b a (xs.map V.int))
  (p:∀ x H Q,x∈xs->Same b H->(∀ c,Same H c->Q (.bl (f x)) c)->te (d.set k ⇑x) H Q)
  (o:∀ l H,b l=none->Same b H->H l=↥((xs.map f).map V.bl)->fin l H):
  CompR (Itl K a) (gName k) tTrue te fin d b:=by
 refine bK (xs:=xs.map V.int) (λ_=>true) (λi=>.bl (f (xs.getD i 0))) (by rw[Sx];exact q) n ?_ ?_ ?_
 . intro i x H R e s1 k1;exact k1 _ (SF _)
 . intro i x H Q e r s1 h;obtain⟨z,g,rfl⟩:=aL e;have h2:=h;simp only[bJ g]at h2;exact p z H Q (SH g) s1 h2
 . intro l H m s1 j;refine o l H m s1 ?_;rw[j,aY,Sx,Te]
   congr 2
   exact i7 xs λx=>V.bl (f x)
def ahdL(cs:∅)(z:Int):∅:=if 0<d8 cs z then [cs.getD (d8 cs z-1) 0] else []
def behL(cs:∅)(z:Int):∅:=if d8 cs z+1<cs.length then [cs.getD (d8 cs z+1) 0] else []
def Dj(h:z∈cs):d8 cs z<cs.length:=Um ⟨z,h,by simp⟩
theorem Gz{o:Int}(h:z∈cs)(a:o∈ahdL cs z):o∈cs:=by
 have:=Dj h;unfold ahdL at a
 split at a
 . rw[SO.mp a,List.getD,Sy #[4]];exact S9 _
 . cases a
theorem GA{o:Int}(a:o∈behL cs z):o∈cs:=by
 unfold behL at a
 split at a
 . rename_i h
   rw[SO.mp a,List.getD,Sy h];exact S9 _
 . cases a
theorem Eg(cs:∅)(k:Nat):(cs.drop k).take 1=if k<cs.length then [cs.getD k 0] else []:=by
 by_cases h:k<cs.length
 . rw[SY h,Up h,List.getD,Sy h];rfl
 . rw[SS h,WC #[4]];rfl
def qK(K:Frag)(c:WY):Sp:=#[3,∃ k r p b cs n m z,vs=[.ref r,.int z]/\IsRule H c k r p b cs n m/\cs.length<=63/\z∈cs/\∀ l a,Same H a->H l=none->a l=↥((ahdL cs z).map V.int)->Q (.ref l) a]
def qL(K:Frag)(c:WY):TS:=#[":glthE~u~vbh0ci#2 glGbM~zb2a1ci#3 j~amd>3ef#0 ]^2*dV3ef#1 *3uc"]
theorem FQ(h:qK K c vs H Q E):qL K c (eD9 Q) (start ["rule","cell","spots","place"] vs) H:=by
 obtain⟨k,r,p,t,cs,n,m,z,rfl,x,w,e,q⟩:=h;obtain⟨v,W,C,h1,h2,h3⟩:=x.ex;have s:=Dj e;ac_nf;unfold qL;rw[aK,bP];refine methE (k:=k) rfl x.ok h1 (by rfl) ?_;exists⟨r,p,t,cs,n,m,rfl,x,λS i=>?_⟩;obtain⟨u,g,s1,b⟩:=aU (.lst (cs.map V.int)) i;rw[g];exists⟨br b,?_⟩;refine lJ b e #[4] ?_;have f:(cs.findIdx (· ==z))=d8 cs z:=rfl;rw[f];unfold ahdL at q;generalize d8 cs z=j at*;symm;by_cases d:0<j
 . rw[SY d]at q;rw[SB (show(0:Int) < (j:Int) by lia)];refine iteT ?_;refine sW b λl a=>?_;have o:(j:Int)-1=((j-1:Nat):Int):=by lia
   rw[o,Gy _ #[4],show j - (j-1)=1 by lia,← Vj,← U0,Eg,SY #[4]];exact q l _ (s1.laid a) (s1.free a) aj
 . rw[SS d]at q;rw[SE (show ¬ (0:Int) < (j:Int) by lia)];refine iteF ?_;refine⟨aX #[1],λl a=>?_⟩;exact q l _ (s1.laid a) (s1.free a) aj
def uP(K:Frag)(c:WY):Sp:=#[3,∃ k r p b cs n m z,vs=[.ref r,.int z]/\IsRule H c k r p b cs n m/\cs.length<=63/\z∈cs/\∀ l a,Same H a->H l=none->a l=↥((behL cs z).map V.int)->Q (.ref l) a]
def uQ(K:Frag)(c:WY):TS:=#[":glthE~u~vbh0ci#2 glGbM~zb2a1ci#3 j]^2*dw3ef#1 *dw3ef#2 "]
theorem Jv(h:uP K c vs H Q E):uQ K c (eD9 Q) (start ["rule","cell","spots","place"] vs) H:=by
 obtain⟨k,r,p,o,cs,n,m,z,rfl,x,v,s,q⟩:=h;obtain⟨u,W,C,h1,h2,h3⟩:=x.ex;ac_nf;unfold uQ;rw[aK,bP];refine methE (k:=k) rfl x.ok h1 (by rfl) ?_;exists⟨r,p,o,cs,n,m,rfl,x,λS g=>?_⟩;obtain⟨t,f,s1,a⟩:=aU (.lst (cs.map V.int)) g;rw[f];exists⟨br a,?_⟩;refine lJ a s #[4] ?_;have e:(cs.findIdx (· ==z))=d8 cs z:=rfl;rw[e];unfold behL at q;generalize d8 cs z=j at*;exists sW a λl b=>?_;have i:(j:Int)+1=((j+1:Nat):Int):=by lia
 have d:(j:Int)+2=((j+2:Nat):Int):=by lia
 rw[i,d,Gy _ #[4],show j+2 - (j+1)=1 by lia,← Vj,← U0,Eg];exact q l _ (s1.laid b) (s1.free b) aj
def nogB(s m:Int):Bool:=(sgL m).all λx=>decide (s<=x)
def nolB(s m:Int):Bool:=(sgL m).all λx=>decide (x<=s)
theorem LD(b:0<=m)(a:m<64):(sgL m).length<=6:=by
 rw[(dL b a).2,Sx];exact SV _ _
def jw(K:Frag):Sp:=#[3,∃ s m:Int,vs=[.int s,.int m]/\0<=m/\m<64/\∀ a,Same H a->Q (.bl (nogB s m)) a]
def jx(K:Frag):TS:=#[":jqZav&--0 sb,-ba1ci#1 Cd(21c"]
theorem xO(h:jw K vs H Q E):jx K (eD9 Q) (start ["sign","mask"] vs) H:=by
 obtain⟨s,m,rfl,d,b,q⟩:=h;have k:=(dL d b).1;have o:=LD d b;exists jx;refine⟨m,rfl,by lia,λl n s1 j f=>?_⟩;refine⟨l,rfl,⟨_,ST f⟩,?_⟩;refine md (xs:=sgL m) (λx=>decide (s<=x)) #[4] (ST f) ?_ ?_
 . intro x e i r c k2;show tOp _ _ _ [none,⇑x,⇑s] e i;exists k2 _ (SF _)
 . intro p e g c a;exists j2 a ?_;rw[Ur];exact q _ (s1.trans c)
def mU(K:Frag):Sp:=#[3,∃ s m:Int,vs=[.int s,.int m]/\0<=m/\m<64/\∀ a,Same H a->Q (.bl (nolB s m)) a]
def mV(K:Frag):TS:=#[":jqZav&--0 sb,-ba1ci#1 Cd)21c"]
theorem Cv(h:mU K vs H Q E):mV K (eD9 Q) (start ["sign","mask"] vs) H:=by
 obtain⟨s,m,rfl,d,b,q⟩:=h;have k:=(dL d b).1;have o:=LD d b;exists mV;refine⟨m,rfl,by lia,λl n s1 j f=>?_⟩;refine⟨l,rfl,⟨_,ST f⟩,?_⟩;refine md (xs:=sgL m) (λx=>decide (x<=s)) #[4] (ST f) ?_ ?_
 . intro x e i r c k2;show tOp _ _ _ [none,⇑x,⇑s] e i;exists k2 _ (SF _)
 . intro p e g c a;exists j2 a ?_;rw[Ur];exact q _ (s1.trans c)
def stpB(cs Sj:∅)(z s:Int):Bool:=((ahdL cs z).any λo=>nogB s (Sj.getD o.toNat 0))||((behL cs z).any λo=>nolB s (Sj.getD o.toNat 0))
def stepB(cs Sj:∅)(z s:Int)(ms:∅):Bool:=decide (ms=[])&&stpB cs Sj z s
def kr(K:Frag)(c:WY):Sp:=#[3,∃ k r p A M d cs Sj b n m z s,vs=[.ref r,.ref A,.int z,.int s,.ref M]/\IsRule H c k r p d cs n m/\aO cs Sj.length/\z∈cs/\(∀ m∈Sj,0<=m/\m<64)/\H A=↥(Sj.map V.int)/\H M=↥(b.map V.int)/\∀ a,Same H a->Q (.bl (stepB cs Sj z s b)) a]
def gO(K:Frag)(c:WY):TS:=#[":gozq'cav&--13 sb,{Gbha0a2ci#1 C,{Hba3adk21ccjeHRpjq'cav&--13 sb,{Ibha0a2ci#1 C,{Jba3adk21cc"]
def kt(K:Frag)(c:WY):TS:=#[":gomdDb4ucjeHBp{Kbh"]
theorem uR {k:RK} {r p A M:Addr} {i:List (List Nat)} {n s:Int} (x:IsRule H c k r p i cs n m) (f:aO cs Sj.length) (j:z∈cs) (E:∀ m∈Sj,0<=m/\m<64) (G:H A=↥(Sj.map V.int))
  (q:∀ D,Same H D->Q (.bl (stpB cs Sj z s)) D):
  gO K c (eD9 Q) [↑r,↑A,⇑z,⇑s,↑M] H:=by
 have Y:(ahdL cs z).length<=1:=by unfold ahdL;split <;> simp
 have X:(behL cs z).length<=1:=by unfold behL;split <;> simp
 unfold gO;rw[aK,aF];exists⟨k,r,p,i,cs,n,m,z,rfl,x,f.1,j,λl W s1 T C=>?_⟩;refine⟨l,rfl,⟨_,ST C⟩,?_⟩;refine md (xs:=ahdL cs z) (λo=>nogB s (Sj.getD o.toNat 0)) #[4] (ST C) ?_ ?_
 . intro o y P t h k2;have b:=f.2 o (Gz j t);have d:=ze E b.1 b.2;show tCall _ _ _ _ [none,⇑o,↑A,⇑s] y P;exists ixI ((s1.trans h) _ _ G) b.1 b.2 ?_;exact⟨s,_,rfl,d.1,d.2,k2⟩
 . intro Z y I h v;exists Hj v ?_;have a:=s1.trans h;rw[WU];unfold stpB at q;have N:(ahdL cs z).any (id ∘ λo=>nogB s (Sj.getD o.toNat 0))=(ahdL cs z).any λo=>nogB s (Sj.getD o.toNat 0):=rfl;rw[N]
   cases F:(ahdL cs z).any λo=>nogB s (Sj.getD o.toNat 0) with
   | true=>
    rw[F,UY]at q;refine⟨true,rfl,iteT ?_⟩;exists q _ a
   | false=>
    rw[F,TY]at q;refine⟨false,rfl,iteF ?_⟩;exists⟨k,r,p,i,cs,n,m,z,rfl,x.same a,f.1,j,λR U B O e=>?_⟩;refine⟨R,rfl,⟨_,ST e⟩,?_⟩;refine md (xs:=behL cs z) (λo=>nolB s (Sj.getD o.toNat 0)) #[4] (ST e) ?_ ?_
    . intro o w J t g k4;have b:=f.2 o (GA t);have d:=ze E b.1 b.2;show tCall _ _ _ _ [none,⇑o,↑A,⇑s] w J;exists ixI (((a.trans B).trans g) _ _ G) b.1 b.2 ?_;exact⟨s,_,rfl,d.1,d.2,k4⟩
    . intro S w L g u;exists Hj u ?_;rw[WU];exact q _ ((a.trans B).trans g)
theorem zh(h:kr K c vs H Q E):kt K c (eD9 Q) (start ["rule","masks","cell","sign","more"] vs) H:=by
 obtain⟨k,r,p,A,M,t,cs,Sj,d,n,m,z,s,rfl,x,e,o,g,l,i,q⟩:=h;ac_nf;unfold kt;rw[aK,aF];exists⟨aX #[1],λZ j=>?_⟩;obtain⟨H1,z9,s1,eZ⟩:∃ z,upd H Z (.lst [])=z/\Same H z/\z Z=↥(([]:∅).map V.int):=aU _ j;rw[z9];refine sV (s1 _ _ i) eZ ?_;unfold stepB at q
 cases a:decide (d=[]) with
 | false=>
  rw[a,S1]at q;refine⟨true,rfl,?_⟩;exists q _ s1
 | true=>
  rw[a,S7]at q;refine⟨false,rfl,?_⟩;exists uR (x.same s1) e o g (s1 _ _ l) λb f=>q b (s1.trans f)
section
variable{X:Cx}
def minI(ns:∅):Int:=ns.getD (argBest (λi j=>decide (ns.getD i 0<ns.getD j 0)) (ns.length-1)) 0
def maxI(ns:∅):Int:=ns.getD (argBest (λi j=>decide (ns.getD i 0>ns.getD j 0)) (ns.length-1)) 0
end
def t3(xs:∅):xs.filter (λ_=>true)=xs:=UN.mpr λ_ _=>rfl
def loM(m:Int):Int:=(sgL m).getD 0 0
def hiM(m:Int):Int:=(sgL m).getD ((sgL m).length-1) 0
theorem NI:((List.range 64).all λm=>decide (m=0)||(decide (0 < (sgL (m:Int)).length/\(sgL (m:Int)).length<=6)&&(decide (minI (sgL (m:Int))=loM (m:Int)/\maxI (sgL (m:Int))=hiM (m:Int))&&decide ((1<=loM (m:Int)/\loM (m:Int)<=6)/\1<=hiM (m:Int)/\hiM (m:Int)<=6))))=true:=by decide+kernel
theorem Hu{m:Int}(c:0<=m)(b:m<64)(a:m≠0):(0 < (sgL m).length/\(sgL m).length<=6)/\(minI (sgL m)=loM m/\maxI (sgL m)=hiM m)/\(1<=loM m/\loM m<=6)/\1<=hiM m/\hiM m<=6:=by
 have t:=SK.mp NI m.toNat (SQ.mpr #[4]);have e1:((m.toNat:Nat):Int)=m:=by lia
 rw[e1,TD,Sz,SA,SA,Sz,Sz,Sz]at t;rcases t with t | t
 . lia
 . exact t
theorem Jw:sgL 0=[]:=by decide+kernel
theorem zi{xs:∅}(h:0<xs.length):atI (xs.map V.int) (-1)=some (V.int (xs.getD (xs.length-1) 0)):=by
 unfold atI ixN;rw[Sx,SS #[1],SY #[4]];show(xs.map V.int)[((xs.length:Int)+ -1).toNat]? =_;rw[show((xs.length:Int)+ -1).toNat=xs.length-1 by lia,SI,Sy #[4],List.getD,Sy #[4]];rfl
def smB(a:∅)(n s:Int):Bool:=decide (0∈a)||(decide (n<s+(a.map loM).sum)||decide (s+(a.map hiM).sum<n))
def sumB(cs:∅)(n:Int)(Sj:∅)(z s:Int)(ms:∅):Bool:=decide (ms=[])&&smB (sgAt Sj (othL cs z)) n s
def f7(K:Frag):Sp:=#[3,∃(A:Addr) (a:∅),vs=[.ref A]/\H A=↥(a.map V.int)/\Q (.bl (decide (0∈a))) H]
def tK(K:Frag):TS:=#[":jdKbBef#0 0"]
variable{K:Frag}{vs:List V}{H:Hp}{Q:VK}{E:XK}
theorem Hv(h:f7 K vs H Q E):tK K (eD9 Q) (start ["masks"] vs) H:=by
 obtain⟨A,b,rfl,a,q⟩:=h;exists tK;rw[sS a];exact q
variable{cs:∅}
def OB{Sj:∅}{z:Int}(d:aO cs Sj.length)(c:∀ m∈Sj,0<=m/\m<64):∀ m∈sgAt Sj (othL cs z),0<=m/\m<64:=λm a=>by
 unfold sgAt at a;obtain⟨x,e,rfl⟩:=SL.mp a;have b:=d.2 x (SJ.mp e).1;exact ze c b.1 b.2
def lK(K:Frag)(c:WY):Sp:=#[3,∃ k r p A M d cs Sj b n m z s,vs=[.ref r,.ref A,.int z,.int s,.ref M]/\IsRule H c k r p d cs n m/\aO cs Sj.length/\(∀ m∈Sj,0<=m/\m<64)/\H A=↥(Sj.map V.int)/\H M=↥(b.map V.int)/\∀ a,Same H a->Q (.bl (sumB cs n Sj z s b)) a]
def iE(K:Frag)(c:WY):TS:=#[":gldw3q~Wav&-- sb5i#1 Cdk,-ba1cef#0 ci#6 gldw3q~Wav&-- sb5i#1 Cdk,-ba1c'A`0ef#1 ci#7 j~Hd>6thE~U~Vbh0cd<7thE~U~Vbh0c",(rU λi=>.int (-i))]
def iF(K:Frag)(c:WY):TS:=#[":gl,~rba1a,+bha0a2cci#5 goz,~Iba5cjeHRp{Lbh"]
def lL(K:Frag)(c:WY):TS:=#[":gomdDb4ucjeHBp{Mbh"]
variable{c:WY}
theorem wr {k:RK} {r p A M B:Addr} {E:List (List Nat)} {b:∅} {n m z s:Int} (x:IsRule H c k r p E cs n m) (X:b.length<=63) (f:∀ m∈b,0<=m/\m<64) (P:¬ 0∈b) (v:H B=↥(b.map V.int))
  (q:∀ J,Same H J->Q (.bl (decide (n<s+(b.map loM).sum)||decide (s+(b.map hiM).sum<n))) J):
  iE K c (eD9 Q) [↑r,↑A,⇑z,⇑s,↑M,↑B,none,none] H:=by
 have t:∀ y∈b,_:=λy a=>Hu (f y a).1 (f y a).2 (λe=>P (e ▸ a));unfold iE;exists⟨⟨_,ST v⟩,?_⟩;refine ba (xs:=b) (λ_=>true) loM #[4] (ST v) ?_ ?_ ?_
 . intro y D R a s1 k1;exact k1 _ (SF _)
 . intro y D L a g s1 k1;have I:=t y a;show tOp cIx _ _ [none,⇑y] D L;exists⟨y,rfl,by have:=(dL (f y a).1 (f y a).2);have:=this.1;lia,λl u i w G=>?_⟩;refine ixI G #[1] #[4] ?_;exact k1 _ i
 . intro Y D N s1 h;rw[t3]at h;exists Di h (λy a=>by obtain⟨z,F,rfl⟩:=SL.mp a;have:=(t z F).2.2.1;lia) (by rw[Sx];lia) ?_;exists⟨⟨_,ST (s1 _ _ v)⟩,?_⟩;refine ba (xs:=b) (λ_=>true) hiM #[4] (ST (s1 _ _ v)) ?_ ?_ ?_
   . intro y u R a i k2;exact k2 _ (SF _)
   . intro y u T a g i k2;have I:=t y a;show tOp cIx _ _ [none,⇑y] u T;exists⟨y,rfl,by have:=(dL (f y a).1 (f y a).2);have:=this.1;lia,λl U O S G=>?_⟩;refine ixL G (zi I.1.1) ?_;exact k2 _ O
   . intro l2 u w i j;rw[t3]at j;exists Di j (λy a=>by obtain⟨z,F,rfl⟩:=SL.mp a;have:=(t z F).2.2.2;lia) (by rw[Sx];lia) ?_;symm;have d:=s1.trans i;have o:=x.same d;obtain⟨Z,W,C,h1,h2,h3⟩:=o.ex;refine methE (k:=k) rfl o.ok h1 (by rfl) ?_;exists⟨r,p,E,cs,n,m,rfl,o,?_⟩;symm;by_cases g:n<s+(b.map loM).sum
     . rw[SB g,UY]at q;rw[SB g];exists q _ d
     . rw[SE g,TY]at q;rw[SE g];exists methE (k:=k) rfl o.ok h1 (by rfl) ?_;exists⟨r,p,E,cs,n,m,rfl,o,?_⟩;exists q _ d
theorem wt {k:RK} {r p A M:Addr} {f:List (List Nat)} {Sj:∅} {n m z s:Int} (x:IsRule H c k r p f cs n m) (e:aO cs Sj.length) (j:∀ m∈Sj,0<=m/\m<64) (v:H A=↥(Sj.map V.int))
  (q:∀ d,Same H d->Q (.bl (smB (sgAt Sj (othL cs z)) n s)) d):
  iF K c (eD9 Q) [↑r,↑A,⇑z,⇑s,↑M,none,none,none] H:=by
 have b:aO (othL cs z) Sj.length:=⟨SW (SV _ _) e.1,λy u=>e.2 y (SJ.mp u).1⟩;have o:(sgAt Sj (othL cs z)).length<=63:=by unfold sgAt;rw[Sx];exact b.1
 have l:=OB (z:=z) e j;unfold iF;exists⟨k,r,p,f,cs,n,m,z,rfl,x,e.1,λO C s1 E t=>?_⟩;exists⟨A,O,Sj,othL cs z,rfl,s1 _ _ v,t,b,λB D i w g=>?_⟩;have a:=s1.trans i;generalize sgAt Sj (othL cs z)=os at*;symm;rw[aF];exists⟨B,os,rfl,g,?_⟩;unfold smB at q;by_cases h0:0∈os
 . rw[SB h0,UY]at q;rw[SB h0];refine⟨true,rfl,?_⟩;exists q _ a
 . rw[SE h0,TY]at q;rw[SE h0];refine⟨false,rfl,?_⟩;exists wr (x.same a) o l h0 g λd h=>q d (a.trans h)
theorem AU(h:lK K c vs H Q E):lL K c (eD9 Q) (start ["rule","masks","cell","sign","more","some","least","greatest"] vs) H:=by
 obtain⟨k,r,p,A,M,o,cs,Sj,d,n,m,z,s,rfl,x,e,g,l,i,q⟩:=h;ac_nf;unfold lL;rw[aK,aF];exists⟨aX #[1],λZ j=>?_⟩;obtain⟨H1,z9,s1,eZ⟩:∃ z,upd H Z (.lst [])=z/\Same H z/\z Z=↥(([]:∅).map V.int):=aU _ j;rw[z9];refine sV (s1 _ _ i) eZ ?_;unfold sumB at q
 cases a:decide (d=[]) with
 | false=>
  rw[a,S1]at q;refine⟨true,rfl,?_⟩;exists q _ s1
 | true=>
  rw[a,S7]at q;refine⟨false,rfl,?_⟩;exists wt (x.same s1) e g (s1 _ _ l) λb f=>q b (s1.trans f)
theorem Jx(t:TK):decide (tkC t=s!"sum")=decide (t=.sum):=by cases t <;> decide
def uS(K:Frag)(c:WY):Sp:=cS K c .Sum
def oO(K:Frag)(c:WY):TS:=#[":jdrbq~WathE~O~Pbh0a1ccJh0~D"]
def NJ{xs:∅}{n:Nat}(d:aO cs n)(g:n=xs.length)(f:∀ x∈xs,0<=x/\x<=1000):∀ x∈sgAt xs cs,0<=x/\x<=1000:=λx b=>by
 unfold sgAt at b;obtain⟨c,e,rfl⟩:=SL.mp b;have:=d.2 c e;have a:c.toNat<xs.length:=by omega
 rw[List.getD,Sy a];exact f _ (S9 a)
theorem Eh(h:uS K c vs H Q E):oO K c (eD9 Q) (start ["self","filling"] vs) H:=by
 obtain⟨r,p,f,d,cs,xs,n,m,h,w,g,rfl,x,s,F,e,a,i,q⟩:=h;obtain⟨u,W,C,h1,h2,h3⟩:=x.ex;exists oO;refine methE rfl x.ok h1 (by rfl) ?_;exists⟨r,p,f,d,cs,xs,n,m,rfl,x,e,a,λl t s1 o j=>?_⟩;have k:(sgAt xs cs).length<=100:=by unfold sgAt;rw[Sx];exact SW a.1 #[1]
 exists Di j (λy b=>by have:=NJ a rfl i y b;lia) #[4] ?_;refine fldE rfl x.ok (s1 _ _ h1) (v:=.int n) (by rfl) ?_;exists q _ s1
theorem GB:∀ l:∅,risB l=(List.range (l.length-1)).all λi=>decide (l.getD i 0<l.getD (i+1) 0)
 | []=>rfl
 | [x]=>rfl
 | x::y::r=>by
  have a:=GB (y::r);show(decide (x<y)&&risB (y::r))=(List.range (r.length+1)).all λi=>decide ((x::y::r).getD i 0 < (x::y::r).getD (i+1) 0);rw[a,List.range_succ_eq_map,VI,Ur];rfl
def pU(K:Frag)(c:WY):Sp:=cS K c .Rising
def ku(K:Frag)(c:WY):TS:=#[":glthE~O~Pbh0a1ci#2 jqZav&--2 [adVqAa2cef#1 ci#1 Cd<dk21dk2dw1ef#1 c"]
theorem zj(h:pU K c vs H Q E):ku K c (eD9 Q) (start ["self","filling","signs"] vs) H:=by
 obtain⟨r,p,f,u,cs,xs,n,m,h,w,g,rfl,x,I,F,y,o,N,q⟩:=h;obtain⟨L,W,C,h1,h2,h3⟩:=x.ex;exists ku;refine methE rfl x.ok h1 (by rfl) ?_;exists⟨r,p,f,u,cs,xs,n,m,rfl,x,y,o,λl G s1 D j=>?_⟩;have B:(sgAt xs cs).length<=100:=by unfold sgAt;rw[Sx];exact SW o.1 #[1]
 have t:∀ k,Same H k->Q (.bl (risB (sgAt xs cs))) k:=q;generalize sgAt xs cs=sg at*;symm;rw[aZ j,Sx];exists⟨_,rfl,by lia,by lia,?_⟩;have v:((sg.length:Int)-1).toNat=sg.length-1:=by lia
 rw[v];refine wI (λ_=>true) (λi=>.bl (decide (sg.getD i 0<sg.getD (i+1) 0))) #[4] ?_ ?_ ?_
 . intro i d R A a k2;exact k2 _ (SF _)
 . intro i d z A J a k2;show tOp _ _ _ [none,⇑(0+(i:Int)),↑l] d z;rw[UB];exists ixI (a _ _ j) #[4] #[4] ?_;refine ixI (a _ _ j) #[4] #[4] ?_;symm;have e1:(i:Int).toNat=i:=by lia
   have e2:((i:Int)+1).toNat=i+1:=by lia
   rw[e1,e2];exact k2 _ (SF _)
 . intro M d s a b;rw[aY]at b;refine j2 (bs:=(List.range (sg.length-1)).map λi=>decide (sg.getD i 0<sg.getD (i+1) 0)) (by rw[b,Te];rfl) ?_
   have e:((List.range (sg.length-1)).map λi=>decide (sg.getD i 0<sg.getD (i+1) 0)).all id=risB sg:=by
    rw[GB,Ur];rfl
   rw[e];exact t _ (s1.trans a)
theorem KN(l:∅)(x:Int):seenN (l++[x])=if (seenN l).1<x then(x,(seenN l).2+1) else seenN l:=by
 unfold seenN;rw[TX];rfl
def t4(K:Frag)(c:WY):Sp:=cS K c .Seen
def mW(K:Frag)(c:WY):TS:=#[":glef#0 i#2 glef#0 i#3 gIsbthE~O~Pbh0a1ci#4 omd>42gl4i#2 ldw3ef#1 i#3 pjdrb3Jh0~D"]
theorem Cw(h:t4 K c vs H Q E):mW K c (eD9 Q) (start ["self","filling","greatest","seen","sign"] vs) H:=by
 obtain⟨r,p,f,D,cs,xs,n,m,h,w,g,rfl,x,J,F,G,t,M,q⟩:=h;obtain⟨L,W,C,h1,h2,h3⟩:=x.ex;exists mW;refine methE rfl x.ok h1 (by rfl) ?_;exists⟨r,p,f,D,cs,xs,n,m,rfl,x,G,t,λl A s1 I o=>?_⟩;have s:∀ a,Same H a->Q (.bl (decide ((seenN (sgAt xs cs)).2=n))) a:=q;generalize sgAt xs cs=sg at*;exists⟨⟨_,ST o⟩,bg (K:=K) (xs:=sg.map V.int) (λi σ a=>∃ k:Option V,σ=[↑r,↑f,some (.int (seenN (sg.take i)).1),some (.int (seenN (sg.take i)).2),k]/\a=A) ⟨none,rfl,rfl⟩ (λi σ a _ ⟨_,_,e⟩=>by rw[e];exact ST o) ?_ ?_⟩
 . rintro i y σ B d ⟨k,rfl,rfl⟩;rw[SI]at d
   cases e:sg[i]? with
   | none=>rw[e]at d;cases d
   | some z=>
    rw[e]at d;cases d;have u:sg.take (i+1)=sg.take i++[z]:=by rw[U9,e];rfl
    have b:=KN (sg.take i) z;rw[← u]at b;symm;rw[aF];symm;by_cases j:(seenN (sg.take i)).1<z
    . rw[SB j];rw[SY j]at b;refine iteT ?_;rw[b];exact⟨_,rfl,by first | trivial | rfl⟩
    . rw[SE j];rw[SS j]at b;refine iteF ?_;rw[b];exact⟨_,rfl,by first | trivial | rfl⟩
 . rintro σ B ⟨k,rfl,rfl⟩;rw[Sx,TH];exists fldE rfl x.ok (s1 _ _ h1) (v:=.int n) (by rfl) ?_;exists s _ s1
def rj(K:Frag)(c:WY):Sp:=λvs H Q E=>∃ k,jS K c k vs H Q E
def lN(K:Frag)(c:WY):TS:=#[":jv&--10 ~NbJh0~Li#1 mdrbdk21Jh3~/1"]
theorem AV(h:rj K c vs H Q E):lN K c (eD9 Q) (start ["self","filling"] vs) H:=by
 obtain⟨k,r,p,f,u,cs,xs,n,m,rfl,x,g,⟨t,i⟩,q⟩:=h;obtain⟨s,W,C,h1,h2,h3⟩:=x.ex;ac_nf;unfold lN;rw[cV,AH];refine fldE rfl x.ok h1 (v:=.ref C) (by rfl) ?_;refine⟨C,rfl,⟨_,WO h3⟩,?_⟩;refine BE (xs:=cs) (λc=>decide (xs.getD c.toNat 0=m)) (λc=>c) #[4] h3 ?_ ?_ ?_
 . intro z a R d s1 k1;show tTest _ [none,⇑z,↑f,↑r] a R;symm;have:=i z d;refine ixI (s1 _ _ g) this.1 #[4] ?_;refine fldE rfl x.ok (s1 _ _ h1) (v:=.int m) (by rfl) ?_;exists k1 _ (SF _)
 . intro z a j d o s1 k1;exact k1 _ (SF _)
 . intro l a e s1 b;rw[Ud]at b;exact q l a s1 e b
def rm(K:Frag)(c:WY):Sp:=cS K c .Count
def lO(K:Frag)(c:WY):TS:=#[":jdrbqAathE~X~Ybh0a1ccJh0~D"]
theorem AW(h:rm K c vs H Q E):lO K c (eD9 Q) (start ["self","filling"] vs) H:=by
 obtain⟨r,p,f,b,cs,xs,n,m,h,w,g,rfl,x,i,F,d,a,s,q⟩:=h;obtain⟨o,W,C,h1,h2,h3⟩:=x.ex;exists lO;refine methE rfl x.ok h1 (by rfl) ?_;exists⟨r,p,f,b,cs,xs,n,m,rfl,x,d,a,λl k s1 j e=>?_⟩;symm;rw[aZ e,Sx];refine fldE rfl x.ok (s1 _ _ h1) (v:=.int n) (by rfl) ?_;exists q _ s1
theorem mem_rngL{j c:Int}:c∈rngL 0 j↔0<=c/\c<j:=by
 unfold rngL;rw[SL];constructor
 . rintro⟨k,a,rfl⟩;have:=SQ.mp a;lia
 . rintro⟨h0,h1⟩;exact⟨c.toNat,SQ.mpr #[4],by lia⟩
def oP(K:Frag):Sp:=#[3,∃(S M:Addr) (a d:∅),vs=[.ref S,.ref M]/\H S=↥(a.map V.int)/\H M=↥(d.map V.int)/\a.length<=100/\∀ b,Same H b->Q (.bl (a.all λc=>decide (c∈d))) b]
def oQ(K:Frag):TS:=#[":jqZav&--1 sb0i#1 CdKbB12c"]
variable{vs:List V}
theorem Ei{K:Frag}{H:Hp}{Q:VK}{E:XK}(h:oP K vs H Q E):oQ K (eD9 Q) (start ["some","cells"] vs) H:=by
 obtain⟨S,M,a,f,rfl,j,n,s,q⟩:=h;exists oQ;refine⟨⟨_,ST j⟩,?_⟩;refine bK (xs:=a.map V.int) (λ_=>true) (λi=>.bl (decide (a.getD i 0∈f))) (by rw[Sx];lia) (ST j) ?_ ?_ ?_
 . intro i x g R d s1 k1;exact k1 _ (SF _)
 . intro i x g m d r s1 k1;rw[SI]at d
   cases e:a[i]? with
   | none=>rw[e]at d;cases d
   | some z=>
    rw[e]at d;cases d;have k2:=k1 _ (SF g);rw[List.getD,e]at k2;show tOp (cIn K false) _ _ [none,⇑z,↑M] g m;symm;rw[sS (s1 _ _ n)];exact k2
 . intro l g p s1 k;rw[aY,Sx]at k;refine j2 (bs:=(List.range a.length).map λi=>decide (a.getD i 0∈f)) (by rw[k,Te];rfl) ?_
   have e:((List.range a.length).map λi=>decide (a.getD i 0∈f)).all id=a.all λc=>decide (c∈f):=by
    rw[Ur,Tb,SK,SK];constructor
    . intro h c o;obtain⟨i,b,rfl⟩:=Us.mp o;have:=h i (SQ.mpr b);dsimp only[Function.comp,id]at this;rw[List.getD,Sy b]at this;exact this
    . intro h i b;have b:=SQ.mp b;have:=h _ (S9 b);dsimp only[Function.comp,id];rw[List.getD,Sy b];exact this
   rw[e];exact q _ s1
def nu(K:Frag)(c:WY):Sp:=cS K c .NoSquare
theorem Mq{h w g:Int}(F:FlOk h w g):(squL h w).length<=16:=by
 obtain⟨h0,h1,e,c,a,d,b⟩:=F;unfold squL;rw[Sx];refine SW (SV _ _) ?_;rw[TW];lia
def iG(K:Frag)(c:WY):TS:=#[":glthE~X~Ybh0a1ci#2 j~]q'cav&--2 sb,'bbaJh0/ci#1 C,{Nba1a2cc"]
theorem wu{K:Frag}{c:WY}{H:Hp}{Q:VK}{E:XK}(h:nu K c vs H Q E):iG K c (eD9 Q) (start ["self","filling","cells"] vs) H:=by
 obtain⟨r,p,f,T,cs,xs,n,m,h,w,g,rfl,x,X,F,Z,hC,hx,q⟩:=h;obtain⟨dx,W,C,h1,h2,h3⟩:=x.ex;exists iG;refine methE rfl x.ok h1 (by rfl) ?_;exists⟨r,p,f,T,cs,xs,n,m,rfl,x,Z,hC,λl H1 s1 hl U=>?_⟩;exists fldE rfl x.ok (s1 _ _ h1) (v:=.ref p) (by rfl) ?_;exists⟨p,h,w,g,rfl,s1 _ _ X,F,λL O H2 I hL d _ _ _=>?_⟩;have sl:=Mq F;refine⟨L,rfl,⟨_,ST d.top⟩,?_⟩;refine bK (xs:=O.map V.ref) (λ_=>true) (λi=>.bl (((squL h w).getD i []).all λc=>decide (c∈mkAt xs cs m))) (by rw[Sx,d.len];lia) (ST d.top) ?_ ?_ ?_
 . intro i x u R hx o k3;exact k3 _ (SF _)
 . intro i y u Y a G o k3;obtain⟨b,G,rfl⟩:=bf a;have t:i < (squL h w).length:=by rw[← d.len];exact(SD.mp G).1
   have e:=Sy t;have s:(squL h w).getD i []=(squL h w)[i]:=by rw[List.getD,e];rfl
   have A:((squL h w)[i]).length<=100:=by
    have B:=S9 t;generalize (squL h w)[i]=z at B;unfold squL at B;obtain⟨j,_,rfl⟩:=SL.mp B;show 4<=100;decide
   show tCall _ _ _ _ [none,↑b,↑l] u Y;exists⟨b,l,_,_,rfl,o _ _ (d.at_ i b _ G e),o _ _ (I _ _ U),A,λP N=>?_⟩;have:=k3 P N;rw[s]at this;exact this
 . intro D u hD o J;rw[aY,Sx,d.len]at J;refine Hj (bs:=(List.range (squL h w).length).map λi=>((squL h w).getD i []).all λc=>decide (c∈mkAt xs cs m)) (by rw[J,Te];rfl) ?_
   have e:((List.range (squL h w).length).map λi=>((squL h w).getD i []).all λc=>decide (c∈mkAt xs cs m)).any id=(squL h w).any λM=>M.all λc=>decide (c∈mkAt xs cs m):=by
    rw[WU,Tb,Ug,Ug];constructor
    . rintro⟨i,a,k⟩;have a:=SQ.mp a;dsimp only[Function.comp,id]at k;have s:(squL h w).getD i []=(squL h w)[i]:=by rw[List.getD,Sy a];rfl
      rw[s]at k;exact⟨_,S9 a,k⟩
    . rintro⟨M,S,k⟩;obtain⟨i,a,rfl⟩:=Us.mp S;refine⟨i,SQ.mpr a,?_⟩;dsimp only[Function.comp,id];have s:(squL h w).getD i []=(squL h w)[i]:=by rw[List.getD,Sy a];rfl
      rw[s];exact k
   rw[e];exists q _ ((s1.trans I).trans o)
def f8(K:Frag):Sp:=#[3,∃ a l h w g c cs,vs=[.ref a,.ref l,.int c]/\IsFl H a h w g/\0<w/\w<100/\H l=↥(cs.map V.int)/\cs.length<=63/\
 ∀(p:Addr) (b:Hp) (rs:∅),Same H b->H p=none->b p=↥(rs.map V.int)->rs.Pairwise (· < ·)->(∀ x,x∈rs↔RC h w cs c x)->Q (.ref p) b]
def tL(K:Frag):TS:=#[":gomdKbR21jucpglua2ci#3 glef#0 i#4 g'Bmd<4qAa3cgIsb,~Aba0adk34ci#5 o~dmdKbB51mdKbR53TGbMW3a5cpldw4ef#1 i#4 jq~Ja3c"]
variable{K:Frag}{vs:List V}{H:Hp}{Q:VK}{E:XK}
theorem Hw(h:f8 K vs H Q E):tL K (eD9 Q) (start ["floor","cells","start","found","place","cell"] vs) H:=by
 obtain⟨a,l,h,w,g,n,cs,rfl,ha,w0,w1,hl,hn,k⟩:=h;ac_nf;unfold tL;rw[aK,aF];symm;rw[jY hl];symm;by_cases O:n∈cs
 . rw[SS (by simpa using O)];exists⟨lnR rfl,λf hf=>?_⟩
   refine⟨λm σ s=>∃(j:∅) (d:Nat) (u:Option V),σ=[↑a,↑l,⇑n,↑f,⇑d,u]/\Same H s/\s f=↥(j.map V.int)/\BI h w cs n j d/\m=cs.length-d,
    ⟨_,[n],0,none,rfl,(SF H).laid hf,aj,BI.start O,rfl⟩,?_⟩
   rintro m σ H1 ⟨j,d,u,rfl,s1,e1,B,rfl⟩;have ab:=B.len;symm;rw[aZ e1,Sx];symm;by_cases A:d<j.length
   . rw[SY (by simpa using A)];obtain⟨x,M⟩:∃ x,j[d]? =some x:=⟨j[d],by simp[A]⟩;have rx:RC h w cs n x:=B.rc x (SH M)
     refine⟨λσ s=>∃(j:∅) (u:Option V),σ=[↑a,↑l,⇑n,↑f,⇑((d:Int)+1),u]/\Same H s/\s f=↥(j.map V.int)/\BI h w cs n j (d+1),
      λσ' s ⟨W,Y,e,s',e',B'⟩=>⟨_,by lia,W,d+1,Y,by rw[e];rfl,s',e',B',rfl⟩,?_⟩
     symm;rw[Lz e1];refine bm (xy #[4] #[4]) ?_;symm;rw[show((d:Int)).toNat=d from TC _,bJ M];refine⟨a,h,w,g,x,rfl,s1 _ _ ha,w0,w1,λb H2 s2 Z e2=>?_⟩;have U:=s1.trans s2
     refine⟨b,rfl,⟨_,ST e2⟩,bg (K:=K) (xs:=(besL h w x).map V.int) (λi σ s=>∃(t:∅) (u:Option V),σ=[↑a,↑l,⇑n,↑f,⇑d,u]/\Same H s/\s b=↥((besL h w x).map V.int)/\s f=↥(t.map V.int)/\BJ h w cs n j d ((besL h w x).take i) t)
      ⟨j,u,rfl,U,e2,s2 _ _ e1,BJ.zero B⟩ (λi σ s _ ⟨_,_,_,_,q,_⟩=>ST q) ?_ ?_⟩
     . rintro i y σ R G ⟨t,F,rfl,P,eb,C,J⟩;rw[SI]at G
       cases S:(besL h w x)[i]? with
       | none=>rw[S]at G;cases G
       | some z=>
        rw[S]at G;cases G;have X:t.length<=63:=SW (fW J.nd λx M=>(J.rc x M).mem) hn;have L:z∈besL h w x:=SH S;have v:(besL h w x).take (i+1)=(besL h w x).take i++[z]:=by rw[T6,S];rfl
        have J2:=J.more rx L;rw[← v]at J2;symm;rw[aF];symm;rw[sS (P _ _ hl)];symm
        have fin:∀ D:Hp,D f=↥((addC cs t z).map V.int)->(∀ c,c≠f->D c=R c)->∃(t:∅) (u:Option V),[some (V.ref a),↑l,⇑n,↑f,⇑d,⇑z]=[↑a,↑l,⇑n,↑f,⇑d,u]/\Same H D/\D b=↥((besL h w x).map V.int)/\D f=↥(t.map V.int)/\BJ h w cs n j d ((besL h w x).take (i+1)) t:=λD q1 q2=>
         ⟨_,_,rfl,λc o e=>by rw[q2 c (aB e hf)];exact P c o e,by rw[q2 b (λe=>by rw[e]at Z;rw[e1]at Z;cases Z)];exact eb,q1,J2⟩
        by_cases T:z∈cs
        . rw[SY (by simpa using T)];rw[jY C];by_cases N:z∈t
          . simp only[N,decide_true,UL,SS SR,V.bl.injEq,exists_eq_left'];refine fin R ?_ λ_ _=>rfl;rw[C,addC,SS (λq=>q.2 N)]
          . simp only[N,WV,UD,UA,V.bl.injEq,exists_eq_left'];exists⟨br C,?_⟩;rw[fV C];refine⟨by rw[Sx];exact aH #[4],fin _ ?_ λc hc=>ap hc⟩;rw[aj,addC,SY ⟨T,N⟩];simp
        . rw[SS (by simpa using T)]
          try simp only[SS SR]
          refine fin R ?_ λ_ _=>rfl;rw[C,addC,SS (λq=>T q.1)]
     . rintro σ R ⟨t,F,rfl,P,eb,C,J⟩;rw[Sx,TH]at J;exists⟨t,F,rfl,P,C,J.done B M⟩
   . rw[SS (by simpa using A)];symm;unfold fz;dsimp only;rw[e1];refine⟨j,rfl,by lia,λrs p I pm ps=>?_⟩;refine k p _ rs (s1.laid I) (s1.free I) aj (Je pm ps B.nd) λx=>?_;rw[pm.mem_iff];exact B.done A x
 . rw[SY (by simpa using O)];exists⟨TF _,λp A=>k p _ [] ((SF H).laid A) A aj .nil λx=>⟨(λq=>nomatch q),λr=>absurd (RC.st r) O⟩⟩
variable{h w:Int}{ms:∅}
theorem joinB_iff:joinB h w ms=true↔(ms=[]\/(ms.Pairwise (· < ·)/\∀ x∈ms,RC h w ms (ms.headD 0) x)):=by
 unfold joinB;exact @Vp _ (Classical.propDecidable _)
def lr(K:Frag)(c:WY):Sp:=λvs H Q E=>∃ k,j5 K c k vs H Q E
def gr(K:Frag)(c:WY):TS:=#[":j~Hdrb1ucdrb,~KbaJh0/a1adk1ef#0 c1"]
variable{c:WY}
theorem uj(h:lr K c vs H Q E):gr K c (eD9 Q) (start ["self","cells"] vs) H:=by
 obtain⟨k,r,p,C,R,cs,ms,n,m,h,w,g,rfl,x,G,F,f,I,q⟩:=h;obtain⟨h0,A,X,T,J,M,S⟩:=id F;obtain⟨U,W,N,h1,h2,h3⟩:=x.ex;exists gr;refine⟨lnR rfl,λl B=>?_⟩;obtain⟨H1,z9,s1,el⟩:∃ z,upd H l (.lst [])=z/\Same H z/\z l=↥(([]:∅).map V.int):=aU _ B;rw[z9];refine wc (s1 _ _ f) el ?_;symm
 cases ms with
 | nil=>
  have e:joinB h w []=true:=joinB_iff.mpr (.inl rfl);have:=q _ s1;rw[e]at this;rw[SB rfl,SY rfl];exact this
 | cons z i=>
  rw[SE (by simp),SS #[1]];refine fldE rfl x.ok (s1 _ _ h1) (v:=.ref p) (by rfl) ?_;exists ixL (s1 _ _ f) (v:=V.int z) (fw (j:=0) rfl) ?_;exists⟨p,C,h,w,g,z,z::i,rfl,s1 _ _ G,by lia,by lia,s1 _ _ f,I,λu O rs t P D a d=>?_⟩;refine wc D (t _ _ (s1 _ _ f)) ?_
  have e:decide (rs=z::i)=joinB h w (z::i):=by
   rw[Tb,Sz,joinB_iff];constructor
   . intro e;subst e;exact .inr ⟨a,λx L=>(d x).mp L⟩
   . rintro(e | ⟨b,s⟩)
     . cases e
     . exact yP a b λy=>⟨λo=>((d y).mp o).mem,λo=>(d y).mpr (s y o)⟩
  rw[e];exact q _ (s1.trans t)
def pV(K:Frag)(c:WY):Sp:=cS K c .Joined
def kx(K:Frag)(c:WY):TS:=#[":jthE'C'Dbh0athE~X~Ybh0a1cc"]
variable{xs cs:∅}{m:Int}
theorem Jy(a:cs.length<=63):(mkAt xs cs m).length<=63:=by
 unfold mkAt;exact SW (SV _ _) a
theorem zk(h:pV K c vs H Q E):kx K c (eD9 Q) (start ["self","filling"] vs) H:=by
 obtain⟨r,p,f,b,cs,xs,n,m,h,w,g,rfl,x,e,F,i,a,u,q⟩:=h;obtain⟨s,W,C,h1,h2,h3⟩:=x.ex;exists kx;refine methE rfl x.ok h1 (by rfl) ?_;exists methE rfl x.ok h1 (by rfl) ?_;exists⟨r,p,f,b,cs,xs,n,m,rfl,x,i,a,λl o s1 k j=>?_⟩;exact⟨r,p,l,b,cs,_,n,m,h,w,g,rfl,x.same s1,s1 _ _ e,F,j,Jy a.1,λt d=>q _ (s1.trans d)⟩
variable{i:Nat}
theorem Ej{j l:Nat}{x y z:V}{σ:St}{k:St->Hp->Prop}:gCons (gName i) (gCons (gName j) (gCons (gName l) gNil)) [x,y,z] σ H k=k (((σ.set i (some x)).set j (some y)).set l (some z)) H:=by
 refine propext ⟨λh=>?_,λh=>⟨x,_,rfl,y,_,rfl,z,_,rfl,rfl,h⟩⟩;obtain⟨d,_,e1,c,_,e2,e,_,a,b,h⟩:=h;cases e1;cases e2;cases a;exact h
def iY(K:Frag)(c:WY):Sp:=iw K c .Ring
def d9(K:Frag)(c:WY):TS:=#[":jdrbqAav&--1 sb,~AbaJh0/a2ci#1 mdKbB121cef#2 "]
theorem Mr(h w c:Int):(besL h w c).length<=4:=by
 unfold besL
 repeat rw[Ta]
 split <;> split <;> split <;> split <;> simp
theorem qM(h:iY K c vs H Q E):d9 K c (eD9 Q) (start ["self","cells","cell"] vs) H:=by
 obtain⟨r,p,C,I,cs,ms,n,m,h,w,g,z,rfl,x,k,F,u,L,q⟩:=h;obtain⟨h0,j,P,N,s,A,M⟩:=id F;obtain⟨O,W,B,h1,h2,h3⟩:=x.ex;exists d9;refine fldE rfl x.ok h1 (v:=.ref p) (by rfl) ?_;exists⟨p,h,w,g,z,rfl,k,by lia,by lia,λb D f t e2=>?_⟩;have bl:=Mr h w z;refine⟨b,rfl,⟨_,ST e2⟩,?_⟩;refine ba (xs:=besL h w z) (λy=>decide (y∈ms)) (λy=>y) #[4] (ST e2) ?_ ?_ ?_
 . intro y d R o a k3;show tTest _ [none,⇑y,↑C] d R;symm;rw[sS (a _ _ (f _ _ u))];exact⟨_,rfl,k3 _ (SF _)⟩
 . intro y d J o t a k3;exact k3 _ (SF _)
 . intro l d G a i;rw[Ud]at i;symm;rw[aZ i,Sx];symm;have:=q _ (f.trans a);unfold twoB at this
   have e:decide ((((besL h w z).filter λy=>decide (y∈ms)).length:Int)=2)=decide (((besL h w z).filter λy=>decide (y∈ms)).length=2):=by
    rw[Tb,Sz,Sz];lia
   rw[e];exact this
def t5(K:Frag)(c:WY):Sp:=cS K c .Ring
def mX(K:Frag)(c:WY):TS:=#[":glthE~X~Ybh0a1ci#2 jNthE'C'Dbh0a2cqZav&--20 sb2i#1 CthE{O{Pbh3a2a1cc"]
theorem Cz(h:t5 K c vs H Q E):mX K c (eD9 Q) (start ["self","filling","cells"] vs) H:=by
 obtain⟨r,p,f,A,cs,xs,n,m,h,w,g,rfl,x,G,F,S,J,hx,q⟩:=h;obtain⟨Z,W,C,h1,h2,h3⟩:=x.ex;exists mX;refine methE rfl x.ok h1 (by rfl) ?_;exists⟨r,p,f,A,cs,xs,n,m,rfl,x,S,J,λl X s1 U u=>?_⟩;have o:=Jy (xs:=xs) (m:=m) J.1;have j:∀ D,Same H D->Q (.bl (joinB h w (mkAt xs cs m)&&(mkAt xs cs m).all (twoB h w (mkAt xs cs m)))) D:=q;generalize mkAt xs cs m=ms at*;exists methE rfl x.ok (s1 _ _ h1) (by rfl) ?_;exists⟨r,p,l,A,cs,ms,n,m,h,w,g,rfl,x.same s1,s1 _ _ G,F,u,o,λT t=>?_⟩;have a:=s1.trans t;symm
 cases B:joinB h w ms with
 | false=>
  rw[B]at j
  first | exact iteF (j _ a) | exact j _ a
 | true=>
  rw[B]at j;refine iteT ?_;refine⟨⟨_,ST (t _ _ u)⟩,?_⟩;refine bK (xs:=ms.map V.int) (λ_=>true) (λi=>.bl (twoB h w ms (ms.getD i 0))) (by rw[Sx];lia) (ST (t _ _ u)) ?_ ?_ ?_
  . intro i y v R d k k3;exact k3 _ (SF _)
  . intro i y v P d Y k k3;rw[SI]at d
    cases e:ms[i]? with
    | none=>rw[e]at d;cases d
    | some z=>
     rw[e]at d;cases d;have b:=a.trans k;have O:ms.getD i 0=z:=by rw[List.getD,e];rfl
     show aA _ _ _ _ _ _ [none,⇑z,↑l,↑r] v P;refine methE rfl x.ok (b _ _ h1) (by rfl) ?_;exists⟨r,p,l,A,cs,ms,n,m,h,w,g,z,rfl,x.same b,b _ _ G,F,k _ _ (t _ _ u),o,λM L=>?_⟩;have:=k3 M L;rw[O]at this;exact this
  . intro l2 v N k s;rw[aY,Sx]at s;refine j2 (bs:=(List.range ms.length).map λi=>twoB h w ms (ms.getD i 0)) (by rw[s,Te];rfl) ?_
    have e:((List.range ms.length).map λi=>twoB h w ms (ms.getD i 0)).all id=ms.all (twoB h w ms):=by
     have I:(List.range ms.length).map (λi=>ms.getD i 0)=ms:=by
      refine Vb (by simp) λi h1 h2=>?_;simp at h1;simp[List.getD,Sy h1]
     have e2:(List.range ms.length).map (λi=>twoB h w ms (ms.getD i 0))=ms.map (twoB h w ms):=by
      rw[← I,Te,I];rfl
     rw[e2,Ur];rfl
    rw[e];exact j _ (a.trans k)
section
variable{K:Frag}{g:TG}{σ:St}{H:Hp}{ta:TA}{Q:VK}{ix:List (Option Nat)}{tt:TT}{te:TE}
def GC:tComp ix (iZip K ta) g tt te σ H Q=ta σ H λvs c=>∃ a b,vs=[.ref a,.ref b]/\(∃ xs,SqL K c a xs)/\(∃ ys,SqL K c b ys)/\CompR (Itz K a b) g tt te (λl d=>Q (.ref l) d) (subσ ix σ) c:=rfl
theorem Jz {a b:Addr} {xs ys:List V} {fin:Addr->Hp->Prop} {d:St} {c:Hp} {k1 k2:Nat} (f:Nat->V) (M:xs.length<=900) (J:xs.length=ys.length) (k:k1≠k2) (h:SqL K c a xs) (j:SqL K c b ys)
  (B:∀(i:Nat) x y H Q,xs[i]? =some x->ys[i]? =some y->Same c H->(∀ g,Same H g->Q (f i) g)->te ((d.set k1 (some x)).set k2 (some y)) H Q)
  (F:∀ l H,c l=none->Same c H->H l=↥((List.range xs.length).map f)->fin l H):
  CompR (Itz K a b) (gTup K 2 (gCons (gName k1) (gCons (gName k2) gNil))) tTrue te fin d c:=by
 intro l t;have u:(upd c l (.lst [])) l=↥((List.range 0).map f):=by rw[aj];rfl
 refine⟨λi m σ H=>m=xs.length-i/\i<=xs.length/\(σ=d\/∃ r q,σ=(d.set k1 r).set k2 q)/\Same c H/\H l=↥((List.range i).map f),⟨xs.length,by simp,TF _,.inl rfl,(SF c).laid t,u⟩,?_⟩;rintro i m σ H ⟨rfl,N,C,s1,z⟩;by_cases p:i<xs.length
 . have o:i<ys.length:=by lia
   refine .inr ⟨⟨xs,ys,xs[i],ys[i],s1.seq h,s1.seq j,by simp[p],by simp[o]⟩,λs g=>(s=d\/∃ r q,s=(d.set k1 r).set k2 q)/\Same c g/\g l=↥((List.range (i+1)).map f),λs g E=>⟨xs.length - (i+1),by lia,rfl,p,E⟩,λv g y=>?_⟩;obtain⟨T,x,y,rfl,D,rfl,e1,e2⟩:=y;have I:=e1 xs (s1.seq h);have G:=e2 ys (s1.seq j);have A:Same H (upd H T (.tup [x,y])):=(SF H).laid D;refine⟨T,_,rfl,WO aj,rfl,_,_,rfl,_,_,rfl,rfl,?_⟩
   have e:(σ.set k1 (some x)).set k2 (some y)=(d.set k1 (some x)).set k2 (some y):=by
    rcases C with rfl | ⟨r,q,rfl⟩
    . rfl
    . rw[Vi _ _ (Vr k),Uc,Uc,Vi _ _ k]
   show tTrue ((σ.set k1 (some x)).set k2 (some y)) _ _;rw[e,b7,SY rfl];have n:=s1.trans A;refine B i x y _ _ I G n λL w=>⟨_,w _ _ (A _ _ z),by rw[Sx,TW];exact aH #[4],.inr ⟨_,_,rfl⟩,(n.trans w).own t,?_⟩;rw[aj,TU,TV];rfl
 . have e:i=xs.length:=by lia
   subst e;exact .inl ⟨⟨xs,ys,s1.seq h,s1.seq j,.inl (SZ _)⟩,F l H t s1 z⟩
end
variable{n:Nat}{b:Nat->Bool}
theorem FR:(List.range n).map (λi=>V.bl (b i))=((List.range n).map b).map V.bl:=by rw[Te];rfl
theorem JA:((List.range n).map b).all id=(List.range n).all b:=by rw[Ur];rfl
def cluB(cl xs:∅):Bool:=(List.range cl.length).all λi=>decide (cl.getD i 0=0)||decide (cl.getD i 0=xs.getD i 0)
noncomputable def rowsB (h w:Int) (Sl:List RR) (xs:∅):Bool:=Sl.all λr=>hoB r.k h w r.cs r.n r.m xs
noncomputable def metB (h w g:Int) (Sl:List RR) (cl xs:∅):Bool:=filB 1 g (h*w).toNat xs&&(cluB cl xs&&rowsB h w Sl xs)
def oR(K:Frag)(c:WY)(d:WZ)(_:PzK):Sp:=#[3,∃(P L G f:Addr) (h w g:Int) (Sl:List RR) (cl xs:∅),vs=[.ref P,.ref f]/\IsPz H c d P L G h w g Sl cl/\H f=↥(xs.map V.int)/\xs.length=cl.length/\∀ a,Same H a->Q (.bl (cluB cl xs)) a]
def lu(K:Frag)(c:WY)(d:WZ):Sp:=oR K c d .Puzzle
def gt(K:Frag)(c:WY)(d:WZ):TS:=#[":jqZav&--- 'EbaJn0'aa1c~hb#2 Si#1 Si#2 ~iC~Hdrb1ef#0 drb12c"]
variable{d:WZ}
theorem uk(h:lu K c d vs H Q E):gt K c d (eD9 Q) (start ["self","filling"] vs) H:=by
 obtain⟨P,L,G,f,h,w,g,Sl,cl,xs,rfl,x,r,y,q⟩:=h;obtain⟨J,p,rs,h1,h2,h3⟩:=x.ex;have t:cl.length<=16:=by have:=x.C.len;have:=x.R.F.m;lia
 exists gt;rw[GC,b5];refine fldE (k:=.Puzzle) rfl x.ok h1 (v:=.ref G) (by rfl) ?_;exists⟨G,f,rfl,⟨_,ST x.gv⟩,⟨_,ST r⟩,?_⟩;refine Jz (xs:=cl.map V.int) (ys:=xs.map V.int) (λi=>.bl (decide (cl.getD i 0=0)||decide (cl.getD i 0=xs.getD i 0))) (by rw[Sx];lia) (by simp[y]) #[1] (ST x.gv) (ST r) ?_ ?_
 . intro i u v e s B A s1 k1;obtain⟨o,b,rfl⟩:=aL B;obtain⟨z,I,rfl⟩:=aL A;have a:=k1 _ (SF e);rw[bJ b,bJ I]at a;show tOrV _ _ [none,⇑o,⇑z] e s;symm
   cases n:decide (o=0) with
   | true=>
    rw[n,UY]at a;exact iteT a
   | false=>
    rw[n,TY]at a;exact iteF a
 . intro l e D s1 j;rw[FR]at j;refine j2 j ?_;rw[JA,Sx];exact q _ s1
variable{g:Int}
theorem xP{a:Int}(h:filB a g n xs=true):xs.length=n/\∀ x∈xs,a<=x/\x<=g:=by
 unfold filB at h;rw[SA,Sz,SK]at h;refine⟨h.1,λx b=>?_⟩;have:=h.2 x b;rw[SA,Sz,Sz]at this;exact this
theorem RR.cin{r:RR}(O:r.Ok h w g)(F:FlOk h w g):aO r.cs (h*w).toNat:=by
 obtain⟨h0,h1,t,m,f,p,l⟩:=id F;have b:0<=h*w:=Ul #[4] #[4]
 cases d:allK r.k with
 | false=>
  obtain⟨s,q,i,o,e⟩:=O.cl.told d;rw[e];refine⟨by rw[Sx];lia,λc a=>?_⟩;obtain⟨n,j,rfl⟩:=SL.mp a;have:=i n j;lia
 | true=>
  obtain⟨_,e⟩:=O.cl.all d;rw[e];refine⟨by rw[dI];lia,λc a=>?_⟩;have:=wg a;lia
def tN(K:Frag)(c:WY)(d:WZ)(_:PzK):Sp:=#[3,∃(P L G f:Addr) (h w g:Int) (Sl:List RR) (cl xs:∅),vs=[.ref P,.ref f]/\IsPz H c d P L G h w g Sl cl/\H f=↥(xs.map V.int)/\xs.length<=100/\∀ a,Same H a->Q (.bl (metB h w g Sl cl xs)) a]
def pW(K:Frag)(c:WY)(d:WZ):Sp:=tN K c d .Puzzle
def mE(K:Frag)(c:WY)(d:WZ):TS:=#[":jqZav&--1 sbJn0~Ri#1 CthE'd'ebh1a2cc"]
def ky(K:Frag)(c:WY)(d:WZ):TS:=#[":goOPz,'rbaJn0/a1aef#1 cPztnF{Q{Rbhn0a1cjeHBp{Sbhn"]
variable{p:Addr}{Sl:List RR}
theorem Hx {L f:Addr} {rs:List Addr} {fin:Addr->Hp->Prop} (X:IsRules H c p L rs Sl) (R:b9 c h w g Sl) (y:IsFl H p h w g) (A:H f=↥(xs.map V.int)) (v:xs.length=(h*w).toNat) (s:∀ x∈xs,0<=x/\x<=1000)
  (z:∀ l d,H l=none->Same H d->d l=↥((Sl.map λr=>hoB r.k h w r.cs r.n r.m xs).map V.bl)->fin l d):CompR (Itl K L) (gName 1) tTrue (aA c c.ok "holds" (cS K c) (tVar 1) (tCons (tVar 2) tNil)) fin [none,none,↑f] H:=by
 have I:=R.n;have u:=X.len;refine bK (xs:=rs.map V.ref) (λ_=>true) (λi=>.bl ((Sl.map λr=>hoB r.k h w r.cs r.n r.m xs).getD i true)) (by rw[Sx];lia) (ST X.top) ?_ ?_ ?_
 . intro i x b R s s1 k1;exact k1 _ (SF _)
 . intro i x b t a E s1 k1;rw[SI]at a
   cases e:rs[i]? with
   | none=>rw[e]at a;cases a
   | some r=>
    rw[e]at a;cases a;have a:=(SD.mp e).1;have j:Sl[i]? =some Sl[i]:=Sy #[4];have o:=X.at_ i r _ e j;obtain⟨G,W,C,h1,h2,h3⟩:=o.ex;have B:(Sl.map λr=>hoB r.k h w r.cs r.n r.m xs).getD i true=hoB Sl[i].k h w Sl[i].cs Sl[i].n Sl[i].m xs:=by rw[List.getD,SI,j];rfl
    rw[B]at k1;have O:=R.ok _ (SH j);show aA c c.ok "holds" _ _ _ [none,↑r,↑f] b t;refine methE (k:=Sl[i].k) rfl o.ok (s1 _ _ h1) (by rfl) ?_;exists⟨r,p,f,_,_,xs,_,_,h,w,g,rfl,o.same s1,s1 _ _ y,R.F,s1 _ _ A,by rw[v];exact RR.cin O R.F,s,k1⟩
 . intro l b q s1 D;refine z l b q s1 ?_;rw[D,aY,Sx,u]
   congr 2
   refine T5 λi=>?_;rw[SI,SI,SI];by_cases h:i<Sl.length
   . rw[Tz h,Sy h];simp[List.getD,h]
   . rw[S0 (by simpa using h),S0 #[4]];rfl
theorem zl(h:pW K c d vs H Q E):ky K c d (eD9 Q) (start ["self","filling"] vs) H:=by
 obtain⟨P,L,G,f,h,w,g,Sl,cl,xs,rfl,x,e,u,q⟩:=h;obtain⟨M,p,rs,h1,h2,h3⟩:=x.ex;have O:=x.R.F.g1;ac_nf;unfold ky;rw[aK,aF];exists fldE (k:=.Puzzle) rfl x.ok h1 (v:=.ref p) (by rfl) ?_;exists⟨p,f,h,w,g,1,xs,rfl,h2,x.R.F,e,u,λJ s1=>?_⟩;unfold metB at q
 cases b:filB 1 g (h*w).toNat xs with
 | false=>
  rw[b,S1]at q;refine⟨false,rfl,iteT ?_⟩;exists q _ s1
 | true=>
  rw[b,S7]at q;obtain⟨i,z⟩:=xP b;refine⟨true,rfl,iteF ?_⟩;exists methE (k:=.Puzzle) rfl x.ok (s1 _ _ h1) (by rfl) ?_;exists⟨P,L,G,f,h,w,g,Sl,cl,xs,rfl,x.same s1,s1 _ _ e,by rw[i,x.C.len],λN s=>?_⟩;have a:=s1.trans s
  cases j:cluB cl xs with
  | false=>
   rw[j,S1]at q;refine⟨false,rfl,iteT ?_⟩;exists q _ a
  | true=>
   rw[j,S7]at q;refine⟨true,rfl,iteF ?_⟩;unfold mE;exists fldE (k:=.Puzzle) rfl x.ok (a _ _ h1) (v:=.ref L) (by rfl) ?_;refine⟨L,rfl,⟨_,ST (a _ _ h3.top)⟩,?_⟩;refine Hx (h3.same a) x.R (a _ _ h2) (a _ _ e) i (λy B=>by have:=z y B;lia) λl I A o D=>?_;refine j2 D ?_;have t:(Sl.map λr=>hoB r.k h w r.cs r.n r.m xs).all id=rowsB h w Sl xs:=by unfold rowsB;rw[Ur];rfl
   rw[t];exact q _ (a.trans o)
variable{α:Type}
theorem xQ(F:Int->α)(ss:∅):(List.range ss.length).map (λi=>F (ss.getD i 0))=ss.map F:=by
 refine T5 λi=>?_;rw[SI,SI];by_cases h:i<ss.length
 . rw[Tz h,Sy h];simp[List.getD,h]
 . rw[S0 (by simpa using h),S0 #[4]];rfl
def extL(fs:List ∅)(ss:∅):List ∅:=fs.flatMap λf=>ss.map λs=>f++[s]
def cg(sss:List ∅):List ∅:=sss.foldl extL [[]]
def prodL(sss:List ∅):Nat:=sss.foldl (λn a=>n*a.length) 1
theorem xR(ss:∅):∀ fs:List ∅,(extL fs ss).length=fs.length*ss.length
 | []=>by simp[extL]
 | f::r=>by
  have a:=xR ss r;unfold extL at a ⊢;rw[Wm,Ta,a,Sx,S2,V3,WS]
theorem Ek(fs a:List ∅)(ss:∅):extL (fs++a) ss=extL fs ss++extL a ss:=by
 unfold extL;rw[Vg]
theorem xS(f:∅)(ss:∅):extL [f] ss=ss.map λs=>f++[s]:=by
 unfold extL;simp
theorem El:∀(sss fs:List ∅),(sss.foldl extL fs).length=sss.foldl (λn ss=>n*ss.length) fs.length
 | [],_=>rfl
 | ss::r,fs=>by
  rw[Ti,El r,Ti,xR]
def zn(sss:List ∅):(cg sss).length=prodL sss:=El sss [[]]
theorem GD:∀(sss:List ∅) (n:Nat),(∀ ss∈sss,1<=ss.length)->n<=sss.foldl (λn ss=>n*ss.length) n
 | [],_,_=>SZ _
 | ss::r,n,h=>by
  rw[Ti];exact SW (Wu n (h ss SN)) (GD r _ λx a=>h x (SM _ a))
variable{sss:List ∅}
theorem JB(i:Nat)(h:∀ ss∈sss,1<=ss.length):prodL (sss.take i)<=prodL sss:=by
 have e:prodL sss=(sss.drop i).foldl (λn ss=>n*ss.length) (prodL (sss.take i)):=by
  unfold prodL;rw[← TX,Ue]
 rw[e];exact GD _ _ λx a=>h x (VO a)
theorem fS{α:Type}{l:List α}{x:α}(h:l[i]? =some x):l.take (i+1)=l.take i++[x]:=by
 rw[U9,h];rfl
variable{ss:∅}
theorem JC(h:sss[i]? =some ss):cg (sss.take (i+1))=extL (cg (sss.take i)) ss:=by
 unfold cg;rw[fS h,TX];rfl
theorem KO(h:sss[i]? =some ss):prodL (sss.take (i+1))=prodL (sss.take i)*ss.length:=by
 unfold prodL;rw[fS h,TX];rfl
theorem BK:∀(sss fs:List ∅) (n:Nat),(∀ f∈fs,f.length=n)->∀ f∈sss.foldl extL fs,f.length=n+sss.length
 | [],_,_,h,f,a=>h f a
 | ss::r,fs,n,h,f,a=>by
  have:=BK r (extL fs ss) (n+1) (λf a=>by
   unfold extL at a;obtain⟨g,b,a⟩:=Uq.mp a;obtain⟨s,_,rfl⟩:=SL.mp a;rw[Ta,h g b];rfl) f a
  rw[this,S2];lia
variable{f:∅}
theorem zq(h:f∈cg sss):f.length=sss.length:=by
 have:=BK sss [[]] 0 (λf a=>by rw[SO.mp a];rfl) f h;lia
variable{l:Addr}{as:List Addr}{Sr yss:List ∅}
theorem IsLL.app{bs:List Addr}(x:IsLL H l as Sr)(f:l∉as)(nb:l∉bs)(d:bs.length=yss.length)(b:∀(j:Nat) (a:Addr) (ys:∅),bs[j]? =some a->yss[j]? =some ys->H a=↥(ys.map V.int)):
  IsLL (upd H l (.lst (as.map V.ref++bs.map V.ref))) l (as++bs) (Sr++yss):=by
 have g:=x.len;refine⟨by rw[aj,TV],by rw[Ta,Ta,x.len,d],λj a ys h1 h2=>?_⟩;by_cases e:j<as.length
 . rw[Tn e]at h1;rw[Tn #[4]]at h2;have c:a≠l:=λz=>f (z ▸ SH h1);rw[ap c];exact x.at_ j a ys h1 h2
 . rw[Tp #[4]]at h1;rw[Tp #[4]]at h2;have c:a≠l:=λz=>nb (z ▸ SH h1);rw[ap c];exact b _ a ys h1 (by rw[g];exact h2)
theorem IsLL.get{a:Addr}(x:IsLL H l as Sr)(h:as[i]? =some a):∃ xs,Sr[i]? =some xs/\H a=↥(xs.map V.int):=by
 have b:=(SD.mp h).1;have e:Sr[i]? =some (Sr[i]'(by have:=x.len;lia)):=Sy _;exact⟨_,e,x.at_ i a _ h e⟩
def BL(h:n<=1100):n<sizeLine:=T7 h #[1]
theorem BM{q:Addr}{xs ys:List V}(b:H p=↥xs)(c:H q=↥ys)(a:xs.length+ys.length<=1100)(h:Q .non (upd H p (.lst (xs++ys)))):lE (.ref p) [.ref q] H Q:=by
 show bnd (unM (H p)) _;rw[b];show bnd (unM (H q)) _;rw[c];exact⟨Tv (BL a),h⟩
theorem KP {a:Hp} {S f:Addr} {fin:Addr->Hp->Prop} (l:a S=↥(ss.map V.int)) (o:a f=↥(xs.map V.int)) (v:ss.length<=100) (n:xs.length<=16)
  (k:∀ m as b,a m=none->Same a b->b m=↥(as.map V.ref)->NewAt a b m as (ss.map λs=>.lst ((xs++[s]).map V.int))->fin m b):
  CompR (Itl K S) (gName 1) tTrue (tOp cAdd (tVar 2) (tLst (tCons (tVar 1) tNil))) fin [none,none,↑f] a:=by
 refine nQ (xs:=ss.map V.int) (λ_=>true) (λi=>.lst ((xs++[ss.getD i 0]).map V.int)) (by rw[Sx];lia) (ST l) ?_ ?_ ?_
 . intro i x H R n s1 k1;exact k1 _ (SF _)
 . intro i x H Q p u s1 k1;obtain⟨z,q,rfl⟩:=aL p;rw[bJ q]at k1;show tOp cAdd _ _ [none,⇑z,↑f] H Q;exists⟨lnR rfl,λt h=>?_⟩;have c:Same H (upd H t (.lst [V.int z])):=(SF H).laid h;refine uE (c _ _ (s1 _ _ o)) aj (by simp;lia) λr d=>?_;exact k1 r _ (c.trans ((SF _).laid d)) (c.free d) (by rw[aj];simp)
 . intro m as H j s1 e g;refine k m as H j s1 e ?_;rw[aY,Sx,xQ (λs=>HO.lst ((xs++[s]).map V.int))]at g;exact g
theorem KQ{f d g:Hp}{m:Addr}{bs:List Addr}(x:IsLL d l as Sr)(k:l∉as)(s0:Same f d)(o:f l=none)(n:∀ b∈as,f b=none)(s1:Same d g)(c:NewAt d g m bs (ss.map λs=>.lst ((xs++[s]).map V.int))):
  IsLL (upd g l (.lst (as.map V.ref++bs.map V.ref))) l (as++bs) (Sr++extL [xs] ss)/\l∉as++bs/\(∀ b∈as++bs,f b=none):=by
 have i:l∉bs:=λh=>by have:=c.fr l h;rw[x.top]at this;cases this
 refine⟨?_,?_,?_⟩
 . refine(x.same s1).app k i (by rw[c.len,xS,Sx,Sx]) λj a p h1 h2=>?_;refine c.at_ j a _ h1 ?_;rw[xS,SI]at h2;rw[SI]
   cases e:ss[j]? with
   | none=>rw[e]at h2;cases h2
   | some s=>rw[e]at h2;cases h2;rfl
 . intro h;rcases SX.mp h with h | h
   . exact k h
   . exact i h
 . intro b h;rcases SX.mp h with h | h
   . exact n b h
   . exact s0.free (c.fr b h)
def oS(K:Frag):Sp:=#[3,∃ F S as a ss,vs=[.ref F,.ref S]/\IsLL H F as a/\H S=↥(ss.map V.int)/\a.length*ss.length<=1100/\ss.length<=100/\(∀ f∈a,f.length<=16)/\
 ∀(l:Addr) (d:List Addr) (c:Hp),Same H c->H l=none->IsLL c l d (extL a ss)->l∉d->(∀ b∈d,H b=none)->Q (.ref l) c]
def oT(K:Frag):TS:=#[":gluci#2 gIsb0i#3 TGbM'f2av&--3 sb1i#1 Cdw2ua1ccj2"]
theorem Em(h:oS K vs H Q E):oT K (eD9 Q) (start ["fillings","signs","found","filling"] vs) H:=by
 obtain⟨F,S,as,c,ss,rfl,x,D,Y,G,O,q⟩:=h;exists oT;refine⟨lnR rfl,λl n=>?_⟩;obtain⟨X,I,s1,J⟩:=aU (.lst []) n;rw[I];refine⟨⟨_,ST (s1 _ _ x.top)⟩,?_⟩
 refine bg (K:=K) (xs:=as.map V.ref) (λi σ t=>∃(v:Option V) (d:List Addr),σ=[↑F,↑S,↑l,v]/\Same H t/\IsLL t l d (extL (c.take i) ss)/\l∉d/\∀ b∈d,H b=none)
  ⟨none,[],rfl,s1,⟨J,rfl,λj a xs h1=>by simp at h1⟩,by simp,λb w=>nomatch w⟩ (λi σ t _ ⟨_,_,_,s,_⟩=>s.seq (ST x.top)) ?_ ?_
 . rintro i y σ A N ⟨v,d,rfl,g,k,z,p⟩;obtain⟨f,u,rfl⟩:=bf N;obtain⟨xs,r,M⟩:=x.get u;exists⟨br k.top,⟨_,ST (g _ _ D)⟩,?_⟩;refine KP (ss:=ss) (xs:=xs) (g _ _ D) (g _ _ M) G (O xs (SH r)) λm cs W hm o P B=>?_
   have w:d.length+cs.length<=1100:=by
    have C:=k.len;rw[xR,Tx]at C;have U:=B.len;rw[Sx]at U;have Z:=(SD.mp r).1;have e1:min i c.length=i:=by lia
    rw[e1]at C;have:=U7 ss.length (show i+1<=c.length by lia);rw[V3]at this;lia
   refine BM (o _ _ k.top) P (by rw[Sx,Sx];exact w) ?_;obtain⟨R,T,L⟩:=KQ k z g n p o B;refine⟨_,d++cs,rfl,(g.trans o).own n,?_,T,L⟩;rw[fS r,Ek];exact R
 . rintro σ A ⟨v,d,rfl,g,k,z,p⟩;symm;have e:c.take (as.map V.ref).length=c:=Tj (by rw[Sx,x.len];exact SZ _);rw[e]at k;exact q l d A g n k z p
def jy(K:Frag):Sp:=#[3,∃ A as sss,vs=[.ref A]/\IsLL H A as sss/\sss.length<=16/\(∀ ss∈sss,1<=ss.length/\ss.length<=100)/\prodL sss<=1100/\
 ∀(l:Addr) (c:List Addr) (a:Hp),Same H a->H l=none->IsLL a l c (cg sss)->l∉c->(∀ b∈c,H b=none)->Q (.ref l) a]
def jz(K:Frag):TS:=#[":gluaucci#1 gIsb0i#2 l,{Tba1a2ci#1 j1"]
theorem xT(h:jy K vs H Q E):jz K (eD9 Q) (start ["signs_by_cell","fillings","signs"] vs) H:=by
 obtain⟨A,as,sss,rfl,x,ab,G,Z,q⟩:=h;exists jz;refine⟨lnR rfl,λe F=>?_⟩;obtain⟨m,W,s1,J⟩:=aU (.lst []) F;rw[W];refine⟨lnR rfl,λl d=>?_⟩;have I:Same m (upd m l (.lst [V.ref e])):=(SF m).laid d;have Y:(upd m l (.lst [V.ref e])) l=some (.lst [V.ref e]):=aj;have p:l≠e:=λz=>by rw[z,J]at d;cases d
 generalize upd m l (.lst [V.ref e])=H2 at*;have k:=s1.trans I;refine⟨⟨_,ST (k _ _ x.top)⟩,?_⟩
 refine bg (K:=K) (xs:=as.map V.ref) (λi σ u=>∃(l:Addr) (v:Option V) (c:List Addr),σ=[↑A,↑l,v]/\Same H u/\H l=none/\IsLL u l c (cg (sss.take i))/\l∉c/\∀ b∈c,H b=none)
  ⟨l,none,[e],rfl,k,s1.free d,⟨Y,rfl,λj a xs h1 h2=>?_⟩,by simpa using p,λb B=>by rw[SO.mp B];exact F⟩ (λi σ u _ ⟨_,_,_,_,s,_⟩=>s.seq (ST x.top)) ?_ ?_
 . have R:j=0:=by have:=(SD.mp h1).1;simp at this;lia
   subst R;cases h1;cases h2;exact I _ _ J
 . rintro i y σ M hy ⟨l,v,c,rfl,g,d,n,O,L⟩;obtain⟨S,D,rfl⟩:=bf hy;obtain⟨ss,o,U⟩:=x.get D;have C:=G ss (SH o);exists⟨l,S,c,_,ss,rfl,n,g _ _ U,?_,C.2,?_,λP cs H4 T r N t w=>?_⟩
   . rw[zn,← KO o];exact SW (JB _ λz X=>(G z X).1) Z
   . intro f hf;rw[zq hf,Tx];lia
   . rw[← JC o]at N;exact⟨P,_,cs,rfl,g.trans T,g.free r,N,t,λb B=>g.free (w b B)⟩
 . rintro σ M ⟨l,v,c,rfl,g,d,n,O,L⟩;symm;have e:sss.take (as.map V.ref).length=sss:=Tj (by rw[Sx,x.len];exact SZ _);rw[e]at n;exact q l c M g d n O L
section
variable{K:Frag}{te:TE}
theorem JD {a b:Addr} {xs ys:List V} {fin:Addr->Hp->Prop} {f:St} {c:Hp} {k1 k2:Nat} (o:Nat->HO) (W:xs.length<=900) (S:xs.length=ys.length) (k:k1≠k2) (h:SqL K c a xs) (j:SqL K c b ys)
  (G:∀(i:Nat) x y H Q,xs[i]? =some x->ys[i]? =some y->Same c H->(∀ a d,Same H d->H a=none->d a=some (o i)->Q (.ref a) d)->te ((f.set k1 (some x)).set k2 (some y)) H Q)
  (O:∀ l as H,c l=none->Same c H->H l=↥(as.map V.ref)->NewAt c H l as ((List.range xs.length).map o)->fin l H):
  CompR (Itz K a b) (gTup K 2 (gCons (gName k1) (gCons (gName k2) gNil))) tTrue te fin f c:=by
 intro l B;have C:∃ as:List Addr,(upd c l (.lst [])) l=↥(as.map V.ref)/\NewAt c (upd c l (.lst [])) l as ((List.range 0).map o):=⟨[],by rw[aj];rfl,NewAt.nil⟩;refine⟨λi m σ H=>m=xs.length-i/\i<=xs.length/\(σ=f\/∃ u t,σ=(f.set k1 u).set k2 t)/\Same c H/\∃ as:List Addr,H l=↥(as.map V.ref)/\NewAt c H l as ((List.range i).map o),⟨xs.length,by simp,TF _,.inl rfl,(SF c).laid B,C⟩,?_⟩;rintro i m σ H ⟨rfl,X,I,s1,as,F,E⟩;by_cases r:i<xs.length
 . have q:i<ys.length:=by lia
   refine .inr ⟨⟨xs,ys,xs[i],ys[i],s1.seq h,s1.seq j,by simp[r],by simp[q]⟩,λw d=>(w=f\/∃ u t,w=(f.set k1 u).set k2 t)/\Same c d/\∃ as:List Addr,d l=↥(as.map V.ref)/\NewAt c d l as ((List.range (i+1)).map o),λw d M=>⟨xs.length - (i+1),by lia,rfl,r,M⟩,λv d y=>?_⟩;obtain⟨T,x,y,rfl,J,rfl,e1,e2⟩:=y;have R:=e1 xs (s1.seq h);have P:=e2 ys (s1.seq j);have D:Same H (upd H T (.tup [x,y])):=(SF H).laid J;refine⟨T,_,rfl,WO aj,rfl,_,_,rfl,_,_,rfl,rfl,?_⟩
   have e:(σ.set k1 (some x)).set k2 (some y)=(f.set k1 (some x)).set k2 (some y):=by
    rcases I with rfl | ⟨u,t,rfl⟩
    . rfl
    . rw[Vi _ _ (Vr k),Uc,Uc,Vi _ _ k]
   show tTrue ((σ.set k1 (some x)).set k2 (some y)) _ _;rw[e,b7,SY rfl];have g:=s1.trans D;have s:=D _ _ F;have n:=E.same D;refine G i x y _ _ R P g λp U A N L=>⟨_,A _ _ s,?_,.inr ⟨_,_,rfl⟩,(g.trans A).own B,as++[p],?_,?_⟩
   . rw[Sx,n.len,Sx,TW];exact aH #[4]
   . rw[aj];simp
   . have z:=n.more g A N L s (.lst (as.map V.ref++[V.ref p]));rw[TU,TV];exact z
 . have e:i=xs.length:=by lia
   subst e;exact .inl ⟨⟨xs,ys,s1.seq h,s1.seq j,.inl (SZ _)⟩,O l as H B s1 F E⟩
end
theorem NK(f:α->V)(xs:List α)(k:Nat):cutV (xs.map f) none (some (k:Int))=(xs.take k).map f:=by
 unfold cutV;rw[HT.sIx_nat,HT.sIx_none,Sx,List.drop_zero,Nat.sub_zero,U0];by_cases h:k<=xs.length
 . rw[VU h]
 . rw[VF #[4],Tj (by rw[Sx];exact SZ _),Tj (by rw[Sx];lia)]
theorem NL(f:α->V)(xs:List α){k:Nat}(h:k<=xs.length):cutV (xs.map f) (some (k:Int)) none=(xs.drop k).map f:=by
 unfold cutV;rw[HT.sIx_nat,HT.sIx_none,Sx,VU h,Vj,Tj (by rw[UP,Sx];exact SZ _)]
def bR(g n:Int):∅:=(rngL 1 (g+1)).drop (n%g).toNat++(rngL 1 (g+1)).take (n%g).toNat
theorem t6{n:Int}(a:1<=g):(bR g n).length=g.toNat:=by
 have b:=Uo n (show g≠0 by lia);have e1:=T8 n (show 0<g by lia);unfold bR;rw[Ta,UP,Tx,dI];lia
def mY(K:Frag):Sp:=#[3,∃ p h w g n,vs=[.ref p,.int n]/\IsFl H p h w g/\FlOk h w g/\∀(l:Addr) (a:Hp),Same H a->H l=none->a l=↥((bR g n).map V.int)->Q (.ref l) a]
def mZ(K:Frag):TS:=#[":gl{Uaef#1 adwdk0ef#2 ef#1 ci#2 gldL1dk0ef#2 i#3 jdw]^2*3~p]^2~p*3"]
theorem CA(h:mY K vs H Q E):mZ K (eD9 Q) (start ["floor","number","signs","first"] vs) H:=by
 obtain⟨p,h,w,g,n,rfl,k,F,q⟩:=h;have z:=F.g0;have D:=F.g1;have A:=Uo n (show g≠0 by lia);have e1:=T8 n (show 0<g by lia);have m:n%g=(((n%g).toNat:Nat):Int):=by lia
 exists mZ;refine ixT k (v:=V.int g) rfl ?_;exists⟨1,g+1,rfl,⟨by lia,by lia,by lia,by lia⟩,λl s=>?_⟩;obtain⟨C,c,s1,i⟩:=aU (.lst ((rngL 1 (g+1)).map V.int)) s;rw[c];refine ixT (s1 _ _ k) (v:=V.int g) rfl ?_;exists⟨by lia,?_⟩;rw[m];refine sW i λa u=>?_;rw[NL V.int _ (by rw[dI];lia)];obtain⟨B,c,f,o⟩:=aU (.lst (((rngL 1 (g+1)).drop (n%g).toNat).map V.int)) u;rw[c];refine sW (f _ _ i) λb y=>?_;rw[NK V.int];obtain⟨t,c,e,x⟩:=aU (.lst (((rngL 1 (g+1)).take (n%g).toNat).map V.int)) y;rw[c];refine uE (e _ _ o) x (by rw[Sx,Sx,UP,Tx,dI];lia) λr j=>?_;have d:=(s1.trans f).trans e;exact q r _ (d.trans ((SF t).laid j)) (d.free j) (by rw[aj];unfold bR;rw[TV])
def freeP(g:Int)(cl:∅):Int:=cl.foldl (λn c=>if c=0 then n*g else n) 1
theorem wj{g:Int}(a:1<=g):∀(cl:∅) (n:Int),1<=n->n<=cl.foldl (λn c=>if c=0 then n*g else n) n
 | [],n,_=>Wn _
 | c::r,n,hn=>by
  rw[Ti];by_cases h:c=0
  . rw[SY h];have h1:n*1<=n*g:=UW a #[4];rw[Int.mul_one]at h1;exact WW h1 (wj a r _ #[4])
  . rw[SS h];exact wj a r n hn
theorem JE(a:1<=g)(cl:∅)(i:Nat):1<=freeP g (cl.take i)/\freeP g (cl.take i)<=freeP g cl:=by
 have h1:1<=freeP g (cl.take i):=wj a _ 1 #[4];refine⟨h1,?_⟩
 have e:freeP g cl=(cl.drop i).foldl (λn c=>if c=0 then n*g else n) (freeP g (cl.take i)):=by
  unfold freeP;rw[← TX,Ue]
 rw[e];exact wj a _ _ h1
variable{cl:∅}
theorem KR{c:Int}(h:cl[i]? =some c):freeP g (cl.take (i+1))=if c=0 then freeP g (cl.take i)*g else freeP g (cl.take i):=by
 unfold freeP;rw[fS h,TX];rfl
def gP(K:Frag)(c:WY)(d:WZ):Sp:=#[3,∃ P L G h w g Sl cl,vs=[.ref P]/\IsPz H c d P L G h w g Sl cl/\freeP g cl<=1024/\∀ a,Same H a->Q .non a]
def gQ(K:Frag)(c:WY)(d:WZ):TS:=#[":glef#1 i#1 gIsbtnF~B~Cbhn0ci#2 omdrb2ef#0 ldX1dktnF~j~kbhn0cef#2 i#1 pomd>1ef#1024 Up"]
theorem uT(h:gP K c d vs H Q E):gQ K c d (eD9 Q) (start ["puzzle","floors","clue"] vs) H:=by
 obtain⟨P,L,G,h,w,g,Sl,cl,rfl,x,I,q⟩:=h;obtain⟨J,p,rs,h1,h2,h3⟩:=x.ex;have t:=x.R.F.g0;have D:=x.R.F.g1;exists gQ;refine methE (k:=.Puzzle) rfl x.ok h1 (by rfl) ?_;exists⟨P,L,G,h,w,g,Sl,cl,rfl,x,λl r=>?_⟩;obtain⟨u,A,s1,n⟩:=aU (.lst (cl.map V.int)) r;rw[A];refine⟨l,rfl,⟨_,ST n⟩,?_⟩;refine bg (K:=K) (xs:=cl.map V.int) (λi σ m=>∃ v:Option V,σ=[↑P,⇑(freeP g (cl.take i)),v]/\Same u m) ⟨none,rfl,SF _⟩ (λi σ m _ ⟨_,_,s⟩=>s.seq (ST n)) ?_ ?_
 . rintro i y σ C B ⟨v,rfl,a⟩;obtain⟨z,o,rfl⟩:=aL B;have b:=s1.trans a;have N:=JE t cl i;have f:=KR (g:=g) o;symm;rw[aF];symm;by_cases h0:z=0
   . rw[SB h0];rw[SY h0]at f;refine iteT ?_;refine methE (k:=.Puzzle) rfl x.ok (b _ _ h1) (by rfl) ?_;exists⟨P,L,G,h,w,g,Sl,cl,rfl,x.same b,λM j=>?_⟩;exists ixT j (v:=V.int g) rfl ?_;exists⟨.inl ⟨by lia,by lia⟩,⇑z,?_,a⟩;rw[f]
   . rw[SE h0];rw[SS h0]at f;refine iteF ⟨⇑z,?_,a⟩;rw[f]
 . rintro σ C ⟨v,rfl,a⟩;have e:cl.take (cl.map V.int).length=cl:=Tj (by rw[Sx];exact SZ _);rw[e];symm;rw[aF];symm;rw[SE #[4]];exact iteF (q _ (s1.trans a))
def trysL(g:Int)(cl ns:∅):List ∅:=(List.range cl.length).map λi=>if cl.getD i 0=0 then bR g (ns.getD i 0) else [cl.getD i 0]
variable{ns:∅}
theorem xV:(trysL g cl ns).length=cl.length:=by unfold trysL;simp
theorem JF(a:1<=g)(b:g<=6){ss:∅}(h:ss∈trysL g cl ns):1<=ss.length/\ss.length<=100:=by
 unfold trysL at h;obtain⟨i,_,rfl⟩:=SL.mp h
 split
 . rw[t6 a];lia
 . exact⟨SZ 1,(by decide:(1:Nat)<=100)⟩
theorem BN{g:Int}(d:1<=g)(f:Nat->Int)(s:Nat->∅)(b:∀ i,(s i).length=if f i=0 then g.toNat else 1):∀(a:List Nat) (n:Nat) (m:Int),(n:Int)=m->(((a.map s).foldl (λn ss=>n*ss.length) n:Nat):Int)=(a.map f).foldl (λn c=>if c=0 then n*g else n) m
 | [],n,m,h=>h
 | i::r,n,m,h=>by
  rw[S6,S6,Ti,Ti];refine BN d f s b r _ _ ?_;rw[b];by_cases h0:f i=0
  . rw[SY h0,SY h0,WG,h,VZ #[4]]
  . rw[SS h0,SS h0,Nat.mul_one,h]
theorem BO(a:1<=g):((prodL (trysL g cl ns):Nat):Int)=freeP g cl:=by
 have e:=BN a (λi=>cl.getD i 0) (λi=>if cl.getD i 0=0 then bR g (ns.getD i 0) else [cl.getD i 0]) (λi=>by
  split
  . exact t6 a
  . rfl) (List.range cl.length) 1 1 rfl
 have e2:=xQ (λx=>x) cl;rw[Ud]at e2;rw[e2]at e;exact e
def kA(K:Frag)(c:WY)(d:WZ):Sp:=#[3,∃ P L G N h w g Sl cl ns,vs=[.ref P,.ref N]/\IsPz H c d P L G h w g Sl cl/\H N=↥(ns.map V.int)/\ns.length=cl.length/\
 ∀(l:Addr) (b:List Addr) (a:Hp),Same H a->H l=none->IsLL a l b (trysL g cl ns)->Q (.ref l) a]
def kB(K:Frag)(c:WY)(d:WZ):TS:=#[":gltnF~j~kbhn0ci#2 jv&---2 'EbatnF~B~Cbhn0ca1c~hb#2 Si#1 Si#2 ~iC~amdrb1ef#0 ,{Vba3a2cua1c"]
theorem zr(h:kA K c d vs H Q E):kB K c d (eD9 Q) (start ["puzzle","numbers","floor"] vs) H:=by
 obtain⟨P,L,G,N,h,w,g,Sl,cl,ns,rfl,x,r,t,q⟩:=h;obtain⟨X,Y,rs,h1,h2,h3⟩:=x.ex;have T:cl.length<=16:=by have:=x.C.len;have:=x.R.F.m;lia
 exists kB;refine methE (k:=.Puzzle) rfl x.ok h1 (by rfl) ?_;exists⟨P,L,G,h,w,g,Sl,cl,rfl,x,λp J=>?_⟩;symm;rw[GC,b5];refine methE (k:=.Puzzle) rfl x.ok h1 (by rfl) ?_;exists⟨P,L,G,h,w,g,Sl,cl,rfl,x,λC U=>?_⟩;obtain⟨W,D,s1,s⟩:=aU (.lst (cl.map V.int)) U;rw[D];exists⟨C,N,rfl,⟨_,ST s⟩,⟨_,ST (s1 _ _ r)⟩,?_⟩;refine JD (xs:=cl.map V.int) (ys:=ns.map V.int) (λi=>.lst ((if cl.getD i 0=0 then bR g (ns.getD i 0) else [cl.getD i 0]).map V.int)) (by rw[Sx];lia) (by simp[t]) #[1] (ST s) (ST (s1 _ _ r)) ?_ ?_
 . intro i u v b S y M f k2;obtain⟨z,I,rfl⟩:=aL y;obtain⟨n,O,rfl⟩:=aL M;rw[bJ I,bJ O]at k2;show tIf _ _ _ [none,⇑z,⇑n,↑p] b S;unfold tIf;symm;by_cases h0:z=0
   . rw[SB h0];rw[SY h0]at k2;refine iteT ?_;exact⟨p,h,w,g,n,rfl,f _ _ (s1 _ _ J),x.R.F,λl B A a o=>k2 l B A a o⟩
   . rw[SE h0];rw[SS h0]at k2;refine iteF ⟨lnR rfl,λl a=>?_⟩;exact k2 l _ ((SF b).laid a) a (by rw[aj];rfl)
 . intro l as b a f o j;rw[Sx]at j
   have e:(List.range cl.length).map (λi=>HO.lst ((if cl.getD i 0=0 then bR g (ns.getD i 0) else [cl.getD i 0]).map V.int))=(trysL g cl ns).map λxs=>.lst (xs.map V.int):=by
    unfold trysL;rw[Te];rfl
   rw[e]at j;exact q l as b (s1.trans f) (s1.free a) (j.ll o)
variable{r:Addr}
theorem IsLL.other{o:HO}(x:IsLL H l as Sr)(h:r≠l)(b:r∉as):IsLL (upd H r o) l as Sr:=by
 refine⟨by rw[ap (Vr h)];exact x.top,x.len,λj a xs h1 h2=>?_⟩;have c:a≠r:=λz=>b (z ▸ SH h1);rw[ap c];exact x.at_ j a xs h1 h2
noncomputable def rp (h w g:Int) (Sl:List RR) (cl ns:∅) (n:Nat):List ∅:=((cg (trysL g cl ns)).filter (metB h w g Sl cl)).take n
def qN(K:Frag)(c:WY)(d:WZ):Sp:=#[3,∃ P L G N h w g a Sl cl ns,vs=[.ref P,.ref N,.int a]/\IsPz H c d P L G h w g Sl cl/\H N=↥(ns.map V.int)/\ns.length=cl.length/\freeP g cl<=1024/\0<=a/\
 ∀(l:Addr) (f:List Addr) (e:Hp),Same H e->H l=none->IsLL e l f (rp h w g Sl cl ns a.toNat)->l∉f->(∀ b∈f,H b=none)->Q (.ref l) e]
def qO(K:Frag)(c:WY)(d:WZ):TS:=#[":gT,{Wbhna0cgluci#3 gIsb,{Xba,{Ybhna0a1cci#4 gomdrbqAa3c2j3poztnF'F'Gbhn0a4cTGbMW3a4cpj3"]
theorem FS(h:qN K c d vs H Q E):qO K c d (eD9 Q) (start ["puzzle","numbers","most","found","filling"] vs) H:=by
 obtain⟨P,L,G,N,h,w,g,n,Sl,cl,ns,rfl,x,hN,Su,O,m0,q⟩:=h;obtain⟨dx,p0,rs,h1,h2,h3⟩:=x.ex;have ar:cl.length<=16:=by have:=x.C.len;have:=x.R.F.m;lia
 have g0:=x.R.F.g0;have g1:=x.R.F.g1;exists qO;refine⟨P,L,G,h,w,g,Sl,cl,rfl,x,O,λH1 s1=>?_⟩;exists⟨lnR rfl,λr hr=>?_⟩;have s2:Same H1 (upd H1 r (.lst [])):=(SF H1).laid hr;have er:(upd H1 r (.lst [])) r=some (.lst []):=aj;have M:H r=none:=s1.free hr;generalize upd H1 r (.lst [])=H2 at*;have B:=s1.trans s2;refine⟨P,L,G,N,h,w,g,Sl,cl,ns,rfl,x.same B,B _ _ hN,Su,λA as H3 Y hA xA=>?_⟩;exists⟨A,as,_,rfl,xA,by rw[xV];lia,λss ao=>JF g0 g1 ao,by have:=BO (cl:=cl) (ns:=ns) g0;lia,λl J H4 s4 hl xl nl fr=>?_⟩;have ag:=(B.trans Y).trans s4;have am:=(Y.trans s4) _ _ er;have ak:r≠l:=λz=>by rw[← z,Y _ _ er]at hl;cases hl
 have ac:r∉J:=λz=>by have:=fr r z;rw[Y _ _ er]at this;cases this
 have ab:∀ b∈J,H b=none:=λb t=>(B.trans Y).free (fr b t);have eL:cg (trysL g cl ns)=cg (trysL g cl ns):=rfl;have hq:=q;unfold rp at hq;have S:∀ f∈cg (trysL g cl ns),f.length<=16:=λf hf=>by rw[zq hf,xV];lia
 have ap:(cg (trysL g cl ns)).length<=1024:=by rw[zn];have:=BO (cl:=cl) (ns:=ns) g0;lia
 generalize cg (trysL g cl ns)=LL at*;have al:=xl.len;refine⟨l,rfl,⟨_,ST xl.top⟩,?_⟩
 refine bg (K:=K) (xs:=J.map V.ref) (λi σ H'=>∃(v:Option V) (cs:List Addr),σ=[↑P,↑N,⇑n,↑r,v]/\Same H H'/\IsLL H' l J LL/\IsLL H' r cs ((LL.take i).filter (metB h w g Sl cl))/\r∉cs/\(∀ b∈cs,b∈J)/\(cs.length:Int)<=n)
  ⟨none,[],rfl,ag,xl,⟨am,rfl,λj a xs h1=>by simp at h1⟩,by simp,(λb t=>nomatch t),by simpa using m0⟩ (λi σ H' _ ⟨_,_,_,_,z,_⟩=>ST z.top) ?_ ?_
 . rintro i y σ H5 hy ⟨v,cs,rfl,T,u,s,U,o,ae⟩;obtain⟨b,t,rfl⟩:=bf hy;obtain⟨f,ef,eb⟩:=u.get t;have Z:=SH t;have aq:=S f (SH ef);have af:=s.len;symm;rw[aF];symm;rw[aZ s.top,Sx];symm;by_cases hm:(cs.length:Int)=n
   . rw[SB hm];refine iteT ?_;refine hq r cs H5 T M ?_ U λb t=>ab b (o b t)
     have e:(LL.filter (metB h w g Sl cl)).take n.toNat=(LL.take i).filter (metB h w g Sl cl):=by
      have e1:LL.filter (metB h w g Sl cl)=(LL.take i).filter (metB h w g Sl cl)++(LL.drop i).filter (metB h w g Sl cl):=by rw[← Tm,Ue]
      rw[e1,List.take_append_of_le_length #[4],Tj #[4]]
     rw[e];exact s
   . rw[SE hm];refine iteF ?_;rw[aF];exists methE (k:=.Puzzle) rfl x.ok (T _ _ h1) (by rfl) ?_;exists⟨P,L,G,b,h,w,g,Sl,cl,f,rfl,x.same T,eb,by lia,λH6 I=>?_⟩;have ad:=T.trans I
     cases D:metB h w g Sl cl f with
     | false=>
      refine⟨_,rfl,?_⟩;refine iteF ⟨_,cs,rfl,ad,u.same I,?_,U,o,ae⟩;rw[fS ef,Tm,Tk,D]
      simpa using s.same I
     | true=>
      refine⟨_,rfl,?_⟩;refine iteT ⟨br (I _ _ s.top),?_⟩;have X:r≠b:=λz=>ac (z ▸ Z);have W:=s.same I
      have z:=W.app (bs:=[b]) (yss:=[f]) U (by simpa using X) rfl λj a ys h1 h2=>by
       have hj:j=0:=by have:=(SD.mp h1).1;simp at this;lia
       subst hj;cases h1;cases h2;exact I _ _ eb
      have ai:cs.length<sizeLine:=by
       have h4:=SV (metB h w g Sl cl) (LL.take i);have h5:(LL.take i).length<=LL.length:=by rw[Tx];exact Nat.min_le_right _ _
       exact BL #[4]
      rw[fV W.top];refine⟨by rw[Sx];exact ai,_,cs++[b],rfl,ad.own M,(u.same I).other ak ac,?_,?_,?_,?_⟩
      . rw[fS ef,Tm,Tk,D]
        simpa using z
      . intro p;rcases SX.mp p with p | p
        . exact U p
        . exact X (SO.mp p)
      . intro a ha;rcases SX.mp ha with ha | ha
        . exact o a ha
        . rw[SO.mp ha];exact Z
      . rw[Ta];show((cs.length+1:Nat):Int)<=n;lia
 . rintro σ H5 ⟨v,cs,rfl,T,u,s,U,o,ae⟩;symm;have e:LL.take (J.map V.ref).length=LL:=Tj (by rw[Sx,al];exact SZ _);rw[e]at s;have af:=s.len;refine hq r cs H5 T M ?_ U λb t=>ab b (o b t);rw[Tj #[4]];exact s
theorem Mt{q:Addr}{bs:List Addr}(a:IsLL H p as Sr)(b:IsLL H q bs yss)(h:Q (.bl (!decide (Sr=yss))) H):cNe K (.ref p) (.ref q) H Q:=by
 show rNeD K (.ref p) (.ref q) H Q;refine⟨_,_,a.dv,b.dv,BC Sr,BC yss,?_⟩;rw[PyData.eqv,wd dLI L7];exact h
theorem GE(m:Int):(sgL m).length<=Builtin.Int.intBits m:=by
 unfold sgL;rw[Sx];refine SW (SV _ _) ?_;rw[TW];exact SZ _
def prodW(ms:∅):Nat:=ms.foldl (λp m=>p*(sgL m).length) 1
variable{x:Int}
theorem zt(f:α->Int->α)(a:α)(h:xs[i]? =some x):(xs.take (i+1)).foldl f a=f ((xs.take i).foldl f a) x:=by
 rw[U9,h,TX];rfl
def AX(K:Frag):Sp:=#[3,∃ p ms,vs=[.ref p]/\H p=↥(ms.map V.int)/\(∀ m∈ms,Builtin.Int.intBits m<=900)/\∀ a,Same H a->Q (.int ((prodW ms:Nat):Int)) a]
def AY(K:Frag):TS:=#[":glef#1 i#1 gIsb0i#2 ldX1qAa,-ba2cci#1 j1"]
theorem Mu(h:AX K vs H Q E):AY K (eD9 Q) (start ["masks","product","mask"] vs) H:=by
 obtain⟨p,ms,rfl,d,g,k⟩:=h;exists AY;refine⟨⟨_,ST d⟩,bg (K:=K) (xs:=ms.map V.int) (λi σ c=>∃ a:Option V,σ=[↑p,⇑((prodW (ms.take i):Nat):Int),a]/\Same H c) ⟨none,rfl,SF H⟩ (λi σ c _ ⟨_,_,s⟩=>ST (s _ _ d)) ?_ ?_⟩
 . rintro i x σ j n ⟨a,rfl,s1⟩;obtain⟨m,e,rfl⟩:=aL n;have b:=g m (SH e);exists⟨m,rfl,b,λl r f q o=>?_⟩;symm;rw[aZ o];symm;have h1:=GE m;rw[Sx];refine⟨.inr ⟨by lia,by lia⟩,⇑m,?_,s1.trans f⟩;unfold prodW;rw[zt _ _ e,WG]
 . rintro σ j ⟨a,rfl,s1⟩;symm;rw[Tj (by rw[Sx];exact SZ _)] at*;exact k _ s1
def setL(xs:∅)(z s:Int):∅:=(List.range xs.length).map λ(i:Nat)=>if (i:Int)=z then s else xs.getD i 0
variable{z s:Int}
theorem tO:(setL xs z s).length=xs.length:=by unfold setL;simp
def GF(s0:0<=s)(b:s<=6)(e:∀ x∈xs,0<=x/\x<=6):∀ x∈setL xs z s,0<=x/\x<=6:=λx h=>by
 unfold setL at h;obtain⟨i,f,rfl⟩:=SL.mp h;have a:=SQ.mp f;have c:=e _ (S9 a);have d:xs.getD i 0=xs[i]:=by rw[List.getD,Sy a];rfl
 rw[d]
 split
 . exact⟨s0,b⟩
 . exact c
def kC(K:Frag):Sp:=#[3,∃ F xs z s,vs=[.ref F,.int z,.int s]/\H F=↥(xs.map V.int)/\xs.length<=100/\∀ l a,Same H a->H l=none->a l=↥((setL xs z s).map V.int)->Q (.ref l) a]
def oU(K:Frag):TS:=#[":jv&---12 'gba0c~hb#2 Si#1 Si#2 ~iC~amdrb1342"]
theorem En(h:kC K vs H Q E):oU K (eD9 Q) (start ["filling","cell","sign"] vs) H:=by
 obtain⟨F,xs,z,s,rfl,d,k,q⟩:=h;exists oU;refine⟨F,rfl,⟨_,ST d⟩,?_⟩;refine sX (xs:=xs.map V.int) (λ_=>true) (λi=>.int (if (i:Int)=z then s else xs.getD i 0)) (by rw[Sx];lia) #[1] (ST d) ?_ ?_ ?_
 . intro i x b R e s1 k1;exact k1 _ (SF _)
 . intro i x b g e m s1 k1;obtain⟨y,j,rfl⟩:=aL e;have a:=k1 _ (SF b);rw[bJ j]at a;show tIf _ _ _ [none,⇑(i:Int),⇑y,⇑z,⇑s] b g;unfold tIf;symm;by_cases h0:(i:Int)=z
   . rw[SB h0];rw[SY h0]at a;exact iteT a
   . rw[SE h0];rw[SS h0]at a;exact iteF a
 . intro l b c s1 f;rw[aY,Sx]at f;refine q l b s1 c ?_;rw[f];unfold setL;rw[Te];rfl
def extS(a:List ∅)(z:Int)(ss:∅):List ∅:=a.flatMap λf=>ss.map λs=>setL f z s
theorem xW(z:Int)(ss:∅):∀ a:List ∅,(extS a z ss).length=a.length*ss.length
 | []=>by simp[extS]
 | f::r=>by
  have b:=xW z ss r;unfold extS at b ⊢;rw[Wm,Ta,b,Sx,S2,V3,WS]
theorem KS(fs a:List ∅)(z:Int)(ss:∅):extS (fs++a) z ss=extS fs z ss++extS a z ss:=by
 unfold extS;rw[Vg]
theorem KU(f:∅)(z:Int)(ss:∅):extS [f] z ss=ss.map λs=>setL f z s:=by
 unfold extS;simp
theorem mem_extS{fs:List ∅}:f∈extS fs z ss↔∃ a∈fs,∃ s∈ss,f=setL a z s:=by
 unfold extS;rw[Uq];constructor
 . rintro⟨a,c,h⟩;obtain⟨s,b,rfl⟩:=SL.mp h;exact⟨a,c,s,b,rfl⟩
 . rintro⟨a,c,s,b,rfl⟩;exact⟨a,c,SL.mpr ⟨s,b,rfl⟩⟩
theorem JG{f d e:Hp}{m:Addr}{bs:List Addr}(x:IsLL d l as Sr)(i:l∉as)(s0:Same f d)(k:∀ b∈as,f b=none)(s1:Same d e)(c:NewAt d e m bs (yss.map λys=>.lst (ys.map V.int))):
  IsLL (upd e l (.lst (as.map V.ref++bs.map V.ref))) l (as++bs) (Sr++yss)/\l∉as++bs/\(∀ b∈as++bs,f b=none):=by
 have g:l∉bs:=λh=>by have:=c.fr l h;rw[x.top]at this;cases this
 refine⟨?_,?_,?_⟩
 . refine(x.same s1).app i g (by rw[c.len,Sx]) λj a ys h1 h2=>?_;exact c.at_ j a _ h1 (by rw[SI,h2];rfl)
 . intro h;rcases SX.mp h with h | h
   . exact i h
   . exact g h
 . intro b h;rcases SX.mp h with h | h
   . exact k b h
   . exact s0.free (c.fr b h)
def iH(K:Frag):Sp:=#[3,∃ F S as a z ss,vs=[.ref F,.int z,.ref S]/\IsLL H F as a/\H S=↥(ss.map V.int)/\a.length*ss.length<=1100/\ss.length<=100/\(∀ f∈a,f.length<=16)/\
 ∀(l:Addr) (c:List Addr) (b:Hp),Same H b->H l=none->IsLL b l c (extS a z ss)->Q (.ref l) b]
def iI(K:Frag):TS:=#[":gluci#3 gIsb0i#4 TGbM'f3av&--14 sb2i#1 C,'Hba3a2a1ccj3"]
theorem wv(h:iH K vs H Q E):iI K (eD9 Q) (start ["fillings","cell","signs","found","filling"] vs) H:=by
 obtain⟨F,S,as,c,z,ss,rfl,x,M,hn,hs,hf,q⟩:=h;exists iI;refine⟨lnR rfl,λl o=>?_⟩;obtain⟨H1,P,s1,D⟩:=aU (.lst []) o;rw[P];refine⟨⟨_,ST (s1 _ _ x.top)⟩,?_⟩
 refine bg (K:=K) (xs:=as.map V.ref) (λi σ p=>∃(v:Option V) (d:List Addr),σ=[↑F,⇑z,↑S,↑l,v]/\Same H p/\IsLL p l d (extS (c.take i) z ss)/\l∉d/\∀ b∈d,H b=none)
  ⟨none,[],rfl,s1,⟨D,rfl,λj a xs h1=>by simp at h1⟩,by simp,λb r=>nomatch r⟩ (λi σ p _ ⟨_,_,_,s,_⟩=>s.seq (ST x.top)) ?_ ?_
 . rintro i y σ u Y ⟨v,d,rfl,g,k,N,I⟩;obtain⟨f,G,rfl⟩:=bf Y;obtain⟨xs,C,X⟩:=x.get G;have T:=hf xs (SH C);exists⟨br k.top,⟨_,ST (g _ _ M)⟩,?_⟩;refine nQ (xs:=ss.map V.int) (λ_=>true) (λi=>.lst ((setL xs z (ss.getD i 0)).map V.int)) (by rw[Sx];lia) (ST (g _ _ M)) ?_ ?_ ?_
   . intro i x H R hx s1 k1;exact k1 _ (SF _)
   . intro i x B W L r n k3;obtain⟨t,ht,rfl⟩:=aL L;rw[bJ ht]at k3;show tCall _ _ _ _ [none,⇑t,⇑z,↑f] B W;exists⟨f,xs,z,t,rfl,(g.trans n) _ _ X,by lia,λl p O o D=>k3 l p O o D⟩
   . intro m cs B hm n em w;rw[aY,Sx,xQ (λs=>HO.lst ((setL xs z s).map V.int))]at w
     have A:NewAt u B m cs ((extS [xs] z ss).map λZ=>.lst (Z.map V.int)):=by
      rw[KU,Te];exact w
     have r:d.length+cs.length<=1100:=by
      have J:=k.len;rw[xW,Tx]at J;have l2:=w.len;rw[Sx]at l2;have L:=(SD.mp C).1;have e1:min i c.length=i:=by lia
      rw[e1]at J;have:=U7 ss.length (show i+1<=c.length by lia);rw[V3]at this;lia
     refine BM (n _ _ k.top) em (by rw[Sx,Sx];exact r) ?_;obtain⟨z1,z2,U⟩:=JG k N g I n A;refine⟨_,d++cs,rfl,(g.trans n).own o,?_,z2,U⟩;rw[fS C,KS];exact z1
 . rintro σ u ⟨v,d,rfl,g,k,N,I⟩;symm;have e:c.take (as.map V.ref).length=c:=Tj (by rw[Sx,x.len];exact SZ _);rw[e]at k;exact q l d u g o k
def wfold(Sj:∅)(rest:∅)(fs:List ∅):List ∅:=rest.foldl (λfs o=>extS fs o (sgL (Sj.getD o.toNat 0))) fs
def wfill(Sj rest:∅)(z s:Int):List ∅:=wfold Sj rest [setL (List.replicate Sj.length 0) z s]
noncomputable def waysB (k:RK) (h w:Int) (cs:∅) (n m:Int) (Sj:∅) (z s:Int) (ms:∅):Bool:=
 decide (ms=[])&&(decide (prodW (sgAt Sj (othL cs z))<=32)&&(decide (0∈sgAt Sj (othL cs z))||!((wfill Sj (othL cs z) z s).any λf=>hoB k h w cs n m f)))
theorem BP(Sj:∅):∀(rest:∅) (fs:List ∅),(wfold Sj rest fs).length=(sgAt Sj rest).foldl (λp m=>p*(sgL m).length) fs.length
 | [],_=>rfl
 | o::r,fs=>by
  unfold wfold sgAt;rw[Ti,S6,Ti];have:=BP Sj r (extS fs o (sgL (Sj.getD o.toNat 0)));unfold wfold sgAt at this;rw[this,xW]
theorem Eo:∀(ms:∅) (n:Nat),(∀ m∈ms,1<=(sgL m).length)->n<=ms.foldl (λp m=>p*(sgL m).length) n
 | [],_,_=>SZ _
 | m::r,n,h=>by
  rw[Ti];exact SW (Wu n (h m SN)) (Eo r _ λx a=>h x (SM _ a))
theorem Hy(i:Nat)(h:∀ m∈ms,1<=(sgL m).length):prodW (ms.take i)<=prodW ms:=by
 have e:prodW ms=(ms.drop i).foldl (λp m=>p*(sgL m).length) (prodW (ms.take i)):=by
  unfold prodW;rw[← TX,Ue]
 rw[e];exact Eo _ _ λx a=>h x (VO a)
theorem tP{n:Nat}{Sj:∅}(i:∀ m∈Sj,0<=m/\m<64):∀(rest:∅) (fs:List ∅),(∀ f∈fs,f.length=n/\∀ x∈f,0<=x/\x<=6)->∀ f∈wfold Sj rest fs,f.length=n/\∀ x∈f,0<=x/\x<=6
 | [],_,h,f,hf=>h f hf
 | o::r,fs,h,f,hf=>by
  refine tP i r (extS fs o (sgL (Sj.getD o.toNat 0))) (λg q=>?_) f hf;obtain⟨a,p,s,c,rfl⟩:=mem_extS.mp q;have h1:=h a p
  have d:1<=s/\s<=6:=by
   by_cases b:o.toNat<Sj.length
   . have e:Sj.getD o.toNat 0=Sj[o.toNat]:=by rw[List.getD,Sy b];rfl
     rw[e]at c;have k:=i _ (S9 b);rw[(dL k.1 k.2).2]at c;obtain⟨j,l,rfl⟩:=SL.mp c;have:=(SJ.mp l).1;simp at this;lia
   . have e:Sj.getD o.toNat 0=0:=by rw[List.getD,S0 #[4]];rfl
     rw[e,Jw]at c;cases c
  exact⟨by rw[tO];exact h1.1,GF #[4] d.2 h1.2⟩
def kD(K:Frag)(c:WY):Sp:=#[3,∃ k r p A M b cs Sj ms n m z s h w g,vs=[.ref r,.ref A,.int z,.int s,.ref M]/\IsRule H c k r p b cs n m/\IsFl H p h w g/\FlOk h w g/\aO cs Sj.length/\Sj.length<=16/\(∀ m∈Sj,0<=m/\m<64)/\1<=s/\s<=6/\H A=↥(Sj.map V.int)/\H M=↥(ms.map V.int)/\∀ a,Same H a->Q (.bl (waysB k h w cs n m Sj z s ms)) a]
def gR(K:Frag)(c:WY):TS:=#[":gIsb7i#9 ozthE'd'ebh0a9cjeHBpjeHR"]
def gS(K:Frag)(c:WY):TS:=#[":glua,'Hbad'huaef#0 cqAa1ca2a3cci#7 gIsb5i#8 l,{Zba7a8a,-badk18cci#7 {*bh"]
def kE(K:Frag)(c:WY):TS:=#[":gl,+bha0a2ci#5 gl,~rba1a5ci#6 goOmdDb4ucmd>,{+ba6cef#32 jeHBpgoz,~Iba6cjeHRp{-bh"]
structure Wys(H:Hp)(c:WY)(k:RK)(r p A:Addr)(ws:List (List Nat))(cs Sj:∅)(n m h w g:Int):Prop where
 R:IsRule H c k r p ws cs n m
 fl:IsFl H p h w g
 F:FlOk h w g
 ci:aO cs Sj.length
 ml:Sj.length<=16
 mo:∀ m∈Sj,0<=m/\m<64
 hA:H A=↥(Sj.map V.int)
variable{A:Addr}{Sj:∅}
def Wys.same{a:Hp}{k:RK}{b:List (List Nat)}{n:Int}(x:Wys H c k r p A b cs Sj n m h w g)(s:Same H a):Wys a c k r p A b cs Sj n m h w g:=⟨x.R.same s,s _ _ x.fl,x.F,x.ci,x.ml,x.mo,s _ _ x.hA⟩
theorem Hz {k:RK} {F:Addr} {M:List (List Nat)} {n:Int} {N D G P L S:Option V} {bs:List Addr} {a:List ∅} (X:Wys H c k r p A M cs Sj n m h w g) (x:IsLL H F bs a) (Y:∀ f∈a,f.length=Sj.length/\∀ x∈f,0<=x/\x<=6)
  (q:∀ j,Same H j->Q (.bl (!(a.any λf=>hoB k h w cs n m f))) j):
  gR K c (eD9 Q) [↑r,↑A,N,D,G,P,L,↑F,S,none] H:=by
 obtain⟨dx,W,C,h1,h2,h3⟩:=X.R.ex;have v:=x.len;unfold gR;exists⟨⟨_,ST x.top⟩,?_⟩;refine bg (K:=K) (xs:=bs.map V.ref) (λi σ j=>∃ t:Option V,σ=[↑r,↑A,N,D,G,P,L,↑F,S,t]/\Same H j/\((a.take i).any λf=>hoB k h w cs n m f)=false) ⟨none,rfl,SF _,rfl⟩ (λi σ j _ ⟨_,_,s,_⟩=>s.seq (ST x.top)) ?_ ?_
 . rintro i y σ T z ⟨t,rfl,s1,d⟩;obtain⟨b,Z,rfl⟩:=bf z;obtain⟨f,O,U⟩:=x.get Z;have l:=SH O;obtain⟨u,B⟩:=Y f l;have o:=X.same s1;symm;rw[aF];exists methE (k:=k) rfl X.R.ok (s1 _ _ h1) (by rfl) ?_;exists⟨r,p,b,M,cs,f,n,m,h,w,g,rfl,o.R,o.fl,o.F,s1 _ _ U,by rw[u];exact o.ci,λy z=>by have:=B y z;lia,λH2 J=>?_⟩;refine⟨_,rfl,?_⟩
   cases E:hoB k h w cs n m f with
   | true=>
    refine iteT ?_;have e:(a.any λf=>hoB k h w cs n m f)=true:=Ug.mpr ⟨f,l,E⟩;have I:=q _ (s1.trans J);rw[e]at I;exact I
   | false=>
    refine iteF ⟨_,rfl,s1.trans J,?_⟩;rw[fS O,List.any_append,d,TY]
    simpa using E
 . rintro σ T ⟨t,rfl,s1,d⟩;rw[Tj (by rw[Sx,v];exact SZ _)]at d;symm;rw[d]at q;exact q _ s1
theorem HA {k:RK} {R:Addr} {ws:List (List Nat)} {n:Int} {v4 v6:Option V} (X:Wys H c k r p A ws cs Sj n m h w g) (hR:H R=↥((othL cs z).map V.int)) (s0:1<=s) (s6:s<=6) (hw:prodW (sgAt Sj (othL cs z))<=32) (h0:0∉sgAt Sj (othL cs z))
  (q:∀ u,Same H u->Q (.bl (!((wfill Sj (othL cs z) z s).any λf=>hoB k h w cs n m f))) u):
  gS K c (eD9 Q) [↑r,↑A,⇑z,⇑s,v4,↑R,v6,none,none,none] H:=by
 have ad:=X.ml;unfold gS;exists⟨lnR rfl,λZ hZ=>?_⟩;obtain⟨G,z9,s1,eZ⟩:=aU (.lst [V.int 0]) hZ;rw[z9];rw[aZ (s1 _ _ X.hA),Sx];refine DK eZ #[4] #[4] (by show(1:Nat)<=1;decide) λN hN=>?_;have s2:Same G (upd G N (.lst (List.replicate ((Sj.length:Nat):Int).toNat [V.int 0]).flatten)):=(SF G).laid hN
 have eN:(upd G N (.lst (List.replicate ((Sj.length:Nat):Int).toNat [V.int 0]).flatten)) N=↥((List.replicate Sj.length (0:Int)).map V.int):=by
  rw[aj,Wc];simp
 generalize upd G N (.lst (List.replicate ((Sj.length:Nat):Int).toNat [V.int 0]).flatten)=H2 at*;have T:=s1.trans s2;refine⟨N,_,z,s,rfl,eN,by simp;lia,λb E s3 B eb=>?_⟩;have ab:=T.trans s3;exists⟨lnR rfl,λF hF=>?_⟩;have s4:Same E (upd E F (.lst [V.ref b])):=(SF E).laid hF
 have xF:IsLL (upd E F (.lst [V.ref b])) F [b] [setL (List.replicate Sj.length 0) z s]:=by
  refine⟨aj,rfl,λj a xs e1 e2=>?_⟩;have hj:j=0:=by have:=(SD.mp e1).1;simp at this;lia
  subst hj;cases e1;cases e2;exact s4 _ _ eb
 generalize upd E F (.lst [V.ref b])=H4 at*;have J:=ab.trans s4
 have t:∀ f∈([setL (List.replicate Sj.length 0) z s]:List ∅),f.length=Sj.length/\∀ x∈f,0<=x/\x<=6:=λf hf=>by
  rw[SO.mp hf];exact⟨by rw[tO];simp,GF #[4] s6 λx hx=>by rw[(We.mp hx).2];lia⟩
 have U:∀ Y∈sgAt Sj (othL cs z),1<=(sgL Y).length:=λY hm=>by
  have C:Y≠0:=λe=>h0 (e ▸ hm);unfold sgAt at hm;obtain⟨o,M,rfl⟩:=SL.mp hm;have v:o∈cs:=(SJ.mp M).1;have hi:=X.ci.2 o v;have d:o.toNat<Sj.length:=by lia
  have e:Sj.getD o.toNat 0=Sj[o.toNat]:=by rw[List.getD,Sy d];rfl
  rw[e]at C ⊢;have B:=X.mo _ (S9 d);exact(Hu B.1 B.2 C).1.1
 refine⟨⟨_,ST (J _ _ hR)⟩,?_⟩;refine bg (K:=K) (xs:=(othL cs z).map V.int) (λi σ u=>∃(F:Addr) (L:List Addr) (v8:Option V),σ=[↑r,↑A,⇑z,⇑s,v4,↑R,v6,↑F,v8,none]/\Same H u/\IsLL u F L (wfold Sj ((othL cs z).take i) [setL (List.replicate Sj.length 0) z s])) ⟨F,[b],none,rfl,J,xF⟩ (λi σ u _ ⟨_,_,_,_,s,_⟩=>s.seq (ST hR)) ?_ ?_
 . rintro i y σ H5 hy ⟨F,L,v8,rfl,I,O⟩;obtain⟨o,M,rfl⟩:=aL hy;have P:=SH M;have v:o∈cs:=(SJ.mp P).1;have hi:=X.ci.2 o v;have d:o.toNat<Sj.length:=by lia
   have e:Sj.getD o.toNat 0=Sj[o.toNat]:=by rw[List.getD,Sy d];rfl
   have B:=X.mo _ (S9 d);have sb:=dL B.1 B.2;exists ixI (I _ _ X.hA) #[4] #[4] ?_;symm;rw[e];refine⟨_,rfl,by lia,λS H6 D hS eS=>?_⟩;symm;have ac:(sgL Sj[o.toNat]).length<=6:=SW (GE _) sb.1;refine⟨F,S,L,_,o,_,rfl,O.same D,eS,?_,by lia,λf hf=>by have:=(tP X.mo _ _ t f hf).1;lia,λl W H7 s7 hl x7=>?_⟩
   . rw[BP];have h1:=Hy i U
     have e2:(sgAt Sj ((othL cs z).take i)).foldl (λp m=>p*(sgL m).length) ([setL (List.replicate Sj.length 0) z s]:List ∅).length=prodW ((sgAt Sj (othL cs z)).take i):=by
      unfold prodW sgAt;rw[U0];rfl
     rw[e2];have h3:prodW ((sgAt Sj (othL cs z)).take i)*(sgL Sj[o.toNat]).length<=32*6:=Wb #[4] ac;lia
   . refine⟨l,W,_,rfl,(I.trans D).trans s7,?_⟩
     have e3:wfold Sj ((othL cs z).take (i+1)) [setL (List.replicate Sj.length 0) z s]=extS (wfold Sj ((othL cs z).take i) [setL (List.replicate Sj.length 0) z s]) o (sgL Sj[o.toNat]):=by
      unfold wfold;rw[zt _ _ M,e]
     rw[e3];exact x7
 . rintro σ H5 ⟨F,L,v8,rfl,I,O⟩;rw[Tj (by rw[Sx];exact SZ _)]at O;exact Hz (X.same I) O (tP X.mo _ _ t) λu s'=>q u (I.trans s')
theorem zu(h:kD K c vs H Q E):kE K c (eD9 Q) (start ["rule","masks","cell","sign","more","rest","some","fillings","other","filling"] vs) H:=by
 obtain⟨k,r,p,A,M,D,cs,Sj,ms,n,m,z,s,h,w,g,rfl,G,Z,F,i,ml,mk,s0,L,J,hM,q⟩:=h;have X:Wys H c k r p A D cs Sj n m h w g:=⟨G,Z,F,i,ml,mk,J⟩;have u:cs.length<=63:=by have:=i.1;lia
 exists kE;refine⟨k,r,p,D,cs,n,m,z,rfl,G,u,λR T s1 U N=>?_⟩;have d:T R=↥((othL cs z).map V.int):=N;exists⟨A,R,Sj,othL cs z,rfl,s1 _ _ J,d,⟨SW (SV _ _) i.1,λx j=>i.2 x (SJ.mp j).1⟩,λS y B hS C=>?_⟩;have t:=s1.trans B;dsimp only;rw[aF];exists⟨lnR rfl,λe O=>?_⟩;obtain⟨H3,z9,s3,ee⟩:∃ z,upd y e (.lst [])=z/\Same y z/\z e=↥(([]:∅).map V.int):=aU _ O;rw[z9];have b:=t.trans s3;refine sV (b _ _ hM) ee ?_;refine⟨_,rfl,?_⟩;unfold waysB at q;by_cases v:ms=[]
 . rw[SB v]at q ⊢;rw[S7]at q;refine iteF ?_;exists⟨S,_,rfl,s3 _ _ C,λx j=>?_,λH4 l=>?_⟩
   . unfold sgAt at j;obtain⟨o,Y,rfl⟩:=SL.mp j;have hi:=i.2 o (SJ.mp Y).1;have f:o.toNat<Sj.length:=by lia
     have e:Sj.getD o.toNat 0=Sj[o.toNat]:=by rw[List.getD,Sy f];rfl
     rw[e];have I:=mk _ (S9 f);have:=(dL I.1 I.2).1;lia
   . have a:=b.trans l;symm;by_cases hw:prodW (sgAt Sj (othL cs z))<=32
     . rw[SB hw,S7]at q;rw[SE #[4]];refine iteF ?_;rw[aF];exists⟨S,_,rfl,(s3.trans l) _ _ C,?_⟩;refine⟨_,rfl,?_⟩;by_cases h0:0∈sgAt Sj (othL cs z)
       . rw[SB h0]at q ⊢;rw[UY]at q;exact iteT (q _ a)
       . rw[SE h0]at q ⊢;rw[TY]at q;refine iteF ?_;exact HA (X.same a) (((B.trans s3).trans l) _ _ d) s0 L hw h0 λW P=>q W (a.trans P)
     . rw[SE hw,S1]at q;rw[SB #[4]];exact iteT (q _ a)
 . rw[SE v,S1]at q;rw[SE v];exact iteT (q _ b)
def kF(g:Int)(t:TK)(x:RR)(Sj:∅)(z s:Int)(ms:∅):Bool:=match t with
 | .only=>onlyB x.cs Sj z s ms
 | .place=>gM g x.cs Sj z s ms
 | _=>pairB x.cs Sj z s ms
def cj(g:Int)(Sl:List RR)(cl Sj:∅)(t:TK)(r z s:Int)(ms:∅):Bool:=match t with
 | .clue=>clueB cl z s ms
 | _=>match Sl[r.toNat]? with
  | none=>false
  | some x=>kF g t x Sj z s ms
abbrev K28(t:TK):Prop:=t=.clue\/t=.only\/t=.place\/t=.pair
theorem Dk{α:Type}{f:Int->α}(g:(cs.map f).Nodup){a b:Int}(j:a∈cs)(k:b∈cs)(m:a≠b):f a≠f b:=by
 induction cs with
 | nil=>cases j
 | cons x r l=>
  rw[S6,Ty]at g;rcases SU.mp j with i | d
  . rcases SU.mp k with h | c
    . exact absurd (i.trans h.symm) m
    . rw[i];exact λe=>g.1 (SL.mpr ⟨b,c,e.symm⟩)
  . rcases SU.mp k with h | c
    . rw[h];exact λe=>g.1 (SL.mpr ⟨a,d,e⟩)
    . exact l g.2 d c
theorem Mv:((List.range 64).all λm=>(List.range 6).all λj=>(List.range 6).all λi=>!(decide (woI (m:Int) (1+(j:Int))=0)&&stB (m:Int) (1+(i:Int)))||decide (i=j))=true:=by decide+kernel
theorem Ep(d:0<=m)(b:m<64)(s0:1<=s)(c:s<=6)(e:1<=x)(f:x<=6)(h1:woI m s=0)(h2:stB m x=true):x=s:=by
 have t:=SK.mp (SK.mp (SK.mp Mv m.toNat (SQ.mpr #[4])) (s-1).toNat (SQ.mpr #[4])) (x-1).toNat (SQ.mpr #[4]);have e1:((m.toNat:Nat):Int)=m:=by lia
 have e2:1+(((s-1).toNat:Nat):Int)=s:=by lia
 have a:1+(((x-1).toNat:Nat):Int)=x:=by lia
 rw[e1,e2,a,SB h1,h2]at t;simp at t;lia
variable{a:Int}
def Er{b:Int}(c:0<=a)(d:0<=b):Builtin.bitOr a b=((a.toNat||| b.toNat:Nat):Int):=Ju c d
theorem KW:((List.range 64).all λm=>(List.range 6).all λi=>decide (stB (m:Int) (1+(i:Int))=Nat.testBit m i)&&decide (decide (1+(i:Int)∈sgL (m:Int))=Nat.testBit m i))=true:=by decide+kernel
theorem lP(c:0<=m)(a:m<64)(d:1<=x)(b:x<=6):stB m x=m.toNat.testBit (x-1).toNat/\decide (x∈sgL m)=m.toNat.testBit (x-1).toNat:=by
 have t:=SK.mp (SK.mp KW m.toNat (SQ.mpr #[4])) (x-1).toNat (SQ.mpr #[4]);rw[SA,Sz,Sz,show((m.toNat:Nat):Int)=m by lia,show 1+(((x-1).toNat:Nat):Int)=x by lia]at t;exact t
theorem GG{b:Int}(e:0<=a)(i:a<64)(f:0<=b)(g:b<64)(c:1<=x)(d:x<=6)(h:stB a x=true\/stB b x=true):x∈sgL (Builtin.bitOr a b):=by
 have l:a.toNat||| b.toNat<2^6:=Nat.or_lt_two_pow #[4] #[4];have o:=(lP (m:=((a.toNat||| b.toNat:Nat):Int)) #[4] #[4] c d).2;rw[(lP e i c d).1,(lP f g c d).1]at h;rw[Er e f];refine SG (o.trans ?_);rw[TC,Nat.testBit_or,TD];exact h
theorem Mw{b:Int}(d:a∈xs)(c:b∈xs)(e:a≠b):2<=xs.length:=by
 match xs,d,c with
 | [x],d,c=>exact absurd ((SO.mp d).trans (SO.mp c).symm) e
 | x::y::r,_,_=>simp
theorem NM{vs:∅}(f:vs.Nodup)(e:∀ v∈vs,1<=v/\v<=g)(l:(vs.length:Int)=g)(h:1<=x)(i:x<=g):x∈vs:=by
 refine Wi λj=>?_;have d:(x::vs).Nodup:=Ty.mpr ⟨j,f⟩
 have c:∀ v∈x::vs,v∈(List.range g.toNat).map λ(k:Nat)=>1+(k:Int):=λv a=>by
  have b:1<=v/\v<=g:=by
   rcases SU.mp a with rfl | a
   . exact⟨h,i⟩
   . exact e v a
  exact SL.mpr ⟨(v-1).toNat,SQ.mpr #[4],by lia⟩
 have:=fW d c;rw[S2,Sx,TW]at this;lia
noncomputable def rcB (h w:Int) (cs:∅) (st x:Int):Bool:=@decide (RC h w cs st x) (Classical.propDecidable _)
theorem Es{rs:∅}{st:Int}(a:x∈rs↔RC h w cs st x):decide (x∈rs)=rcB h w cs st x:=by
 unfold rcB;rw[Tb,Sz];exact a.trans (@Vp _ (Classical.propDecidable _)).symm
def anoB(h w:Int)(Sj:∅)(z m o:Int):Bool:=(decide (0<=o)&&decide (o<h*w))&&(!decide (o=z)&&decide (woI (Sj.getD o.toNat 0) m=0))
def dQ(K:Frag):Sp:=#[3,∃ f A h w g z o m Sj,vs=[.ref f,.ref A,.int z,.int o,.int m]/\IsFl H f h w g/\FlOk h w g/\H A=↥(Sj.map V.int)/\Sj.length=(h*w).toNat/\m<=1000/\Q (.bl (anoB h w Sj z m o)) H]
def dR(K:Frag):TS:=#[":jN,{/ba0a3cNdDb32,~wbadk13a4c"]
theorem pp(h:dQ K vs H Q E):dR K (eD9 Q) (start ["floor","masks","cell","other","mark"] vs) H:=by
 obtain⟨f,A,h,w,g,z,o,m,Sj,rfl,e,F,d,c,i,q⟩:=h;exists dR;refine⟨f,h,w,g,o,rfl,e,F,?_⟩;unfold anoB at q
 cases b:(decide (0<=o)&&decide (o<h*w)) with
 | false=>
  rw[b,S1]at q;exact⟨false,rfl,iteF q⟩
 | true=>
  rw[b,S7]at q;rw[SA,Sz,Sz]at b;refine⟨true,rfl,iteT ?_⟩;symm
  cases a:decide (o=z) with
  | true=>
   rw[a,UL,S1]at q;symm;exact q
  | false=>
   rw[a,UD,S7]at q;exists ixI d b.1 #[4] ?_;exists⟨_,m,rfl,by lia,q⟩
def thrL(cs Sj:∅)(m z:Int):∅:=(cs.filter λx=>!decide (x=z)).filter λx=>stB (Sj.getD x.toNat 0) m
noncomputable def reaB (h w:Int) (cs:∅) (m:Int) (Sj:∅) (z s:Int) (ms:∅):Bool:=
 (ms.all λo=>anoB h w Sj z m o)&&(if s=m then decide (ms.length=1)&&!rcB h w (thrL cs Sj m z++[z]) z (ms.getD 0 0)
  else decide (ms.length=2)&&(!decide (ms.getD 0 0=ms.getD 1 0)&&!rcB h w (thrL cs Sj m z) (ms.getD 0 0) (ms.getD 1 0)))
def jA(K:Frag)(c:WY):Sp:=#[3,∃ k f r p A M b cs Sj ms n m z s h w g,vs=[.ref f,.ref r,.ref A,.int z,.int s,.ref M]/\IsFl H f h w g/\FlOk h w g/\IsRule H c k r p b cs n m/\aO cs Sj.length/\cs.length<=60/\Sj.length=(h*w).toNat/\H A=↥(Sj.map V.int)/\H M=↥(ms.map V.int)/\ms.length<=100/\m<=1000/\∀ a,Same H a->Q (.bl (reaB h w cs m Sj z s ms)) a]
def gu(K:Frag)(c:WY):TS:=#[":gomdrb46jNdrbqAa5cef#1 dKbRdk5ef#0 ,~Kba0adw7ua3ca3cpgoOmdDbqAa5cef#2 mdrbdk5ef#0 dk5ef#1 jeHBpjdKbRdk5ef#1 ,~Kba0a7adk5ef#0 c"]
def gw(K:Frag)(c:WY):TS:=#[":g~e#7 &--62 sb,+bha1a3ci#1 z,~tbadk31a2c1{:bh"]
def jB(K:Frag)(c:WY):TS:=#[":glthE~x~ybh1ci#6 goPzqZav&--3062 sb5i#1 C,{;ba3a5a2a1a4ccjeHBp{?bh"]
variable{M:Addr}{v1:V}
theorem ul {f N:Addr} {T:∅} (v:IsFl H f h w g) (F:FlOk h w g) (a:H M=↥(ms.map V.int)) (t:H N=↥(T.map V.int)) (J:T.length<=60)
  (q:∀ u,Same H u->Q (.bl (if s=m then decide (ms.length=1)&&!rcB h w (T++[z]) z (ms.getD 0 0) else decide (ms.length=2)&&(!decide (ms.getD 0 0=ms.getD 1 0)&&!rcB h w T (ms.getD 0 0) (ms.getD 1 0)))) u):
  gu K c (eD9 Q) [↑f,some v1,↑A,⇑z,⇑s,↑M,⇑m,↑N] H:=by
 have O:=F.w0;have L:=F.w1;unfold gu;rw[aK,aF];symm;by_cases j:s=m
 . rw[SY j]at q;rw[SB j];symm;rw[aZ a,Sx];symm
   have e1:decide ((ms.length:Int)=1)=decide (ms.length=1):=by
    rw[Tb,Sz,Sz];lia
   rw[e1]
   cases b:decide (ms.length=1) with
   | false=>
    rw[b,S1]at q;exists q _ (SF _)
   | true=>
    rw[b,S7]at q;have B:=SG b;exists ixI a #[1] #[4] ?_;rw[show(0:Int).toNat=0 from rfl];exists⟨lnR rfl,λl k=>?_⟩;obtain⟨e,D,s1,E⟩:=aU (.lst [V.int z]) k;rw[D];refine uE (s1 _ _ t) E (by simp;lia) λY x=>?_;have y:Same e (upd e Y (.lst (T.map V.int++[V.int z]))):=(SF e).laid x;have I:(upd e Y (.lst (T.map V.int++[V.int z]))) Y=↥((T++[z]).map V.int):=by rw[aj];simp
    generalize upd e Y (.lst (T.map V.int++[V.int z]))=H2 at*;have d:=s1.trans y;exists⟨f,Y,h,w,g,z,_,rfl,d _ _ v,by lia,by lia,I,by simp;lia,λp C rs o G n _ r=>?_⟩;dsimp only;rw[jY n,Es (r _)];exact q _ (d.trans o)
 . rw[SS j]at q;rw[SE j];symm;rw[aF];symm;rw[aZ a,Sx];symm
   have e1:decide ((ms.length:Int)=2)=decide (ms.length=2):=by
    rw[Tb,Sz,Sz];lia
   rw[e1]
   cases b:decide (ms.length=2) with
   | false=>
    rw[b,S1]at q;exists q _ (SF _)
   | true=>
    rw[b,S7]at q;have B:=SG b;exists ixI a #[1] #[4] ?_;rw[show(0:Int).toNat=0 from rfl];exists ixI a #[1] #[4] ?_;rw[show(1:Int).toNat=1 from rfl];symm
    cases i:decide (ms.getD 0 0=ms.getD 1 0) with
    | true=>
     rw[i,UL,S1]at q;exists q _ (SF _)
    | false=>
     rw[i,UD,S7]at q;exists ixI a #[1] #[4] ?_;rw[show(1:Int).toNat=1 from rfl];exists ixI a #[1] #[4] ?_;rw[show(0:Int).toNat=0 from rfl];exists⟨f,N,h,w,g,_,_,rfl,v,by lia,by lia,t,by lia,λp C rs o G n _ r=>?_⟩;dsimp only;rw[jY n,Es (r _)];exact q _ o
theorem um {k:RK} {f:Addr} {o:List (List Nat)} {n:Int} (D:IsFl H f h w g) (F:FlOk h w g) (x:IsRule H c k r p o cs n m) (u:aO cs Sj.length) (C:Sj.length=(h*w).toNat) (J:H A=↥(Sj.map V.int)) (G:H M=↥(ms.map V.int))
  (q:∀ i,Same H i->Q (.bl (if s=m then decide (ms.length=1)&&!rcB h w (thrL cs Sj m z++[z]) z (ms.getD 0 0) else decide (ms.length=2)&&(!decide (ms.getD 0 0=ms.getD 1 0)&&!rcB h w (thrL cs Sj m z) (ms.getD 0 0) (ms.getD 1 0)))) i) (I:cs.length<=60):
  gw K c (eD9 Q) [↑f,↑r,↑A,⇑z,⇑s,↑M,⇑m,none] H:=by
 unfold gw;exists⟨k,r,p,o,cs,n,m,z,rfl,x,u.1,λO L s1 U l=>?_⟩;have B:=SV (λx=>!decide (x=z)) cs;refine⟨O,rfl,⟨_,ST l⟩,?_⟩;refine ba (xs:=cs.filter λx=>!decide (x=z)) (λx=>stB (Sj.getD x.toNat 0) m) (λx=>x) #[4] (ST l) ?_ ?_ ?_
 . intro y d R t e k2;have b:=u.2 y (SJ.mp t).1;show tB _ [none,⇑y,⇑m,↑A] d R;exists ixI ((s1.trans e) _ _ J) b.1 b.2 ?_;exists⟨_,m,rfl,_,rfl,k2 _ (SF _)⟩
 . intro y d E t S e k2;show tVar 1 [none,⇑y,⇑m,↑A] d E;exists k2 _ (SF _)
 . intro N d P e j;rw[Ud]at j;have a:=s1.trans e;exists ul (a _ _ D) F (a _ _ G) (T:=thrL cs Sj m z) j ?_ λi v=>q i (a.trans v);unfold thrL;have:=SV (λx=>stB (Sj.getD x.toNat 0) m) (cs.filter λx=>!decide (x=z));lia
theorem xX(h:jA K c vs H Q E):jB K c (eD9 Q) (start ["floor","rule","masks","cell","sign","more","mark","through"] vs) H:=by
 obtain⟨k,f,r,p,A,M,N,cs,Sj,ms,n,m,z,s,h,w,g,rfl,B,F,x,Y,j,a,D,d,U,X,q⟩:=h;obtain⟨dx,W,C,h1,h2,h3⟩:=x.ex;ac_nf;unfold jB;rw[aK,bP];refine methE (k:=k) rfl x.ok h1 (by rfl) ?_;exists⟨r,p,N,cs,n,m,rfl,x,?_⟩;symm;rw[aF];exists⟨⟨_,ST d⟩,?_⟩;refine bK (xs:=ms.map V.int) (λ_=>true) (λi=>.bl (anoB h w Sj z m (ms.getD i 0))) (by rw[Sx];lia) (ST d) ?_ ?_ ?_
 . intro i y b R u s1 k1;exact k1 _ (SF _)
 . intro i y b G u e s1 k1;obtain⟨v,P,rfl⟩:=aL u;have L:ms.getD i 0=v:=by rw[List.getD,P];rfl
   rw[L]at k1;show tCall _ _ _ _ [none,⇑v,⇑z,↑f,⇑m,↑A] b G;exists⟨f,A,h,w,g,z,v,m,Sj,rfl,s1 _ _ B,F,s1 _ _ D,a,X,k1 _ (SF _)⟩
 . intro l b Z s1 t
   have S:((List.range (ms.map V.int).length).filter λ_=>true).map (λi=>V.bl (anoB h w Sj z m (ms.getD i 0)))=(ms.map λo=>anoB h w Sj z m o).map V.bl:=by
    rw[aY,Sx,Te];refine Vb (by simp) λi h1 h2=>?_;have T:i<ms.length:=by simpa using h2
    simp[List.getD,Sy T]
   rw[S]at t;refine j2 t ?_;have I:(ms.map λo=>anoB h w Sj z m o).all id=ms.all λo=>anoB h w Sj z m o:=by rw[Ur];rfl
   rw[I];unfold reaB at q
   cases e:(ms.all λo=>anoB h w Sj z m o) with
   | false=>
    rw[e,S1]at q;refine⟨false,rfl,?_⟩;exists q _ s1
   | true=>
    rw[e,S7]at q;refine⟨true,rfl,?_⟩;exists um (s1 _ _ B) F (x.same s1) Y a (s1 _ _ D) (s1 _ _ d) (λO J=>q O (s1.trans J)) j
theorem pX{k:RK}(h:goesB .reach k=true):sgnK k=true:=by cases k <;> first | rfl | cases h
theorem RR.len26{r:RR}(O:r.Ok h w g)(F:FlOk h w g):r.cs.length<=60:=by
 have b:=F.m
 cases a:allK r.k with
 | false=>
  obtain⟨f,i,d,c,e⟩:=O.cl.told a;rw[e,Sx];lia
 | true=>
  obtain⟨_,e⟩:=O.cl.all a;rw[e,dI];lia
def JH(p:Int->Int->Bool):Bool:=(List.range 7).all λ(h:Nat)=>(List.range 7).all λ(w:Nat)=>!(decide (1<=h)&&decide (1<=w)&&decide (h*w<=16))||p h w
theorem JI{p:Int->Int->Bool}(a:JH p=true){h w g:Int}(F:FlOk h w g):p h w=true:=by
 obtain⟨h0,h1,w0,w1,m16,g0,g1⟩:=F;obtain⟨n,rfl⟩:=US (show 0<=h by lia);obtain⟨m,rfl⟩:=US (show 0<=w by lia);have a1:=SK.mp a n (SQ.mpr #[4]);have a2:=SK.mp a1 m (SQ.mpr #[4]);have e1:1<=n:=by lia
 have e2:1<=m:=by lia
 have e3:n*m<=16:=by have:((n*m:Nat):Int)<=16:=by rw[WG];exact m16
                     lia
 simpa [e1,e2,e3] using a2
def nearS(h w d r:Int):∅:=if (decide (0<=d)&&decide (d<h))&&(decide (0<=r)&&decide (r<w)) then [d*w+r] else []
def nearP(w c:Int):List (Int × Int):=[(c/w-1,c%w),(c/w,c%w-1),(c/w,c%w+1),(c/w+1,c%w)]
def nearL(h w c:Int):∅:=(nearP w c).flatMap λp=>nearS h w p.1 p.2
theorem HB:JH (λh w=>(List.range (h*w).toNat).all λ(c:Nat)=>decide (nearL h w c=besL h w c)&&(besL h w c).all λx=>decide (0<=x)&&decide (x<h*w))=true:=by decide+kernel
theorem rq{c:Int}(F:FlOk h w g)(b:0<=c)(d:c<h*w):nearL h w c=besL h w c/\∀ x∈besL h w c,0<=x/\x<h*w:=by
 have t:=SK.mp (JI HB F) c.toNat (SQ.mpr #[4]);have e1:((c.toNat:Nat):Int)=c:=by lia
 rw[e1,SA,Sz,SK]at t;refine⟨t.1,λx a=>?_⟩;have:=t.2 x a
 simpa using this
theorem Et{c:Int}(F:FlOk h w g)(b:0<=c)(a:c<h*w)(e:n=(h*w).toNat):aO (besL h w c) n:=by
 refine⟨SW (xB ..) #[1],λx d=>?_⟩;have:=(rq F b a).2 x d;lia
def arL(h w o z:Int):∅:=(besL h w o).filter λx=>!decide (x=z)
def uU(K:Frag):Sp:=#[3,∃ a h w g o z,vs=[.ref a,.int o,.int z]/\IsFl H a h w g/\FlOk h w g/\∀ l b,Same H b->H l=none->b l=↥((arL h w o z).map V.int)->Q (.ref l) b]
def uV(K:Frag):TS:=#[":jv&--2 sb,~Aba0a1ci#1 mdDb121"]
theorem JJ(h:uU K vs H Q E):uV K (eD9 Q) (start ["floor","middle","cell"] vs) H:=by
 obtain⟨a,h,w,g,o,z,rfl,f,F,q⟩:=h;have s:=F.w0;have p:=F.w1;ac_nf;unfold uV;rw[cV,bB];exists⟨a,h,w,g,o,rfl,f,by lia,by lia,λl r s1 n e=>?_⟩;have i:=xB h w o;refine⟨l,rfl,⟨_,ST e⟩,?_⟩;refine ba (xs:=besL h w o) (λx=>!decide (x=z)) (λx=>x) #[4] (ST e) ?_ ?_ ?_
 . intro y b R j c k2;show tTest _ [none,⇑y,⇑z] b R;exists k2 _ (SF _)
 . intro y b m j i c k2;show tVar 1 [none,⇑y,⇑z] b m;exists k2 _ (SF _)
 . intro T b k c d;rw[Ud]at d;exact q T b (s1.trans c) (s1.free k) d
def mayN(Sj:∅)(m:Int)(cs:∅):Nat:=((sgAt Sj cs).filter λk=>stB k m).length
def onlN(Sj:∅)(m:Int)(cs:∅):Nat:=((sgAt Sj cs).filter λk=>decide (woI k m=0)).length
def turnB(h w m:Int)(Sj:∅)(z s:Int)(ms:∅):Bool:=
 if ms=[] then decide (s=m)&&(decide ((mayN Sj m (besL h w z):Int)<2)||decide ((2:Int) < (onlN Sj m (besL h w z):Int)))
 else decide (ms.length=1)&&(decide (ms.getD 0 0∈besL h w z)&&(decide (woI (Sj.getD (ms.getD 0 0).toNat 0) m=0)&&
  (if s=m then decide ((2:Int)<=(onlN Sj m (arL h w (ms.getD 0 0) z):Int)) else decide ((mayN Sj m (arL h w (ms.getD 0 0) z):Int)<2))))
def kG(K:Frag)(c:WY):Sp:=#[3,∃ k f r p A M b cs Sj ms n m z s h w g,vs=[.ref f,.ref r,.ref A,.int z,.int s,.ref M]/\IsFl H f h w g/\FlOk h w g/\IsRule H c k r p b cs n m/\Sj.length=(h*w).toNat/\H A=↥(Sj.map V.int)/\H M=↥(ms.map V.int)/\m<=1000/\0<=z/\z<h*w/\∀ a,Same H a->Q (.bl (turnB h w m Sj z s ms)) a]
def gU(K:Frag)(c:WY):TS:=#[":gl,~rba2a,{[ba0adk5ef#0 a3cci#7 gomdrb46jd),~Tba7a6cef#2 pjd<,~Sba7a6cef#2 "]
def gW(K:Frag)(c:WY):TS:=#[":goOmdDbqAa5cef#1 OmdKbRdk5ef#0 ,~Aba0a3cPz,~wbadk2dk5ef#0 a6cjeHBp{]bh"]
def kH(K:Frag)(c:WY):TS:=#[":glthE~x~ybh1ci#6 gomdrb5ucgl,~rba2a,~Aba0a3cci#7 jNdrb46~Hd<,~Sba7a6cef#2 d>,~Tba7a6cef#2 p{^bh"]
theorem uW {f:Addr} (y:IsFl H f h w g) (F:FlOk h w g) (j:Sj.length=(h*w).toNat) (E:H A=↥(Sj.map V.int)) (C:H M=↥(ms.map V.int)) (J:ms.length=1) (P:m<=1000) (u:0<=z) (D:z<h*w) (v:ms.getD 0 0∈besL h w z)
  (q:∀ o,Same H o->Q (.bl (if s=m then decide ((2:Int)<=(onlN Sj m (arL h w (ms.getD 0 0) z):Int)) else decide ((mayN Sj m (arL h w (ms.getD 0 0) z):Int)<2))) o):
  gU K c (eD9 Q) [↑f,some v1,↑A,⇑z,⇑s,↑M,⇑m,none] H:=by
 have b:=(rq F u D).2 _ v;have d:=Et (n:=Sj.length) F b.1 b.2 j;have a:aO (arL h w (ms.getD 0 0) z) Sj.length:=⟨SW (SV _ _) d.1,λx G=>d.2 x (SJ.mp G).1⟩;unfold gU;exists ixI C #[1] #[4] ?_;rw[show(0:Int).toNat=0 from rfl];exists⟨f,h,w,g,_,z,rfl,y,F,λR N s1 O r=>?_⟩;exists⟨A,R,Sj,_,rfl,s1 _ _ E,r,a,λB L l I p=>?_⟩;have k:(sgAt Sj (arL h w (ms.getD 0 0) z)).length<=63:=by unfold sgAt;rw[Sx];exact a.1
 symm;rw[aF];symm;by_cases e:s=m
 . rw[SB e];rw[SY e]at q;exists⟨B,_,_,rfl,p,k,by lia,λt i=>?_⟩;exists q _ ((s1.trans l).trans i)
 . rw[SE e];rw[SS e]at q;exists⟨B,_,_,rfl,p,k,λt i=>?_⟩;exists q _ ((s1.trans l).trans i)
theorem uX {f:Addr} (n:IsFl H f h w g) (F:FlOk h w g) (i:Sj.length=(h*w).toNat) (p:H A=↥(Sj.map V.int)) (e:H M=↥(ms.map V.int)) (x:m<=1000) (k:0<=z) (o:z<h*w)
  (q:∀ d,Same H d->Q (.bl (decide (ms.length=1)&&(decide (ms.getD 0 0∈besL h w z)&&(decide (woI (Sj.getD (ms.getD 0 0).toNat 0) m=0)&&(if s=m then decide ((2:Int)<=(onlN Sj m (arL h w (ms.getD 0 0) z):Int)) else decide ((mayN Sj m (arL h w (ms.getD 0 0) z):Int)<2)))))) d):
  gW K c (eD9 Q) [↑f,some v1,↑A,⇑z,⇑s,↑M,⇑m,none] H:=by
 have D:=F.w0;have C:=F.w1;unfold gW;rw[aK,aF];symm;rw[aZ e,Sx];symm
 have e1:decide ((ms.length:Int)=1)=decide (ms.length=1):=by
  rw[Tb,Sz,Sz];lia
 rw[e1]
 cases j:decide (ms.length=1) with
 | false=>
  rw[j,S1]at q;exists q _ (SF _)
 | true=>
  rw[j,S7]at q;have u:=SG j;exists ixI e #[1] #[4] ?_;rw[show(0:Int).toNat=0 from rfl];exists⟨f,h,w,g,z,rfl,n,by lia,by lia,λR y s1 B r=>?_⟩;dsimp only;rw[jY r]
  cases a:decide (ms.getD 0 0∈besL h w z) with
  | false=>
   rw[a,S1]at q;refine⟨true,rfl,iteT ?_⟩;exists q _ s1
  | true=>
   rw[a,S7]at q;have l:=SG a;have v:=(rq F k o).2 _ l;refine⟨false,rfl,iteF ?_⟩;exists ixI (s1 _ _ e) #[1] #[4] ?_;rw[show(0:Int).toNat=0 from rfl];exists ixI (s1 _ _ p) #[4] #[4] ?_;exists⟨_,m,rfl,by lia,?_⟩
   cases b:decide (woI (Sj.getD (ms.getD 0 0).toNat 0) m=0) with
   | false=>
    rw[b,S1]at q;refine⟨false,rfl,iteT ?_⟩;exists q _ s1
   | true=>
    rw[b,S7]at q;refine⟨true,rfl,iteF ?_⟩;exact uW (s1 _ _ n) F i (s1 _ _ p) (s1 _ _ e) u x k o l λd t=>q d (s1.trans t)
theorem zv(h:kG K c vs H Q E):kH K c (eD9 Q) (start ["floor","rule","masks","cell","sign","more","mark","some"] vs) H:=by
 obtain⟨k,f,r,p,A,M,N,cs,Sj,ms,n,m,z,s,h,w,g,rfl,v,F,x,d,I,y,S,t,G,q⟩:=h;obtain⟨dx,W,C,h1,h2,h3⟩:=x.ex;have w0:=F.w0;have w1:=F.w1;ac_nf;unfold kH;rw[aK,bP];refine methE (k:=k) rfl x.ok h1 (by rfl) ?_;exists⟨r,p,N,cs,n,m,rfl,x,?_⟩;symm;rw[aF];exists⟨aX #[1],λZ T=>?_⟩;obtain⟨H1,z9,s1,eZ⟩:∃ z,upd H Z (.lst [])=z/\Same H z/\z Z=↥(([]:∅).map V.int):=aU _ T;rw[z9];refine wc (s1 _ _ y) eZ ?_;unfold turnB at q;by_cases a:ms=[]
 . rw[SY a]at q;rw[SB a];refine⟨true,rfl,?_⟩;exists⟨f,h,w,g,z,rfl,s1 _ _ v,by lia,by lia,λR X j hR J=>?_⟩;have e:=Et (n:=Sj.length) F t G d;exists⟨A,R,Sj,_,rfl,(s1.trans j) _ _ I,J,e,λB H3 L Y u=>?_⟩;have o:(sgAt Sj (besL h w z)).length<=63:=by unfold sgAt;rw[Sx];exact e.1
   have b:=(s1.trans j).trans L;symm
   cases D:decide (s=m) with
   | false=>
    rw[D,S1]at q;exists q _ b
   | true=>
    rw[D,S7]at q;exists⟨B,_,_,rfl,u,o,λU l=>?_⟩;symm;have e1:decide ((((sgAt Sj (besL h w z)).filter λk=>stB k m).length:Int)<2)=decide ((mayN Sj m (besL h w z):Int)<2):=rfl;rw[e1]
    cases i:decide ((mayN Sj m (besL h w z):Int)<2) with
    | true=>
     rw[i,UY]at q;exists q _ (b.trans l)
    | false=>
     rw[i,TY]at q;exists⟨B,_,_,rfl,l _ _ u,o,by lia,λH5 O=>?_⟩;exists q _ ((b.trans l).trans O)
 . rw[SS a]at q;rw[SE a];refine⟨false,rfl,?_⟩;exists uX (s1 _ _ v) F d (s1 _ _ I) (s1 _ _ y) S t G λP j=>q P (s1.trans j)
theorem xY(t:TK):decide (tkC t=s!"reach")=decide (t=.reach):=by cases t <;> decide
theorem BQ{k:RK}(h:goesB .turn k=true):sgnK k=true:=by cases k <;> first | rfl | cases h
noncomputable def kI (h w:Int) (t:TK) (x:RR) (Sj:∅) (z s:Int) (ms:∅):Bool:=match t with
 | .square=>squB h w x.m Sj z s ms
 | .reach=>reaB h w x.cs x.m Sj z s ms
 | _=>turnB h w x.m Sj z s ms
noncomputable def dz (h w:Int) (Sl:List RR) (Sj:∅) (t:TK) (r z s:Int) (ms:∅):Bool:=match Sl[r.toNat]? with
 | none=>false
 | some x=>kI h w t x Sj z s ms
abbrev HC(t:TK):Prop:=t=.square\/t=.reach\/t=.turn
abbrev K30(t:TK):Prop:=K28 t\/HC t
def eh(K:Frag)(c:WY)(d:WZ):Sp:=#[3,∃ P L G A T M h w g Sl cl Sj t r z s ms,vs=[.ref P,.ref A,.ref T]/\Asks H c d P L G A T M h w g Sl cl Sj t r z s ms/\HC t/\formB h w g Sl t r z s=true/\∀ a,Same H a->Q (.bl (dz h w Sl Sj t r z s ms)) a]
def eI(K:Frag)(c:WY)(d:WZ):TS:=#[":gltnF~j~kbhn0ci#3 gldktnF~l~mbhn0cdk2ef#1 i#4 gomdrbdk2ef#0 exy`0j,}abha3a4a1adk2ef#2 adk2ef#3 adk2ef#4 cpgomdrbdk2ef#0 exy`1j,}bbha3a4a1adk2ef#2 adk2ef#3 adk2ef#4 cpj,}cbha3a4a1adk2ef#2 adk2ef#3 adk2ef#4 c",s!"square",s!"reach"]
theorem qP(h:eh K c d vs H Q E):eI K c d (eD9 Q) (start ["puzzle","masks","thought","floor","rule"] vs) H:=by
 obtain⟨P,L,G,A,T,M,h,w,g,Sl,cl,Sj,t,r,z,s,ms,rfl,X,N,f,q⟩:=h;obtain⟨dx,p,rs,h1,h2,h3⟩:=X.P.ex;obtain⟨W,z1,s0,S,Sw⟩:=bQ f;have hg:=X.P.R.F.g1;have C:t≠.clue:=by rcases N with rfl | rfl | rfl <;> decide
 obtain⟨r0,y,j,m,hz⟩:=dZ C Sw;have O:=X.P.R.ok y (SH j)
 have D:∀ b,Same H b->Q (.bl (kI h w t y Sj z s ms)) b:=λb s'=>by
  have x:=q b s';unfold dz at x;rw[j]at x;exact x
 ac_nf;unfold eI;rw[aK,bP];refine methE (k:=.Puzzle) rfl X.P.ok h1 (by rfl) ?_;exists⟨P,L,G,h,w,g,Sl,cl,rfl,X.P,λJ i=>?_⟩;exists methE (k:=.Puzzle) rfl X.P.ok h1 (by rfl) ?_;exists⟨P,L,G,h,w,g,Sl,cl,rfl,X.P,λl B e Z U Y=>?_⟩;have a:Same H (upd H l (.lst (e.map V.ref))):=(SF H).laid Z;generalize upd H l (.lst (e.map V.ref))=H1 at*;have ab:=(SD.mp j).1;have Su:=Y.len;have u:e[r.toNat]? =some e[r.toNat]:=Sy #[4];dsimp only;refine ixT (a _ _ X.T.T) (v:=V.int r) rfl ?_;refine ixL Y.top (jj r0 u) ?_;symm;rw[aF];exists ixT (a _ _ X.T.T) (v:=V.str (tx (tkC t))) rfl ?_;symm;rw[bF,BH];rcases N with rfl | rfl | rfl
 . rw[SB rfl];refine iteT ?_;exists ixT (a _ _ X.T.T) (v:=V.int z) rfl ?_;exists ixT (a _ _ X.T.T) (v:=V.int s) rfl ?_;exists ixT (a _ _ X.T.T) (v:=V.ref M) rfl ?_;exists⟨_,J,_,B,A,M,_,y.cs,Sj,ms,_,_,z,s,h,w,g,rfl,a _ _ i,X.P.R.F,Y.at_ _ _ _ u j,X.n,a _ _ X.A,a _ _ X.T.M,by lia,λb o=>D b (a.trans o)⟩
 . have ym:=(O.m0 (pX m)).2;rw[SE (show ¬ TK.reach=TK.square by decide)];refine iteF ?_;rw[aF];exists ixT (a _ _ X.T.T) (v:=V.str (tx (tkC .reach))) rfl ?_;symm;rw[bF,xY,SB rfl];refine iteT ?_;exists ixT (a _ _ X.T.T) (v:=V.int z) rfl ?_;exists ixT (a _ _ X.T.T) (v:=V.int s) rfl ?_;exists ixT (a _ _ X.T.T) (v:=V.ref M) rfl ?_;symm;have I:aO y.cs Sj.length:=by rw[X.n];exact Vk O X.P.R.F
   exact⟨_,J,_,B,A,M,_,y.cs,Sj,ms,_,_,z,s,h,w,g,rfl,a _ _ i,X.P.R.F,Y.at_ _ _ _ u j,I,RR.len26 O X.P.R.F,X.n,a _ _ X.A,a _ _ X.T.M,X.T.n,by lia,λb o=>D b (a.trans o)⟩
 . have ym:=(O.m0 (BQ m)).2;rw[SE (show ¬ TK.turn=TK.square by decide)];refine iteF ?_;rw[aF];exists ixT (a _ _ X.T.T) (v:=V.str (tx (tkC .turn))) rfl ?_;symm;rw[bF,xY,SE (show ¬ TK.turn=TK.reach by decide)];refine iteF ?_;exists ixT (a _ _ X.T.T) (v:=V.int z) rfl ?_;exists ixT (a _ _ X.T.T) (v:=V.int s) rfl ?_;exists ixT (a _ _ X.T.T) (v:=V.ref M) rfl ?_;exists⟨_,J,_,B,A,M,_,y.cs,Sj,ms,_,_,z,s,h,w,g,rfl,a _ _ i,X.P.R.F,Y.at_ _ _ _ u j,X.n,a _ _ X.A,a _ _ X.T.M,by lia,W,z1,λb o=>D b (a.trans o)⟩
noncomputable def Eu (h w g:Int) (Sl:List RR) (cl Sj:∅) (t:TK) (r z s:Int) (ms:∅):Bool:=if lineK t then cj g Sl cl Sj t r z s ms else dz h w Sl Sj t r z s ms
noncomputable def uY (h w g:Int) (Sl:List RR) (cl Sj:∅) (t:TK) (r z s:Int) (ms:∅):Bool:=formB h w g Sl t r z s&&Eu h w g Sl cl Sj t r z s ms
structure Sub30(a b:Int):Prop where
 a0:0<=a
 a1:a<64
 b0:0<=b
 b1:b<64
 st:∀ s,stB a s=true->stB b s=true
theorem NN:((List.range 64).all λm=>(List.range 6).all λs=>decide (decide (woI (m:Int) (1+(s:Int))=0)=(List.range 6).all λj=>!stB (m:Int) (1+(j:Int))||decide (j=s)))=true:=by decide+kernel
theorem JK(e:0<=m)(c:m<64)(s0:1<=s)(d:s<=6):woI m s=0↔∀ j:Nat,j<6->stB m (1+(j:Int))=true->j=(s-1).toNat:=by
 have t:=SG (SK.mp (SK.mp NN m.toNat (SQ.mpr #[4])) (s-1).toNat (SQ.mpr #[4]));rw[show((m.toNat:Nat):Int)=m by lia,show 1+(((s-1).toNat:Nat):Int)=s by lia]at t;rw[← Vp (p:=woI m s=0),t,SK];constructor
 . intro h j a b;have:=h j (SQ.mpr a);rw[b]at this
   simpa using this
 . intro h j a
   cases b:stB m (1+(j:Int)) with
   | false=>rfl
   | true=>simpa using h j (SQ.mp a) b
def Sub30.wo{b:Int}(X:Sub30 a b)(s0:1<=s)(c:s<=6)(h:woI b s=0):woI a s=0:=
 (JK X.a0 X.a1 s0 c).mpr λj e d=>(JK X.b0 X.b1 s0 c).mp h j e (X.st _ d)
theorem jC{f g:Int->Int}{p q:Int->Bool}:∀{cs:∅},(∀ c∈cs,p (f c)=true->q (g c)=true)->((cs.map f).filter p).length<=((cs.map g).filter q).length
 | [],_=>SZ _
 | c::r,h=>by
  have e:=jC (cs:=r) λx b=>h x (SM _ b);have a:=h c SN;rw[S6,S6,Tk,Tk]
  cases d:p (f c) with
  | false=>
   rw[SS SR]
   split
   . rw[S2];lia
   . exact e
  | true=>
   rw[SY rfl,SY (a d),S2,S2];lia
theorem RC.less{b:∅}{st:Int}(a:∀ c∈cs,c∈b)(r:RC h w cs st x):RC h w b st x:=by
 induction r with
 | start h=>exact .start (a _ h)
 | step _ e f d=>exact .step d e (a _ f)
abbrev bG(Sj a:∅):Prop:=∀ k:Nat,Sub30 (a.getD k 0) (Sj.getD k 0)
theorem JL{a:∅}(X:bG Sj a)(s0:1<=s)(b:s<=6)(h:onlyB cs Sj z s ms=true):onlyB cs a z s ms=true:=by
 unfold onlyB at h ⊢;rw[SA,SA]at h ⊢;exact⟨h.1,h.2.1,SB ((X _).wo s0 b (SG h.2.2))⟩
theorem HD{a:∅}(X:bG Sj a)(h:gM g cs Sj z s ms=true):gM g cs a z s ms=true:=by
 unfold gM sgAt at h ⊢;simp only[SA]at h ⊢;refine⟨h.1,h.2.1,h.2.2.1,h.2.2.2.1,SB ?_⟩;have:=SG h.2.2.2.2;have m:=jC (f:=λc=>a.getD c.toNat 0) (g:=λc=>Sj.getD c.toNat 0) (p:=λm=>stB m (ms.getD 0 0)) (q:=λm=>stB m (ms.getD 0 0)) (cs:=cs.filter λx=>!decide (x=z)) λc _ b=>(X _).st _ b;lia
theorem KY{a:∅}(X:bG Sj a)(s0:1<=s)(e:s<=6)(b:squB h w m Sj z s ms=true):squB h w m a z s ms=true:=by
 unfold squB sgAt at b ⊢;simp only[SA]at b ⊢;refine⟨b.1,b.2.1,b.2.2.1,SB ?_⟩;have:=SG b.2.2.2;have j:=jC (f:=λc=>Sj.getD c.toNat 0) (g:=λc=>a.getD c.toNat 0) (p:=λk=>decide (woI k s=0)) (q:=λk=>decide (woI k s=0)) (cs:=rosL h w (ms.getD 0 0) z) λc _ i=>SB ((X _).wo s0 e (SG i));have d:=SV (λk=>decide (woI k s=0)) ((rosL h w (ms.getD 0 0) z).map λc=>a.getD c.toNat 0);rw[Sx]at d;lia
theorem KZ{b:∅}{o:Int}(X:bG Sj b)(e:1<=m)(d:m<=6)(c:anoB h w Sj z m o=true):anoB h w b z m o=true:=by
 unfold anoB at c ⊢;rw[SA,SA (a:=!decide (o=z))]at c ⊢;exact⟨c.1,c.2.1,SB ((X _).wo e d (SG c.2.2))⟩
def Ev{a:∅}(X:bG Sj a):∀ c∈thrL cs a m z,c∈thrL cs Sj m z:=λc b=>by
 unfold thrL at b ⊢;rw[SJ]at b ⊢;exact⟨b.1,(X _).st _ b.2⟩
theorem GH{d:∅}{st:Int}(a:∀ c∈cs,c∈d)(b:(!rcB h w d st x)=true):(!rcB h w cs st x)=true:=by
 unfold rcB at b ⊢;rw[Tg]at b ⊢;exact @SE _ (Classical.propDecidable _) λr=>(@of_decide_eq_false _ (Classical.propDecidable _) b) (r.less a)
theorem K0{a:∅}(X:bG Sj a)(i:1<=m)(g:m<=6)(d:reaB h w cs m Sj z s ms=true):reaB h w cs m a z s ms=true:=by
 unfold reaB at d ⊢;rw[SA]at d ⊢;refine⟨SK.mpr λo f=>KZ X i g (SK.mp d.1 o f),?_⟩;have h2:=d.2;by_cases e:s=m
 . rw[SY e]at h2 ⊢;rw[SA]at h2 ⊢;refine⟨h2.1,GH (λc b=>?_) h2.2⟩;rcases SX.mp b with b | b
   . exact SX.mpr (.inl (Ev X c b))
   . exact SX.mpr (.inr b)
 . rw[SS e]at h2 ⊢;rw[SA,SA]at h2 ⊢;exact⟨h2.1,h2.2.1,GH (Ev X) h2.2.2⟩
theorem Ew{a:∅}(X:bG Sj a):mayN a m cs<=mayN Sj m cs:=by
 unfold mayN sgAt;exact jC λc _ b=>(X _).st _ b
theorem Ex{a:∅}(X:bG Sj a)(d:1<=m)(b:m<=6):onlN Sj m cs<=onlN a m cs:=by
 unfold onlN sgAt;exact jC λc _ e=>SB ((X _).wo d b (SG e))
theorem JM{d:∅}(X:bG Sj d)(g:1<=m)(f:m<=6)(c:turnB h w m Sj z s ms=true):turnB h w m d z s ms=true:=by
 unfold turnB at c ⊢;by_cases e:ms=[]
 . rw[SY e]at c ⊢;rw[SA,TD]at c ⊢;have a:=Ew (cs:=besL h w z) (m:=m) X;have b:=Ex (cs:=besL h w z) X g f;refine⟨c.1,?_⟩;rcases c.2 with h1 | h1
   . have:=SG h1;exact .inl (SB #[4])
   . have:=SG h1;exact .inr (SB #[4])
 . rw[SS e]at c ⊢;rw[SA,SA,SA]at c ⊢;refine⟨c.1,c.2.1,SB ((X _).wo g f (SG c.2.2.1)),?_⟩;have h3:=c.2.2.2;have a:=Ew (cs:=arL h w (ms.getD 0 0) z) (m:=m) X;have b:=Ex (cs:=arL h w (ms.getD 0 0) z) X g f;by_cases e2:s=m
   . rw[SY e2]at h3 ⊢;have:=SG h3;exact SB #[4]
   . rw[SS e2]at h3 ⊢;have:=SG h3;exact SB #[4]
theorem cp(e:0<=m)(x:Int):x∈sgL m↔stB m x=true:=by
 unfold sgL;rw[SL];constructor
 . rintro⟨i,d,rfl⟩;exact(SJ.mp d).2
 . intro h;have c:=h;unfold stB at c;rw[SA,SA]at c;have a:=SG c.1;have b:=SG c.2.1;refine⟨(x-1).toNat,SJ.mpr ⟨SQ.mpr #[4],?_⟩,by lia⟩;rw[show 1+(((x-1).toNat:Nat):Int)=x by lia];exact h
theorem Ey{f:Nat->Int}(c:∀ a b,f a=f b->a=b):∀{xs:List Nat},xs.Nodup->(xs.map f).Nodup
 | [],_=>UT
 | x::r,h=>by
  rw[Ty]at h;rw[S6,Ty];refine⟨λd=>?_,Ey c h.2⟩;obtain⟨y,g,e⟩:=SL.mp d;exact h.1 (c _ _ e ▸ g)
theorem rz(m:Int):(sgL m).Nodup:=by
 unfold sgL;exact Ey (f:=λ(i:Nat)=>1+(i:Int)) (λa b e=>by have c:(1:Int)+(a:Int)=1+(b:Int):=e;lia) (List.Nodup.sublist VX VD)
theorem xZ:((List.range 64).all λm=>decide (Builtin.Int.intBits (m:Int)<=6))=true:=by decide+kernel
theorem st6(d:0<=m)(c:m<64)(h:stB m x=true):1<=x/\x<=6:=by
 have t:=SG (SK.mp xZ m.toNat (SQ.mpr #[4]));rw[show((m.toNat:Nat):Int)=m by lia]at t;unfold stB at h;rw[SA,SA]at h;have a:=SG h.1;have b:=SG h.2.1;lia
theorem Dl{b:Int}(c:0<=a)(h:a<64)(d:0<=b)(g:b<64)(e:1<=x)(f:x<=6):stB (Builtin.bitOr a b) x=(stB a x||stB b x):=by
 have o:=zd c h d g;rw[(lP o.1 o.2 e f).1,(lP c h e f).1,(lP d g e f).1,Er c d,TC,Nat.testBit_or]
theorem JN{c:∅}(X:bG Sj c)(h:pairB cs Sj z s ms=true):pairB cs c z s ms=true:=by
 unfold pairB orM at h ⊢;rw[SA]at h ⊢;refine⟨h.1,SB ?_⟩;have h2:=SG h.2;have A:=X (ms.getD 0 0).toNat;have B:=X (ms.getD 1 0).toNat;generalize c.getD (ms.getD 0 0).toNat 0=a at*;generalize c.getD (ms.getD 1 0).toNat 0=b at*;generalize Sj.getD (ms.getD 0 0).toNat 0=a' at*;generalize Sj.getD (ms.getD 1 0).toNat 0=b' at*;have o:=zd A.a0 A.a1 B.a0 B.a1;have g:=zd A.b0 A.b1 B.b0 B.b1
 have i:=fW (xs:=(sgL (Builtin.bitOr a b)).filter λx=>!decide (x=s)) (ys:=(sgL (Builtin.bitOr a' b')).filter λx=>!decide (x=s)) (List.Nodup.sublist VX (rz _)) λx f=>by
  rw[SJ]at f ⊢;refine⟨?_,f.2⟩;have d:=(cp o.1 x).mp f.1;have e:=st6 o.1 o.2 d;rw[Dl A.a0 A.a1 B.a0 B.a1 e.1 e.2,TD]at d;refine(cp g.1 x).mpr ?_;rw[Dl A.b0 A.b1 B.b0 B.b1 e.1 e.2,TD];rcases d with d | d
  . exact .inl (A.st _ d)
  . exact .inr (B.st _ d)
 lia
variable{t:TK}
theorem NO{b:∅}{r:Int}(R:b9 c h w g Sl)(X:bG Sj b)(a:K30 t)(m:uY h w g Sl cl Sj t r z s ms=true):uY h w g Sl cl b t r z s ms=true:=by
 unfold uY at m ⊢;rw[SA]at m ⊢;obtain⟨f,q⟩:=m;refine⟨f,?_⟩;obtain⟨u,v,s0,s1,o⟩:=bQ f;have x:=R.F.g1;unfold Eu at q ⊢;rcases a with a | a
 . have k:lineK t=true:=by rcases a with rfl | rfl | rfl | rfl <;> rfl
   rw[k,SY rfl]at q ⊢;by_cases j:t=.clue
   . subst j;exact q
   . obtain⟨r0,y,i,d,p⟩:=dZ j o
     have e:∀ mk:∅,cj g Sl cl mk t r z s ms=kF g t y mk z s ms:=λmk=>by
      unfold cj;cases t <;> first | exact absurd rfl j | (dsimp only;rw[i])
     rw[e]at q ⊢;rcases a with rfl | rfl | rfl | rfl
     . exact absurd rfl j
     . exact JL X s0 #[4] q
     . exact HD X q
     . exact JN X q
 . have k:lineK t=false:=by rcases a with rfl | rfl | rfl <;> rfl
   have l:t≠.clue:=by rcases a with rfl | rfl | rfl <;> decide
   rw[k,SS SR]at q ⊢;obtain⟨r0,y,i,d,p⟩:=dZ l o;have O:=R.ok y (SH i);unfold dz at q ⊢;rw[i]at q ⊢;rcases a with rfl | rfl | rfl
   . exact KY X s0 #[4] q
   . have n:=O.m0 (pX d);exact K0 X n.1 #[4] q
   . have n:=O.m0 (BQ d);exact JM X n.1 #[4] q
theorem BR:∀(rs:List (List Nat)),(∀ r∈rs,r.length<=2)->(catL 32 rs).length<=3*rs.length
 | [],_=>by simp[catL]
 | [x],h=>by have:=h x SN;simp[catL];lia
 | x::y::r,h=>by
  rw[d5 (by simp)];have h1:=h x SN;have h2:=BR (y::r) λz a=>h z (SM _ a);simp only[Ta,S2] at*;lia
theorem iZ{cs:List Nat}(h:cs.length<=16):(catL 32 (cs.map numC)).length<=48:=by
 have:=BR (cs.map numC) λr a=>by obtain⟨x,_,rfl⟩:=SL.mp a;exact fI
 rw[Sx]at this;lia
theorem HE{k:RK}{m:Nat}{ns:List Nat}(F:FlOk h w g)(i:ns≠[])(b:∀ c∈ns,(c:Int)<h*w)(j:ns.Nodup)(a:ns.length<=16)(r:allK k=false)(k0:k≠.Rule)(o:n<=99)(l:numK k=false->n=0)(f:sgnK k=true->1<=(m:Int)/\(m:Int)<=g)(p:sgnK k=false->m=0):
  RR.Ok ⟨k,n,m,ns,ns.map λ(n:Nat)=>(n:Int)⟩ h w g:=by
 have d:=F.m;refine⟨k0,o,l,f,p,⟨λ_=>⟨i,a,b,j,rfl⟩,λe=>?_⟩,λx q=>?_,a⟩
 . rw[show allK k=false from r]at e;cases e
 . have:=b x q;lia
theorem strL{a b:List Nat}(h1:a.length<=400)(h2:b.length<=400)(q:Q (.str (tx (a++b))) H):cAdd (.str (tx a)) (.str (tx b)) H Q:=by
 rw[cZ,rg];exact⟨by rw[bW,bW];exact aX #[4],q⟩
def dTh(t:TK)(r z s:Int)(ms:∅):PyData:=.tuple [.str (tx (tkC t)),.int r,.int z,.int s,.list (ms.map PyData.int)]
def OC{T:Addr}{r:Int}(x:IsTh H T M t r z s ms):DV K H (.ref T) (dTh t r z s ms):=
 .tup (WO x.T) (.cons (.str _) (.cons (.int _) (.cons (.int _) (.cons (.int _) (.cons (.lst (ST x.M) (.ints ms)) .nil)))))
theorem Mx(t:TK):decide (tkC t=s!"pair")=decide (t=.pair):=by cases t <;> decide
theorem My(t:TK):decide (tkC t=s!"turn")=decide (t=.turn):=by cases t <;> decide
def K39(t:TK):Prop:=t=.count\/t=.sum\/t=.step\/t=.ways
noncomputable def fL (h w:Int) (x:RR) (Sj:∅) (t:TK) (z s:Int) (ms:∅):Bool:=match t with
 | .count=>cntB x.cs x.n x.m Sj z s ms
 | .sum=>sumB x.cs x.n Sj z s ms
 | .step=>stepB x.cs Sj z s ms
 | _=>waysB x.k h w x.cs x.n x.m Sj z s ms
noncomputable def bX (h w:Int) (Sl:List RR) (Sj:∅) (t:TK) (r z s:Int) (ms:∅):Bool:=match Sl[r.toNat]? with
  | none=>false
  | some x=>fL h w x Sj t z s ms
def OD(a:K39 t):t≠.clue:=by rcases a with rfl | rfl | rfl | rfl <;> decide
def eJ(K:Frag)(c:WY)(d:WZ):Sp:=#[3,∃ P L G A T M h w g Sl cl Sj t r z s ms,vs=[.ref P,.ref A,.ref T]/\Asks H c d P L G A T M h w g Sl cl Sj t r z s ms/\(t=.count\/t=.sum\/t=.ways)/\(∀ m∈Sj,0<=m/\m<64)/\formB h w g Sl t r z s=true/\∀ a,Same H a->Q (.bl (bX h w Sl Sj t r z s ms)) a]
def eP(K:Frag)(c:WY)(d:WZ):TS:=#[":gldktnF~l~mbhn0cdk2ef#1 i#3 gomdrbdk2ef#0 exy`0j,}dbha3a1adk2ef#2 adk2ef#3 adk2ef#4 cpgomdrbdk2ef#0 exy`1j,}ebha3a1adk2ef#2 adk2ef#3 adk2ef#4 cpj,}fbha3a1adk2ef#2 adk2ef#3 adk2ef#4 c",s!"count",s!"sum"]
theorem qQ(h:eJ K c d vs H Q E):eP K c d (eD9 Q) (start ["puzzle","masks","thought","rule"] vs) H:=by
 obtain⟨P,L,G,A,T,M,h,w,g,Sl,cl,Sj,t,r,z,s,ms,rfl,X,C,D,f,q⟩:=h;obtain⟨dx,p,rs,h1,h2,h3⟩:=X.P.ex;obtain⟨z0,z1,s0,I,U⟩:=bQ f;have hg:=X.P.R.F.g1;have W:=X.P.R.F.m;obtain⟨r0,y,i,J,hz⟩:=dZ (by rcases C with rfl | rfl | rfl <;> decide) U;have O:=X.P.R.ok y (SH i);have e:aO y.cs Sj.length:=by rw[X.n];exact Vk O X.P.R.F
 ac_nf;unfold eP;rw[aK,bP,gm];refine methE (k:=.Puzzle) rfl X.P.ok h1 (by rfl) ?_;exists⟨P,L,G,h,w,g,Sl,cl,rfl,X.P,λl B b S u Y=>?_⟩;have a:Same H (upd H l (.lst (b.map V.ref))):=(SF H).laid S;generalize upd H l (.lst (b.map V.ref))=H1 at*;have Z:=(SD.mp i).1;have Su:=Y.len;have j:b[r.toNat]? =some b[r.toNat]:=Sy #[4]
 have fin:∀ o,Same H1 o->Q (.bl (fL h w y Sj t z s ms)) o:=λo N=>by
  have x:=q o (a.trans N);unfold bX at x;rw[i]at x;exact x
 dsimp only;refine ixT (a _ _ X.T.T) (v:=V.int r) rfl ?_;refine ixL Y.top (jj r0 j) ?_;symm;rw[aF];exists ixT (a _ _ X.T.T) (v:=V.str (tx (tkC t))) rfl ?_;symm;rw[bF,KM];rcases C with rfl | rfl | rfl
 . rw[SB rfl];refine iteT ?_;exists ixT (a _ _ X.T.T) (v:=V.int z) rfl ?_;exists ixT (a _ _ X.T.T) (v:=V.int s) rfl ?_;exists ixT (a _ _ X.T.T) (v:=V.ref M) rfl ?_;exists⟨_,_,B,A,M,_,y.cs,Sj,ms,_,_,z,s,rfl,Y.at_ _ _ _ j i,e,a _ _ X.A,a _ _ X.T.M,by lia,fin⟩
 . rw[SE #[1]];refine iteF ?_;rw[aF];exists ixT (a _ _ X.T.T) (v:=V.str (tx (tkC .sum))) rfl ?_;symm;rw[bF,Jx,SB rfl];refine iteT ?_;exists ixT (a _ _ X.T.T) (v:=V.int z) rfl ?_;exists ixT (a _ _ X.T.T) (v:=V.int s) rfl ?_;exists ixT (a _ _ X.T.T) (v:=V.ref M) rfl ?_;exists⟨_,_,B,A,M,_,y.cs,Sj,ms,_,_,z,s,rfl,Y.at_ _ _ _ j i,e,D,a _ _ X.A,a _ _ X.T.M,fin⟩
 . rw[SE #[1]];refine iteF ?_;rw[aF];exists ixT (a _ _ X.T.T) (v:=V.str (tx (tkC .ways))) rfl ?_;symm;rw[bF,Jx,SE #[1]];refine iteF ?_;exists ixT (a _ _ X.T.T) (v:=V.int z) rfl ?_;exists ixT (a _ _ X.T.T) (v:=V.int s) rfl ?_;exists ixT (a _ _ X.T.T) (v:=V.ref M) rfl ?_;exists⟨_,_,B,A,M,_,y.cs,Sj,ms,_,_,z,s,h,w,g,rfl,Y.at_ _ _ _ j i,u,X.P.R.F,e,by rw[X.n];lia,D,by lia,by lia,a _ _ X.A,a _ _ X.T.M,fin⟩
def NP(x:RR)(t:TK)(z:Int):∅:=match t with
 | .step=>ahdL x.cs z++behL x.cs z
 | _=>othL x.cs z
noncomputable def strA (h w g:Int) (Sl:List RR) (cl Sj:∅) (t:TK) (r z s:Int) (ms:∅):Bool:=
 if lineK t then(if t=.step then bX h w Sl Sj t r z s ms else cj g Sl cl Sj t r z s ms) else if nbrK t then bX h w Sl Sj t r z s ms else dz h w Sl Sj t r z s ms
def gx(K:Frag)(c:WY)(d:WZ):Sp:=#[3,∃ P L G A T M h w g Sl cl Sj t r z s ms,vs=[.ref P,.ref A,.ref T]/\Asks H c d P L G A T M h w g Sl cl Sj t r z s ms/\lineK t=true/\(∀ m∈Sj,0<=m/\m<64)/\formB h w g Sl t r z s=true/\∀ a,Same H a->Q (.bl (strA h w g Sl cl Sj t r z s ms)) a]
def gy(K:Frag)(c:WY)(d:WZ):TS:=#[":gldk2ef#0 i#3 gldk2ef#2 i#4 gldk2ef#3 i#5 gldk2ef#4 i#6 gomdrb3exy`0j,}gbatnF~B~Cbhn0ca4a5a6cpgldktnF~l~mbhn0cdk2ef#1 i#7 gomdrb3exy`1j,}hbha7a1a4a5a6cpgomdrb3exy`2j,}ibhatnF~j~kbhn0ca7a1a4a5a6cpgomdrb3exy`3j,}jbha7a1a4a5a6cpj,}kbha7a1a4a5a6c",s!"clue",s!"only",s!"place",s!"step"]
theorem uo(h:gx K c d vs H Q E):gy K c d (eD9 Q) (start ["puzzle","masks","thought","kind","cell","sign","more","rule"] vs) H:=by
 obtain⟨P,L,G,A,T,M,h,w,g,Sl,cl,Sj,t,r,z,s,ms,rfl,X,S,mm,f,q⟩:=h;obtain⟨dx,p,rs,h1,h2,h3⟩:=X.P.ex;obtain⟨z0,z1,s0,ac,Sw⟩:=bQ f;have af:=X.P.C.len;have hg:=X.P.R.F.g1;unfold strA at q;rw[S,SY rfl]at q;exists gy;refine ixT X.T.T (v:=V.str (tx (tkC t))) rfl ?_;exists ixT X.T.T (v:=V.int z) rfl ?_;exists ixT X.T.T (v:=V.int s) rfl ?_;exists ixT X.T.T (v:=V.ref M) rfl ?_;symm;rw[aF];symm;rw[bF,AT];by_cases x:t=.clue
 . subst x;rw[SS #[1]]at q;rw[SB rfl];refine iteT ?_;refine methE (k:=.Puzzle) rfl X.P.ok h1 (by rfl) ?_;exists⟨P,L,G,h,w,g,Sl,cl,rfl,X.P,λl W=>?_⟩;have a:Same H (upd H l (.lst (cl.map V.int))):=(SF H).laid W;exact⟨l,M,z,s,cl,ms,rfl,aj,z0,by lia,a _ _ X.T.M,λb j=>q b (a.trans j)⟩
 . rw[SE x];obtain⟨r0,y,o,_,hz⟩:=dZ x Sw
   have Z:t≠.step->∀ b,Same H b->Q (.bl (kF g t y Sj z s ms)) b:=λhn b s'=>by
    have u:=q b s';rw[SS hn]at u
    have e:cj g Sl cl Sj t r z s ms=kF g t y Sj z s ms:=by
     unfold cj;cases t <;> first | exact absurd rfl x | (dsimp only;rw[o])
    rw[e]at u;exact u
   refine iteF ?_;refine methE (k:=.Puzzle) rfl X.P.ok h1 (by rfl) ?_;exists⟨P,L,G,h,w,g,Sl,cl,rfl,X.P,λl N i W ad Y=>?_⟩;have a:Same H (upd H l (.lst (i.map V.ref))):=(SF H).laid W;generalize upd H l (.lst (i.map V.ref))=H1 at*;have ae:=(SD.mp o).1;have Su:=Y.len;have D:i[r.toNat]? =some i[r.toNat]:=Sy #[4];have O:=X.P.R.ok y (SH o);have m:aO y.cs Sj.length:=by rw[X.n];exact Vk O X.P.R.F
   dsimp only;refine ixT (a _ _ X.T.T) (v:=V.int r) rfl ?_;refine ixL Y.top (jj r0 D) ?_;symm;rw[aF];symm;rw[bF,Gw];by_cases I:t=.only
   . subst I;rw[SB rfl];refine iteT ?_;exists⟨_,_,N,A,M,_,y.cs,Sj,ms,_,_,z,s,rfl,Y.at_ _ _ _ D o,m,a _ _ X.A,a _ _ X.T.M,by lia,λb j=>Z #[1] b (a.trans j)⟩
   . rw[SE I];refine iteF ?_;rw[aF];symm;rw[bF,Ee];by_cases J:t=.place
     . subst J;rw[SB rfl];refine iteT ?_;refine methE (k:=.Puzzle) rfl X.P.ok (a _ _ h1) (by rfl) ?_;exists⟨P,L,G,h,w,g,Sl,cl,rfl,X.P.same a,λp3 ab=>?_⟩;exists⟨_,p3,_,N,A,M,_,y.cs,Sj,ms,_,_,z,s,h,w,g,rfl,ab,Y.at_ _ _ _ D o,m,a _ _ X.A,a _ _ X.T.M,λb j=>Z #[1] b (a.trans j)⟩
     . rw[SE J];refine iteF ?_;rw[aF];symm;rw[bF,Mp];by_cases B:t=.step
       . subst B;rw[SB rfl];refine iteT ?_;exists⟨_,_,N,A,M,_,y.cs,Sj,ms,_,_,z,s,rfl,Y.at_ _ _ _ D o,m,hz,mm,a _ _ X.A,a _ _ X.T.M,λb j=>?_⟩;have u:=q b (a.trans j);rw[SY rfl]at u;unfold bX at u;rw[o]at u;exact u
       . rw[SE B]
         have U:t=.pair:=by
          revert S x I J B
          cases t <;> intro S x I J B <;> first | rfl | exact absurd rfl x | exact absurd rfl I | exact absurd rfl J | exact absurd rfl B | cases S
         subst U;refine iteF ?_;exists⟨_,_,N,A,M,_,y.cs,Sj,ms,_,_,z,s,rfl,Y.at_ _ _ _ D o,m,mm,a _ _ X.A,a _ _ X.T.M,λb j=>Z #[1] b (a.trans j)⟩
def qR(K:Frag)(c:WY)(d:WZ):Sp:=#[3,∃ P L G A T M h w g Sl cl Sj t r z s ms,vs=[.ref P,.ref A,.ref T]/\Asks H c d P L G A T M h w g Sl cl Sj t r z s ms/\(∀ m∈Sj,0<=m/\m<64)/\formB h w g Sl t r z s=true/\∀ a,Same H a->Q (.bl (strA h w g Sl cl Sj t r z s ms)) a]
def qS(K:Frag)(c:WY)(d:WZ):TS:=#[":goz~E}lBdk2ef#0 j,}mbhna0a1a2cpgoz~E}nBdk2ef#0 j,}obhna0a1a2cpj,}pbhna0a1a2c"]
theorem nbrA(h:nbrK t=true):t=.count\/t=.sum\/t=.ways:=by cases t <;> first | exact .inl rfl | exact .inr (.inl rfl) | exact .inr (.inr rfl) | cases h
theorem regA(h1:lineK t=false)(h2:nbrK t=false):HC t:=by cases t <;> first | exact .inl rfl | exact .inr (.inl rfl) | exact .inr (.inr rfl) | (cases h1;done) | (cases h2;done)
theorem FT(h:qR K c d vs H Q E):qS K c d (eD9 Q) (start ["puzzle","masks","thought"] vs) H:=by
 obtain⟨P,L,G,A,T,M,h,w,g,Sl,cl,Sj,t,r,z,s,ms,rfl,X,a,f,q⟩:=h;ac_nf;unfold qS;rw[aK,aF];exists ixT X.T.T (v:=V.str (tx (tkC t))) rfl ?_;symm;rw[Ml]
 cases e1:lineK t with
 | true=>
  refine iteT ?_;exact⟨P,L,G,A,T,M,h,w,g,Sl,cl,Sj,t,r,z,s,ms,rfl,X,e1,a,f,q⟩
 | false=>
  unfold strA at q;rw[e1,SS SR]at q;refine iteF ?_;rw[aF];exists ixT X.T.T (v:=V.str (tx (tkC t))) rfl ?_;symm;rw[NF]
  cases e2:nbrK t with
  | true=>
   rw[e2,SY rfl]at q;refine iteT ?_;exact⟨P,L,G,A,T,M,h,w,g,Sl,cl,Sj,t,r,z,s,ms,rfl,X,nbrA e2,a,f,q⟩
  | false=>
   rw[e2,SS SR]at q;refine iteF ?_;exists⟨P,L,G,A,T,M,h,w,g,Sl,cl,Sj,t,r,z,s,ms,rfl,X,regA e1 e2,f,q⟩
noncomputable def alwA (h w g:Int) (Sl:List RR) (cl Sj:∅) (t:TK) (r z s:Int) (ms:∅):Bool:=formB h w g Sl t r z s&&strA h w g Sl cl Sj t r z s ms
def tGT(K:Frag)(a:List Str):TE:=λ_ H Q=>∀ q,SqT K H q (a.map V.str)->Q (.ref q) H
section
variable{X:Cx}{pos:Pos}{x:Str}{ws:List Str}
theorem HF(G:GTup X.K X.mg x ws)(c:Gl X x)(a:(x==("__debug__":Str))=false:=by decide):PE X (.Name x pos) (tGT X.K ws):=by
 obtain⟨q,o,b,n,h1,h2⟩:=G.ex;intro d s σ H Q I h;exact cG (v:=V.ref q) c h1 rfl a d s σ H Q I (h q (.inr ⟨o,b,n,h2⟩))
end
def K3{K:Frag}{a:List Str}{σ:St}{H:Hp}{Q:VK}:tGT K a σ H Q=∀ q,SqT K H q (a.map V.str)->Q (.ref q) H:=rfl
def stL(ms:∅)(c s:Int):∅:=(List.range ms.length).map λ(i:Nat)=>if (i:Int)=c then woI (ms.getD i 0) s else ms.getD i 0
def pY(K:Frag):Sp:=#[3,∃ p ms c s,vs=[.ref p,.int c,.int s]/\H p=↥(ms.map V.int)/\ms.length<=900/\s<=100000/\∀ l a,Same H a->H l=none->a l=↥((stL ms c s).map V.int)->Q (.ref l) a]
def uZ(K:Frag):TS:=#[":jv&---12 'gba0c~hb#2 Si#1 Si#2 ~iC~amdrb13,'yba2a4c2"]
variable{K:Frag}{vs:List V}{H:Hp}{Q:VK}{E:XK}
theorem JO(h:pY K vs H Q E):uZ K (eD9 Q) (start ["masks","cell","sign"] vs) H:=by
 obtain⟨p,ms,c,s,rfl,d,n,o,k⟩:=h;exists uZ;refine⟨p,rfl,⟨_,ST d⟩,?_⟩;refine sX (xs:=ms.map V.int) (λ_=>true) (λi=>.int (if (i:Int)=c then woI (ms.getD i 0) s else ms.getD i 0)) (by rw[Sx];exact n) #[1] (ST d) ?_ ?_ ?_
 . intro i x a R e s1 k1;exact k1 _ (SF _)
 . intro i x a f e t s1 k1;obtain⟨m,j,rfl⟩:=aL e;have q:=k1 _ (SF a);rw[bJ j]at q;show tIf _ _ _ [none,⇑i,⇑m,⇑c,⇑s] a f;symm;by_cases b:(i:Int)=c
   . rw[SY b]at q;rw[SB b];exact iteT ⟨m,s,rfl,o,q⟩
   . rw[SS b]at q;rw[SE b];exact iteF q
 . intro l a g s1 r;refine k l a s1 g ?_;rw[r,aY,Sx];unfold stL;rw[Te];rfl
theorem rfmA{α β:Type}(d:α)(b:α->Bool)(f:α->β)(xs:List α):((List.range xs.length).filter λi=>b (xs.getD i d)).map (λi=>f (xs.getD i d))=(xs.filter b).map f:=by
 have e:xs=(List.range xs.length).map λi=>xs.getD i d:=by
  refine Vb (by simp) λi h1 h2=>?_;simp[List.getD,Sy h1]
 conv=>rhs;rw[e,Ux,Te]
 rfl
def LLp(Q:VK)(H:Hp)(Sr:List ∅):Prop:=∀(l:Addr) (as:List Addr) (b:Hp),Same H b->H l=none->(∀ a∈as,H a=none)->IsLL b l as Sr->Q (.ref l) b
variable{H1:Hp}{Sr:List ∅}
def LLp.of(q:LLp Q H Sr)(s:Same H H1):LLp Q H1 Sr:=λl as b c e d x=>q l as b (s.trans c) (s.free e) (λa h=>s.free (d a h)) x
variable{a:Addr}{σ0:St}{te:TE}{xs:∅}
theorem u6 {k:Nat} {j:TT} {fin:Addr->Hp->Prop} (b:Int->Bool) (f:Int->∅) (r:xs.length<=900) (n:SqL K H1 a (xs.map V.int))
  (o:∀ x H R,x∈xs->Same H1 H->(∀ c,Same H c->R (b x) c)->j (σ0.set k ⇑x) H R)
  (q:∀ x H Q,x∈xs->b x=true->Same H1 H->(∀ a c,Same H c->H a=none->c a=↥((f x).map V.int)->Q (.ref a) c)->te (σ0.set k ⇑x) H Q)
  (p:LLp (λv H=>∀ l,v=.ref l->fin l H) H1 ((xs.filter b).map f)):CompR (Itl K a) (gName k) j te fin σ0 H1:=by
 refine nQ (xs:=xs.map V.int) (λi=>b (xs.getD i 0)) (λi=>.lst ((f (xs.getD i 0)).map V.int)) (by rw[Sx];exact r) n ?_ ?_ ?_
 . intro i x H R g s1 k1;obtain⟨y,d,rfl⟩:=aL g;rw[bJ d]at k1;exact o y H R (SH d) s1 k1
 . intro i x H Q g h s1 k1;obtain⟨y,d,rfl⟩:=aL g;rw[bJ d]at k1 h;exact q y H Q (SH d) h s1 k1
 . intro l as H m s1 t N;rw[Sx]at N
   have e:((List.range xs.length).filter λi=>b (xs.getD i 0)).map (λi=>HO.lst ((f (xs.getD i 0)).map V.int))=((xs.filter b).map f).map λs=>.lst (s.map V.int):=by
    rw[rfmA 0 b (λx=>HO.lst ((f x).map V.int)) xs,Te];rfl
   rw[e]at N;exact p l as H s1 m N.fr (N.ll t) l rfl
variable{x:Int}
def zw(q:∀ a b,Same H b->H a=none->b a=↥(([x]:∅).map V.int)->Q (.ref a) b):([V.int x]:List V).length<=sizeLine/\∀ p,H p=none->Q (.ref p) (upd H p (.lst [V.int x])):=
 ⟨lnR rfl,λp c=>q p _ ((SF H).laid c) c aj⟩
def srtI(xs:∅):∅:=xs.mergeSort (λa b=>decide (a<=b))
theorem GI:∀{xs ys:∅},xs.Perm ys->xs.Pairwise (· <=·)->ys.Pairwise (· <=·)->xs=ys
 | [],ys,p,_,_=>(List.nil_perm.mp p).symm ▸ rfl
 | x::r,[],p,_,_=>absurd p (by simp)
 | x::r,y::t,p,h1,h2=>by
  rw[Wa]at h1 h2
  have e:x=y:=by
   rcases SU.mp (p.mem_iff.mp SN) with e | c
   . exact e
   . rcases SU.mp (p.mem_iff.mpr SN) with e | d
     . exact e.symm
     . have a:=h2.1 x c;have b:=h1.1 y d;lia
  subst e;rw[GI (List.Perm.cons_inv p) h1.2 h2.2]
variable{ns:∅}
theorem JP(p:ns.Perm xs)(h:ns.Pairwise (· <=·)):ns=srtI xs:=by
 refine GI (p.trans (V0 xs _).symm) h ?_;have:=List.pairwise_mergeSort (le:=λa b:Int=>decide (a<=b)) (λa b c h1 h2=>by simp at h1 h2 ⊢;lia) (λa b=>by simp;lia) xs;exact this.imp λh=>SG h
def srt_mem:x∈srtI xs↔x∈xs:=(V0 xs _).mem_iff
def rA:(srtI xs).length=xs.length:=(V0 xs _).length_eq
variable{p:Addr}
def zx(b:H p=↥(ns.map V.int))(d:ns.length<64)(h:∀ l,H l=none->Q (.ref l) (upd H l (.lst ((srtI ns).map V.int)))):fz [.ref p] H Q:=
 KA b d λe l a f c=>by rw[JP f c];exact h l a
abbrev othA(cs:∅)(z:Int):∅:=cs.filter λx=>!decide (x=z)
def onlM(cs Sj:∅)(z s:Int):List ∅:=((srtI (othA cs z)).filter λo=>decide (woI (Sj.getD o.toNat 0) s=0)).map λo=>[o]
def m3(K:Frag)(c:WY):Sp:=#[3,∃ k r p A a cs Sj n m z s,vs=[.ref r,.ref A,.int z,.int s]/\IsRule H c k r p a cs n m/\aO cs Sj.length/\H A=↥(Sj.map V.int)/\s<=1000/\LLp Q H (onlM cs Sj z s)]
def m5(K:Frag)(c:WY):TS:=#[":jv&--13 sbq~Ja,+bha0a2cci#1 z,~wbadk21a3cua1c"]
variable{c:WY}
theorem CB(h:m3 K c vs H Q E):m5 K c (eD9 Q) (start ["rule","masks","cell","sign"] vs) H:=by
 obtain⟨k,r,p,A,F,cs,Sj,n,m,z,s,rfl,x,d,N,P,q⟩:=h;have T:(othA cs z).length<=cs.length:=SV _ _;have v:=d.1;exists m5;refine⟨k,r,p,F,cs,n,m,z,rfl,x,v,λl H1 s1 j G=>?_⟩;refine zx (ns:=othA cs z) G #[4] λM f=>?_;obtain⟨S,D,w,e2⟩:=aU (.lst ((srtI (othA cs z)).map V.int)) f;rw[D];have b:=s1.trans w;refine⟨M,rfl,⟨_,ST e2⟩,?_⟩;refine u6 (xs:=srtI (othA cs z)) (λo=>decide (woI (Sj.getD o.toNat 0) s=0)) (λo=>[o]) (by rw[rA];lia) (ST e2) ?_ ?_ ?_
 . intro y g R t i k3;have u:=d.2 y (SJ.mp (srt_mem.mp t)).1;show tB _ [none,⇑y,↑A,⇑s] g R;exists ixI ((b.trans i) _ _ N) u.1 #[4] ?_;exists⟨_,s,rfl,by lia,_,rfl,k3 _ (SF _)⟩
 . intro y g L t U i k3;show tLst _ [none,⇑y,↑A,⇑s] g L;exists zw k3
 . exact λl as I B j J C O e=>by cases e;exact q l as I (b.trans B) (b.free j) (λa h=>b.free (J a h)) C
def plaM(g s:Int):List ∅:=((rngL 1 (g+1)).filter λo=>!decide (o=s)).map λo=>[o]
def lQ(K:Frag):Sp:=#[3,∃ p h w g s,vs=[.ref p,.int s]/\IsFl H p h w g/\1<=g/\g<=6/\LLp Q H (plaM g s)]
def lR(K:Frag):TS:=#[":jv&--1 'zaef#1 adwdk0ef#2 ef#1 ci#1 mdDb12ua1c"]
theorem AZ(h:lQ K vs H Q E):lR K (eD9 Q) (start ["floor","sign"] vs) H:=by
 obtain⟨p,h,w,g,s,rfl,d,o,n,q⟩:=h;exists lR;refine ixT d (v:=V.int g) rfl ?_;exists⟨1,g+1,rfl,⟨by lia,by lia,by lia,by lia⟩,?_⟩;refine wJ (λi=>!decide (1+(i:Int)=s)) (λi=>.lst (([1+(i:Int)]:∅).map V.int)) #[4] ?_ ?_ ?_
 . intro i a R f b k2;show tTest _ [none,⇑(1+(i:Int)),⇑s] a R;exists k2 _ (SF _)
 . intro i a k f _ b k2;show tLst _ [none,⇑(1+(i:Int)),⇑s] a k;exists zw k2
 . intro l as a c b m N
   have e:((List.range (g+1-1).toNat).filter λ(i:Nat)=>!decide (1+(i:Int)=s)).map (λ(i:Nat)=>HO.lst (([1+(i:Int)]:∅).map V.int))=(plaM g s).map λj=>.lst (j.map V.int):=by
    unfold plaM rngL;rw[Ux,Te,Te];rfl
   rw[e]at N;exact q l as a b c N.fr (N.ll m)
def squM(h w z:Int):List ∅:=((squL h w).filter λq=>decide (z∈q)).map λq=>[q.getD 0 0]
def kJ(K:Frag):Sp:=#[3,∃ p h w g z,vs=[.ref p,.int z]/\IsFl H p h w g/\FlOk h w g/\LLp Q H (squM h w z)]
def kK(K:Frag):TS:=#[":jv&--1 sb,'bba0ci#1 mdKbB21uadk1ef#0 c"]
variable{h w g:Int}
theorem K4(F:FlOk h w g):(squL h w).length<=16:=by
 have:=F.m;unfold squL;rw[Sx];refine SW (SV _ _) ?_;rw[TW];lia
theorem zy(h:kJ K vs H Q E):kK K (eD9 Q) (start ["floor","cell"] vs) H:=by
 obtain⟨p,h,w,g,z,rfl,u,F,q⟩:=h;have D:=K4 F;exists kK;refine⟨p,h,w,g,rfl,u,F,λl as H1 s1 G X J L I=>?_⟩;have o:=X.len;refine⟨l,rfl,⟨_,ST X.top⟩,?_⟩;refine nQ (xs:=as.map V.ref) (λi=>decide (z∈(squL h w).getD i [])) (λi=>.lst (([((squL h w).getD i []).getD 0 0]:∅).map V.int)) (by rw[Sx];lia) (ST X.top) ?_ ?_ ?_
 . intro i x c R n d k2;obtain⟨b,f,rfl⟩:=bf n;have C:i<as.length:=(SD.mp f).1;have e:(squL h w)[i]? =some (squL h w)[i]:=Sy #[4];have k:=d _ _ (X.at_ i b _ f e);have m:(squL h w).getD i []=(squL h w)[i]:=by rw[List.getD,e];rfl
   rw[m]at k2;show tTest _ [none,↑b,⇑z] c R;symm;rw[sS k];exact⟨_,rfl,k2 _ (SF _)⟩
 . intro i x c B n y d k2;obtain⟨b,f,rfl⟩:=bf n;have C:i<as.length:=(SD.mp f).1;have e:(squL h w)[i]? =some (squL h w)[i]:=Sy #[4];have k:=d _ _ (X.at_ i b _ f e);have m:(squL h w).getD i []=(squL h w)[i]:=by rw[List.getD,e];rfl
   rw[m]at k2;obtain⟨j,_,_,r⟩:=oi (S9 (show i < (squL h w).length by lia));rw[r]at k k2;show tLst _ [none,↑b,⇑z] c B;exists ixI k #[1] (by show(0:Int)<4;decide) ?_;exact zw k2
 . intro T t c s d v N;rw[Sx,o,rfmA [] (λq=>decide (z∈q)) (λq=>HO.lst (([q.getD 0 0]:∅).map V.int)) (squL h w)]at N;have e:((squL h w).filter λq=>decide (z∈q)).map (λq=>HO.lst (([q.getD 0 0]:∅).map V.int))=(squM h w z).map λA=>.lst (A.map V.int):=by unfold squM;rw[Te];rfl
   rw[e]at N;exact q T t c (s1.trans d) (s1.free s) (λa h=>s1.free (N.fr a h)) (N.ll v)
def turM(h w z:Int):List ∅:=[]::(besL h w z).map λo=>[o]
def m7(K:Frag):Sp:=#[3,∃ p h w g z,vs=[.ref p,.int z]/\IsFl H p h w g/\FlOk h w g/\LLp Q H (turM h w z)]
def m8(K:Frag):TS:=#[":jdwuauccv&-- sb,~Aba0a1ci#1 Cua1c"]
theorem CD(h:m7 K vs H Q E):m8 K (eD9 Q) (start ["floor","cell"] vs) H:=by
 obtain⟨p,h,w,g,z,rfl,D,F,q⟩:=h;have W:=F.w0;have S:=F.w1;have bl:=xB h w z;exists m8;refine⟨aX #[1],λb x=>?_⟩;obtain⟨H1,n,s1,e1⟩:∃ z,upd H b (.lst [])=z/\Same H z/\z b=↥(([]:∅).map V.int):=aU _ x;rw[n];refine⟨lnR rfl,λZ J=>?_⟩;obtain⟨M,n,v,e2⟩:=aU (.lst [V.ref b]) J;rw[n];have d:=s1.trans v;refine⟨p,h,w,g,z,rfl,d _ _ D,by lia,by lia,λl P u O A=>?_⟩;refine⟨l,rfl,⟨_,ST A⟩,?_⟩;refine u6 (xs:=besL h w z) (λ_=>true) (λo=>[o]) #[4] (ST A) ?_ ?_ ?_
 . intro y c R I m k4;exact k4 _ (SF _)
 . intro y c C I U m k4;show tLst _ [none,⇑y] c C;exists zw k4
 . intro T as c m N G X L e;cases e;have k:=d.trans u;have f:=u.trans m;have i:=k.trans m;have s:IsLL c T as ((besL h w z).map λo=>[o]):=by rw[aY]at X;exact X
   have t:=s.len;rw[Sx]at t;exists uE (f _ _ e2) s.top (by simp;lia) λR B=>?_;have r:Same c (upd c R (.lst ([V.ref b]++as.map V.ref))):=(SF c).laid B;refine q R (b::as) _ (i.trans r) (i.free B) (λa h=>?_) ⟨aj,?_,λj a xs h1 h2=>?_⟩
   . rcases SU.mp h with rfl | h
     . exact x
     . exact k.free (G a h)
   . unfold turM;simp[t]
   . cases j with
     | zero=>cases h1;cases h2;exact r _ _ (f _ _ (v _ _ e1))
     | succ j=>exact r _ _ (s.at_ j a xs h1 h2)
def sureA(cs Sj:∅)(m z:Int):∅:=(othA cs z).filter λo=>decide (woI (Sj.getD o.toNat 0) m=0)
noncomputable def reaM (h w:Int) (cs:∅) (m:Int) (Sj:∅) (z s:Int):List ∅:=
 if s=m then((sureA cs Sj m z).filter λo=>!rcB h w (thrL cs Sj m z++[z]) z o).map λo=>[o]
 else((sureA cs Sj m z).filter λo=>!rcB h w (thrL cs Sj m z) ((sureA cs Sj m z).getD 0 0) o).map λo=>[(sureA cs Sj m z).getD 0 0,o]
def lS(K:Frag)(c:WY):Sp:=#[3,∃ k f r p A a cs Sj n m z s h w g,vs=[.ref f,.ref r,.ref A,.int z,.int s]/\IsFl H f h w g/\FlOk h w g/\IsRule H c k r p a cs n m/\aO cs Sj.length/\cs.length<=60/\H A=↥(Sj.map V.int)/\m<=1000/\LLp Q H (reaM h w cs m Sj z s)]
def iJ(K:Frag)(c:WY):TS:=#[":jv&--86 sb6i#1 mdKbR12uadk3ef#0 a1c"]
def nv(K:Frag)(c:WY):TS:=#[":gl~amdDb6uc,~Kba0a7adk6ef#0 cuci#8 }qbh"]
def iK(K:Frag)(c:WY):TS:=#[":gomdrb45gl,~Kba0adw7ua3ca3ci#8 jv&--8 sb6i#1 mdKbR12ua1cp}rbh"]
def lT(K:Frag)(c:WY):TS:=#[":glthE~x~ybh1ci#5 glv&--52 sb,+bha1a3ci#1 z,~wbadk31a2c1i#6 g~e#7 &--52 sb,+bha1a3ci#1 z,~tbadk31a2c1}sbh"]
theorem ninA{cs rs:∅}{st o:Int}(b:H p=↥(rs.map V.int))(a:∀ x,x∈rs↔RC h w cs st x)(q:Q (.bl (!rcB h w cs st o)) H):cIn K true (.int o) (.ref p) H Q:=by
 rw[jY b,Es (a o)];exact q
variable{y:Int}
def LE(q:∀ a b,Same H b->H a=none->b a=↥(([x,y]:∅).map V.int)->Q (.ref a) b):([V.int x,V.int y]:List V).length<=sizeLine/\∀ p,H p=none->Q (.ref p) (upd H p (.lst [V.int x,V.int y])):=
 ⟨lnR rfl,λp c=>q p _ ((SF H).laid c) c aj⟩
def LLp.fin(q:LLp Q H Sr)(s:Same H H1):LLp (λv b=>∀ l,v=.ref l->Q (.ref l) b) H1 Sr:=λl as b f d c g i e=>by cases e;exact q l as b (s.trans f) (s.free d) (λa h=>s.free (c a h)) g
variable{f:Addr}{z s m:Int}{v1 v2:Option V}
theorem ww {S T:Addr} {b a:∅} (J:IsFl H f h w g) (F:FlOk h w g) (B:H S=↥(b.map V.int)) (I:H T=↥(a.map V.int)) (sn:b.length<=60) (tn:a.length<=60)
  (q:LLp Q H (if s=m then(b.filter λo=>!rcB h w (a++[z]) z o).map λo=>[o] else(b.filter λo=>!rcB h w a (b.getD 0 0) o).map λo=>[b.getD 0 0,o])):
  iK K c (eD9 Q) [↑f,v1,v2,⇑z,⇑s,⇑m,↑S,↑T,none] H:=by
 have w0:=F.w0;have w1:=F.w1;unfold iK;rw[aK,aF];symm;by_cases e:s=m
 . rw[SY e]at q;rw[SB e];exists⟨lnR rfl,λl N=>?_⟩;obtain⟨H1,E,s1,U⟩:=aU (.lst [V.int z]) N;rw[E];refine uE (s1 _ _ I) U (by simp;lia) λY L=>?_;have M:Same H1 (upd H1 Y (.lst (a.map V.int++[V.int z]))):=(SF H1).laid L;have X:(upd H1 Y (.lst (a.map V.int++[V.int z]))) Y=↥((a++[z]).map V.int):=by rw[aj];simp
   generalize upd H1 Y (.lst (a.map V.int++[V.int z]))=H2 at*;have r:=s1.trans M;exists⟨f,Y,h,w,g,z,_,rfl,r _ _ J,by lia,by lia,X,by simp;lia,λp j rs n W t _ A=>?_⟩;have v:=r.trans n;symm;have d:=v _ _ B;refine⟨⟨_,ST d⟩,?_⟩;refine u6 (xs:=b) (λo=>!rcB h w (a++[z]) z o) (λo=>[o]) #[4] (ST d) ?_ ?_ (q.fin v)
   . intro y i R u k k4;show tTest _ [none,⇑y,↑p] i R;exists ninA (k _ _ t) A ⟨_,rfl,k4 _ (SF _)⟩
   . intro y i D u Z k k4;show tLst _ [none,⇑y,↑p] i D;exists zw k4
 . rw[SS e]at q;rw[SE e];symm;unfold nv
   have fin:∀(p:Addr) (rs:∅) (j:Hp),Same H j->j p=↥(rs.map V.int)->(b≠[]->∀ x,x∈rs↔RC h w a (b.getD 0 0) x)->iJ K c (eD9 Q) [↑f,v1,v2,⇑z,⇑s,⇑m,↑S,↑T,↑p] j:=λp rs j n t A=>by
    have d:=n _ _ B;unfold iJ;exists⟨⟨_,ST d⟩,?_⟩;refine u6 (xs:=b) (λo=>!rcB h w a (b.getD 0 0) o) (λo=>[b.getD 0 0,o]) #[4] (ST d) ?_ ?_ (q.fin n)
    . intro y i R u k k4;show tTest _ [none,⇑y,↑p,↑S] i R;exists ninA (k _ _ t) (A (List.ne_nil_of_mem u)) ⟨_,rfl,k4 _ (SF _)⟩
    . intro y i D u Z k k4;have:0<b.length:=Vu u;show tLst _ [none,⇑y,↑p,↑S] i D;exists ixI (k _ _ d) #[1] #[4] ?_;exact LE k4
   exists⟨aX #[1],λO hO=>?_⟩;obtain⟨H1,E,s1,eO⟩:∃ z,upd H O (.lst [])=z/\Same H z/\z O=↥(([]:∅).map V.int):=aU _ hO;rw[E];refine sV (s1 _ _ B) eO ?_;by_cases C:b=[]
   . rw[SB C];refine⟨_,rfl,iteF ?_⟩;refine⟨aX #[1],λP G=>?_⟩;exact fin P [] _ (s1.trans ((SF H1).laid G)) aj λh=>absurd C h
   . rw[SE C];have:0<b.length:=V1.mpr C;refine⟨_,rfl,iteT ?_⟩;refine ixI (s1 _ _ B) #[1] #[4] ?_;rw[show(0:Int).toNat=0 from rfl];refine⟨f,T,h,w,g,_,_,rfl,s1 _ _ J,by lia,by lia,s1 _ _ I,by lia,λp j rs n W t _ A=>?_⟩;exact fin p rs j (s1.trans n) t λ_=>A
theorem A0(h:lS K c vs H Q E):lT K c (eD9 Q) (start ["floor","rule","masks","cell","sign","mark","sure","through","joined"] vs) H:=by
 obtain⟨k,f,r,p,A,D,cs,Sj,n,m,z,s,h,w,g,rfl,X,F,x,a,ab,M,hm,q⟩:=h;obtain⟨dx,W,C,h1,h2,h3⟩:=x.ex;have ol:(othA cs z).length<=cs.length:=SV _ _;ac_nf;unfold lT;rw[aK,bP];refine methE (k:=k) rfl x.ok h1 (by rfl) ?_;exists⟨r,p,D,cs,n,m,rfl,x,?_⟩;exists⟨k,r,p,D,cs,n,m,z,rfl,x,a.1,λO H1 s1 hO J=>?_⟩;refine⟨O,rfl,⟨_,ST J⟩,?_⟩;refine ba (xs:=othA cs z) (λo=>decide (woI (Sj.getD o.toNat 0) m=0)) (λo=>o) #[4] (ST J) ?_ ?_ ?_
 . intro y v R l B k2;have e:=a.2 y (SJ.mp l).1;show tB _ [none,⇑y,⇑m,↑A] v R;exists ixI ((s1.trans B) _ _ M) e.1 e.2 ?_;exists⟨_,m,rfl,by lia,_,rfl,k2 _ (SF _)⟩
 . intro y v Y l Z B k2;show tVar 1 [none,⇑y,⇑m,↑A] v Y;exists k2 _ (SF _)
 . intro S v hS B I;rw[Ud]at I;have d:=s1.trans B;have x2:=x.same d;exists⟨k,r,p,D,cs,n,m,z,rfl,x2,a.1,λP H3 G U i=>?_⟩;have t:=d.trans G;refine⟨P,rfl,⟨_,ST i⟩,?_⟩;refine ba (xs:=othA cs z) (λo=>stB (Sj.getD o.toNat 0) m) (λo=>o) #[4] (ST i) ?_ ?_ ?_
   . intro y u R l b k4;have e:=a.2 y (SJ.mp l).1;show tB _ [none,⇑y,⇑m,↑A] u R;exists ixI ((t.trans b) _ _ M) e.1 e.2 ?_;exists⟨_,m,rfl,_,rfl,k4 _ (SF _)⟩
   . intro y u N l Z b k4;show tVar 1 [none,⇑y,⇑m,↑A] u N;exists k4 _ (SF _)
   . intro T u hT b L;rw[Ud]at L;have j:=t.trans b;have l1:=SV (λo=>decide (woI (Sj.getD o.toNat 0) m=0)) (othA cs z);have l2:=SV (λo=>stB (Sj.getD o.toNat 0) m) (othA cs z);exact ww (j _ _ X) F ((G.trans b) _ _ I) L #[4] #[4] (q.of j)
def fewA(cs Sj:∅)(z:Int):∅:=(srtI (othA cs z)).filter λo=>decide (((sgL (Sj.getD o.toNat 0)).length:Int)<=2)
def paiR(cs few:∅)(a:Int):List ∅:=(few.filter λb=>decide (((cs.findIdx (· ==a):Nat):Int) < ((cs.findIdx (· ==b):Nat):Int))).map λb=>[a,b]
def paiM(cs Sj:∅)(z:Int):List ∅:=(fewA cs Sj z).flatMap (paiR cs (fewA cs Sj z))
def m9(K:Frag)(c:WY):Sp:=#[3,∃ k r p A a cs Sj n m z,vs=[.ref r,.ref A,.int z]/\IsRule H c k r p a cs n m/\aO cs Sj.length/\cs.length<=16/\H A=↥(Sj.map V.int)/\(∀ m∈Sj,0<=m/\m<64)/\LLp Q H (paiM cs Sj z)]
def jD(K:Frag)(c:WY):TS:=#[":gluci#5 gIsb4i#6 TGbM'f5av&--63 sb4i#1 md<GbM~zb3a2cGbM~zb3a1cua2a1ccj5"]
def nc(K:Frag)(c:WY):TS:=#[":glthE~u~vbh0ci#3 g~e#4 &--1 sbq~Ja,+bha0a2cci#1 md(qAa,-badk21ccef#2 1}tbh"]
theorem bitsA(b:0<=m)(a:m<64):Builtin.Int.intBits m<=900:=by
 have t:=SG (SK.mp xZ m.toNat (SQ.mpr #[4]));rw[show((m.toNat:Nat):Int)=m by lia]at t;lia
theorem Ez{cs few:∅}{a:Int}:(paiR cs few a).length<=few.length:=by
 unfold paiR;rw[Sx];exact SV _ _
theorem EA{cs few:∅}:∀ xs:∅,(xs.flatMap (paiR cs few)).length<=xs.length*few.length
 | []=>by simp
 | x::r=>by
  have b:=EA (cs:=cs) (few:=few) r;have:=Ez (cs:=cs) (few:=few) (a:=x);rw[Wm,Ta,S2,Nat.add_mul];lia
theorem x9{S W:Addr}{cs few:∅}{J:Option V}(O:H S=↥(cs.map V.int))(n:H W=↥(few.map V.int))(cn:cs.length<=16)(D:few.length<=16)(G:∀ o∈few,o∈cs)(q:LLp Q H (few.flatMap (paiR cs few))):
  jD K c (eD9 Q) [J,v1,v2,↑S,↑W,none,none] H:=by
 unfold jD;exists⟨aX #[1],λF x=>?_⟩;obtain⟨H1,z9,s1,e1⟩:∃ z,upd H F (.lst [])=z/\Same H z/\z F=↥(([]:List Addr).map V.ref):=aU _ x;rw[z9];refine⟨⟨_,ST (s1 _ _ n)⟩,?_⟩;refine bg (K:=K) (xs:=few.map V.int) (λi σ w=>∃(u:Option V) (as:List Addr),σ=[J,v1,v2,↑S,↑W,↑F,u]/\Same H w/\IsLL w F as ((few.take i).flatMap (paiR cs few))/\(∀ a∈as,H a=none)/\F∉as) ⟨none,[],rfl,s1,⟨e1,rfl,λj a xs e _=>by simp at e⟩,(λa l=>by cases l),by simp⟩ (λi σ w _ ⟨_,_,_,s,_⟩=>ST (s _ _ n)) ?_ ?_
 . rintro i v σ C P ⟨u,as,rfl,g,X,t,B⟩;obtain⟨a,l,rfl⟩:=aL P;have N:=SH l;have hi:i<few.length:=(SD.mp l).1;have p:=X.len;have fl:=EA (cs:=cs) (few:=few) (few.take i);rw[Tx]at fl;have M:min i few.length*few.length<=16*16:=Wb #[4] D;exists⟨br X.top,⟨_,ST (g _ _ n)⟩,?_⟩;refine u6 (xs:=few) (λb=>decide (((cs.findIdx (· ==a):Nat):Int) < ((cs.findIdx (· ==b):Nat):Int))) (λb=>[a,b]) #[4] (ST (g _ _ n)) ?_ ?_ ?_
   . intro y m R I k k3;have d:=(g.trans k) _ _ O;show tTest _ [none,⇑y,⇑a,↑S] m R;exists⟨br d,?_⟩;refine lJ d (G a N) #[4] ?_;exists⟨br d,?_⟩;refine lJ d (G y I) #[4] ?_;exists k3 _ (SF _)
   . intro y m Q3 I A k k3;show tLst _ [none,⇑y,⇑a,↑S] m Q3;exists LE k3
   . intro T r m k hT A Y T' e;cases e;have U:=Ez (cs:=cs) (few:=few) (a:=a);have bl:=Y.len;have Yl:r.length<=16:=by rw[bl];exact SW U D
     refine KF (k _ _ X.top) Y.top (by rw[Sx,Sx,p];lia) ?_;have E:∀ b∈r,b≠F:=λb f e=>by have:=A b f;rw[e,X.top]at this;cases this
     refine⟨_,as++r,rfl,(g.trans k).own x,⟨by rw[aj,TV],?_,λj b xs h1 h2=>?_⟩,λb f=>?_,λhm=>?_⟩
     . rw[T6,l,Vg,Ta,Ta,p,bl];simp[paiR]
     . rw[T6,l,Vg]at h2;have e2:(some a).toList.flatMap (paiR cs few)=paiR cs few a:=by simp
       rw[e2]at h2;by_cases L:j<as.length
       . rw[Tn L]at h1;rw[Tn #[4]]at h2;have Z:b≠F:=λe=>B (by rw[← e];exact SH h1);rw[ap Z];exact k _ _ (X.at_ j b xs h1 h2)
       . rw[Tp #[4]]at h1;rw[Tp #[4],← p]at h2;rw[ap (E b (SH h1))];exact Y.at_ _ b xs h1 h2
     . rcases SX.mp f with h | h
       . exact t b h
       . exact g.free (A b h)
     . rcases SX.mp hm with h | h
       . exact B h
       . exact E _ h rfl
 . rintro σ C ⟨u,as,rfl,g,X,t,B⟩;rw[Sx,TH]at X;exists q F as C g x t X
theorem CF(h:m9 K c vs H Q E):nc K c (eD9 Q) (start ["rule","masks","cell","spots","few","found","first"] vs) H:=by
 obtain⟨k,r,p,A,v,cs,Sj,n,m,z,rfl,x,a,I,Y,w,q⟩:=h;obtain⟨dx,Wd,C,h1,h2,h3⟩:=x.ex;have ol:(othA cs z).length<=cs.length:=SV _ _;exists nc;refine methE (k:=k) rfl x.ok h1 (by rfl) ?_;exists⟨r,p,v,cs,n,m,rfl,x,λS T=>?_⟩;obtain⟨H1,g,s1,L⟩:=aU (.lst (cs.map V.int)) T;rw[g];exists⟨k,r,p,v,cs,n,m,z,rfl,x.same s1,a.1,λl H2 t hl N=>?_⟩;refine zx (ns:=othA cs z) N #[4] λX f=>?_;obtain⟨H3,g,s,D⟩:=aU (.lst ((srtI (othA cs z)).map V.int)) f;rw[g];have i:=(s1.trans t).trans s;refine⟨X,rfl,⟨_,ST D⟩,?_⟩;refine ba (xs:=srtI (othA cs z)) (λo=>decide (((sgL (Sj.getD o.toNat 0)).length:Int)<=2)) (λo=>o) (by rw[rA];lia) (ST D) ?_ ?_ ?_
 . intro y d R F e k4;have j:=a.2 y (SJ.mp (srt_mem.mp F)).1;have u:Sj.getD y.toNat 0∈Sj:=by rw[List.getD,Sy #[4]];exact S9 _
   show tTest _ [none,⇑y,↑A] d R;exists ixI ((i.trans e) _ _ Y) j.1 j.2 ?_;exists⟨_,rfl,bitsA (w _ u).1 (w _ u).2,λU H5 M Z G=>?_⟩;symm;rw[aZ G,Sx];exists k4 _ M
 . intro y d J F hb e k4;show tVar 1 [none,⇑y,↑A] d J;exists k4 _ (SF _)
 . intro W d hW e B;rw[Ud]at B;have b:=(t.trans s).trans e;have P:=SV (λo=>decide (((sgL (Sj.getD o.toNat 0)).length:Int)<=2)) (srtI (othA cs z));rw[rA]at P;exact x9 (few:=fewA cs Sj z) (b _ _ L) B I (by unfold fewA;lia) (λo O=>(SJ.mp (srt_mem.mp (SJ.mp O).1)).1) (q.of (s1.trans b))
structure Tho where
 t:TK
 r:Int
 z:Int
 s:Int
 ms:∅
noncomputable def mtF (h w g:Int) (Sl:List RR) (Sj:∅) (t:TK) (r z s:Int):List ∅:=
 if t=.place then plaM g s else if t=.square then squM h w z else if t=.turn then turM h w z else match Sl[r.toNat]? with
  | none=>[[]]
  | some x=>if t=.only then onlM x.cs Sj z s else if t=.reach then reaM h w x.cs x.m Sj z s else if t=.pair then paiM x.cs Sj z else [[]]
structure Lk(H:Hp)(c:WY)(d:WZ)(P L G A:Addr)(h w g:Int)(Sl:List RR)(cl Sj:∅):Prop where
 P:IsPz H c d P L G h w g Sl cl
 A:H A=↥(Sj.map V.int)
 n:Sj.length=(h*w).toNat
 mm:∀ m∈Sj,0<=m/\m<2^g.toNat
variable{H':Hp}{d:WZ}{P L G A:Addr}{Sl:List RR}{cl Sj:∅}
def Lk.same(x:Lk H c d P L G A h w g Sl cl Sj)(s:Same H H'):Lk H' c d P L G A h w g Sl cl Sj:=⟨x.P.same s,s _ _ x.A,x.n,x.mm⟩
theorem dP(b:1<=g)(a:g<=6):(2:Int)^g.toNat<=64:=by
 have e:g=1\/g=2\/g=3\/g=4\/g=5\/g=6:=by lia
 rcases e with rfl | rfl | rfl | rfl | rfl | rfl <;> decide
def Lk.m64(x:Lk H c d P L G A h w g Sl cl Sj):∀ m∈Sj,0<=m/\m<64:=λm a=>by
 have:=dP x.P.R.F.g0 x.P.R.F.g1;have:=x.mm m a;omega
def kL(K:Frag)(c:WY)(d:WZ):Sp:=#[3,∃ P L G A h w g Sl cl Sj t r z s,vs=[.ref P,.ref A,.str (tx (tkC t)),.int r,.int z,.int s]/\Lk H c d P L G A h w g Sl cl Sj/\formB h w g Sl t r z s=true/\LLp Q H (mtF h w g Sl Sj t r z s)]
def gX(K:Frag)(c:WY)(d:WZ):TS:=#[":gomdrb2exy`0j,}ubhadktnF~l~mbhn0c3a1a4a5cpgomdrb2exy`1j,}vbha6adktnF~l~mbhn0c3a1a4a5cpgomdrb2exy`2j,}wbhadktnF~l~mbhn0c3a1a4cpjuaucc",s!"only",s!"reach",s!"pair"]
def kM(K:Frag)(c:WY)(d:WZ):TS:=#[":gltnF~j~kbhn0ci#6 gomdrb2exy`0j,}xba6a5cpgomdrb2exy`1j,}yba6a4cpgomdrb2exy`2j,}zba6a4cp}Abhn",s!"place",s!"square",s!"turn"]
variable{t:TK}{r:Int}
theorem FU(X:Lk H c d P L G A h w g Sl cl Sj)(hp:IsFl H p h w g)(f:formB h w g Sl t r z s=true)(n1:t≠.place)(n2:t≠.square)(U:t≠.turn)(q:LLp Q H (mtF h w g Sl Sj t r z s)):
  gX K c d (eD9 Q) [↑P,↑A,some (.str (tx (tkC t))),⇑r,⇑z,⇑s,↑p] H:=by
 obtain⟨dx,p0,rs,h1,h2,h3⟩:=X.P.ex;obtain⟨z0,z1,s0,T,Sw⟩:=bQ f;have hg:=X.P.R.F.g1;unfold mtF at q;rw[SS n1,SS n2,SS U]at q
 have C:t≠.clue->∃ y,0<=r/\Sl[r.toNat]? =some y/\goesB t y.k=true:=λZ=>by
  obtain⟨r0,y,m,o,hz⟩:=dZ Z Sw;exact⟨y,r0,m,o⟩
 unfold gX;rw[aK,aF];symm;rw[bF,Gw];by_cases e1:t=.only
 . subst e1;obtain⟨y,r0,m,o⟩:=C #[1];have O:=X.P.R.ok y (SH m);have v:aO y.cs Sj.length:=by rw[X.n];exact Vk O X.P.R.F
   rw[m]at q;rw[SB rfl];refine iteT ?_;refine methE (k:=.Puzzle) rfl X.P.ok h1 (by rfl) ?_;exists⟨P,L,G,h,w,g,Sl,cl,rfl,X.P,λl E i B D Y=>?_⟩;have u:Same H (upd H l (.lst (i.map V.ref))):=(SF H).laid B;generalize upd H l (.lst (i.map V.ref))=H1 at*;have I:=(SD.mp m).1;have N:=Y.len;have x:i[r.toNat]? =some i[r.toNat]:=Sy #[4];dsimp only;refine ixL Y.top (jj r0 x) ?_;exists⟨_,_,E,A,_,y.cs,Sj,_,_,z,s,rfl,Y.at_ _ _ _ x m,v,u _ _ X.A,by lia,q.of u⟩
 . rw[SE e1];refine iteF ?_;rw[aF];symm;rw[bF,xY];by_cases e2:t=.reach
   . subst e2;obtain⟨y,r0,m,o⟩:=C #[1];have O:=X.P.R.ok y (SH m);have ym:=(O.m0 (pX o)).2;have v:aO y.cs Sj.length:=by rw[X.n];exact Vk O X.P.R.F
     rw[m]at q;rw[SB rfl];refine iteT ?_;refine methE (k:=.Puzzle) rfl X.P.ok h1 (by rfl) ?_;exists⟨P,L,G,h,w,g,Sl,cl,rfl,X.P,λl E i B D Y=>?_⟩;have u:Same H (upd H l (.lst (i.map V.ref))):=(SF H).laid B;generalize upd H l (.lst (i.map V.ref))=H1 at*;have I:=(SD.mp m).1;have N:=Y.len;have x:i[r.toNat]? =some i[r.toNat]:=Sy #[4];dsimp only;refine ixL Y.top (jj r0 x) ?_;exists⟨_,p,_,E,A,_,y.cs,Sj,_,_,z,s,h,w,g,rfl,u _ _ hp,X.P.R.F,Y.at_ _ _ _ x m,v,RR.len26 O X.P.R.F,u _ _ X.A,by lia,q.of u⟩
   . rw[SE e2];refine iteF ?_;symm;rw[aF];symm;rw[bF,Mx];by_cases J:t=.pair
     . subst J;obtain⟨y,r0,m,o⟩:=C #[1];have O:=X.P.R.ok y (SH m);have v:aO y.cs Sj.length:=by rw[X.n];exact Vk O X.P.R.F
       have yk:allK y.k=false:=by revert o;cases y.k <;> intro o <;> first | rfl | (cases o;done)
       have M:y.cs.length<=16:=by
        obtain⟨_,W,_,_,e⟩:=O.cl.told yk;rw[e,Sx];exact W
       rw[m]at q;rw[SB rfl];refine iteT ?_;refine methE (k:=.Puzzle) rfl X.P.ok h1 (by rfl) ?_;exists⟨P,L,G,h,w,g,Sl,cl,rfl,X.P,λl E i B D Y=>?_⟩;have u:Same H (upd H l (.lst (i.map V.ref))):=(SF H).laid B;generalize upd H l (.lst (i.map V.ref))=H1 at*;have I:=(SD.mp m).1;have N:=Y.len;have x:i[r.toNat]? =some i[r.toNat]:=Sy #[4];dsimp only;refine ixL Y.top (jj r0 x) ?_;exists⟨_,_,E,A,_,y.cs,Sj,_,_,z,rfl,Y.at_ _ _ _ x m,v,M,u _ _ X.A,X.m64,q.of u⟩
     . rw[SE J]
       have q':LLp Q H [[]]:=by
        cases m:Sl[r.toNat]? with
        | none=>rw[m]at q;exact q
        | some y=>
         rw[m]at q;dsimp only at q;rw[SS e1,SS e2,SS J]at q;exact q
       refine iteF ?_;exists⟨aX #[1],λa S=>?_⟩;obtain⟨H1,z9,s1,e1⟩:∃ z,upd H a (.lst [])=z/\Same H z/\z a=↥(([]:∅).map V.int):=aU _ S;rw[z9];refine⟨lnR rfl,λl B=>?_⟩;have u:Same H1 (upd H1 l (.lst [V.ref a])):=(SF H1).laid B;refine q' l [a] _ (s1.trans u) (s1.free B) (λb hb=>by rw[SO.mp hb];exact S) ⟨aj,rfl,λj b xs h1 h2=>?_⟩
       cases j with
       | zero=>cases h1;cases h2;exact u _ _ e1
       | succ j=>simp at h1
theorem zA(h:kL K c d vs H Q E):kM K c d (eD9 Q) (start ["puzzle","masks","kind","number","cell","sign","floor"] vs) H:=by
 obtain⟨P,L,G,A,h,w,g,Sl,cl,Sj,t,r,z,s,rfl,X,f,q⟩:=h;obtain⟨e,i,rs,h1,h2,h3⟩:=X.P.ex;exists kM;refine methE (k:=.Puzzle) rfl X.P.ok h1 (by rfl) ?_;exists⟨P,L,G,h,w,g,Sl,cl,rfl,X.P,λp a=>?_⟩;symm;rw[aF];symm;rw[bF,Ee];by_cases e1:t=.place
 . subst e1;rw[SB rfl];unfold mtF at q;rw[SY rfl]at q;exists⟨p,h,w,g,s,rfl,a,X.P.R.F.g0,X.P.R.F.g1,q⟩
 . rw[SE e1];symm;rw[aF];symm;rw[bF,BH];by_cases e2:t=.square
   . subst e2;rw[SB rfl];unfold mtF at q;rw[SS #[1],SY rfl]at q;exists⟨p,h,w,g,z,rfl,a,X.P.R.F,q⟩
   . rw[SE e2];symm;rw[aF];symm;rw[bF,My];by_cases b:t=.turn
     . subst b;rw[SB rfl];unfold mtF at q;rw[SS #[1],SS #[1],SY rfl]at q;exists⟨p,h,w,g,z,rfl,a,X.P.R.F,q⟩
     . rw[SE b];exists FU X a f e1 e2 b q
def NQ:∀ ms∈mtF h w g Sl Sj t r z s,ms.length<=2:=λms b=>by
 unfold mtF at b
 split at b
 . unfold plaM at b;obtain⟨_,_,rfl⟩:=SL.mp b;simp
 . split at b
   . unfold squM at b;obtain⟨_,_,rfl⟩:=SL.mp b;simp
   . split at b
     . unfold turM at b;rcases SU.mp b with rfl | b
       . simp
       . obtain⟨_,_,rfl⟩:=SL.mp b;simp
     . split at b
       . rw[SO.mp b];simp
       . split at b
         . unfold onlM at b;obtain⟨_,_,rfl⟩:=SL.mp b;simp
         . split at b
           . unfold reaM at b
             split at b <;> (obtain⟨_,_,rfl⟩:=SL.mp b;simp)
           . split at b
             . unfold paiM at b;obtain⟨a,_,b⟩:=Uq.mp b;unfold paiR at b;obtain⟨_,_,rfl⟩:=SL.mp b;simp
             . rw[SO.mp b];simp
noncomputable def faF (h w g:Int) (Sl:List RR) (cl Sj:∅) (t:TK) (r z s:Int):Option ∅:=(mtF h w g Sl Sj t r z s).find? λms=>strA h w g Sl cl Sj t r z s ms
def qT(K:Frag)(c:WY)(d:WZ):Sp:=#[3,∃ P L G A h w g Sl cl Sj t r z s,vs=[.ref P,.ref A,.str (tx (tkC t)),.int r,.int z,.int s]/\Lk H c d P L G A h w g Sl cl Sj/\formB h w g Sl t r z s=true/\
 (faF h w g Sl cl Sj t r z s=none->∀ H',Same H H'->Q .non H')/\(∀(ms:∅) (T M:Addr) (H':Hp),faF h w g Sl cl Sj t r z s=some ms->Same H H'->H T=none->H M=none->IsTh H' T M t r z s ms->Q (.ref T) H')]
def qU(K:Frag)(c:WY)(d:WZ):TS:=#[":gIsb,}Bbhna0a1a2a3a4a5ci#6 glQa2a3a4a5a6ci#7 oz,}Cbhna0a1a7cj7pje:"]
theorem FV(h:qT K c d vs H Q E):qU K c d (eD9 Q) (start ["puzzle","masks","kind","number","cell","sign","more","thought"] vs) H:=by
 obtain⟨P,L,G,A,h,w,g,Sl,cl,Sj,t,r,z,s,rfl,X,f,O,R⟩:=h;exists qU;refine⟨P,L,G,A,h,w,g,Sl,cl,Sj,t,r,z,s,rfl,X,f,λl as H1 s1 hl fr Y=>?_⟩;have al:=Y.len;have ml:=NQ (h:=h) (w:=w) (g:=g) (Sl:=Sl) (Sj:=Sj) (t:=t) (r:=r) (z:=z) (s:=s);unfold faF at O R;generalize mtF h w g Sl Sj t r z s=Sr at*;refine⟨l,rfl,⟨_,ST Y.top⟩,?_⟩;refine bg (K:=K) (xs:=as.map V.ref) (λi σ H'=>∃(F B:Option V),σ=[↑P,↑A,some (.str (tx (tkC t))),⇑r,⇑z,⇑s,F,B]/\Same H1 H'/\∀ ms∈Sr.take i,strA h w g Sl cl Sj t r z s ms=false) ⟨none,none,rfl,SF H1,λms I=>by cases I⟩ (λi σ H' _ ⟨_,_,_,s,_⟩=>ST (s _ _ Y.top)) ?_ ?_
 . rintro i v σ e hv ⟨F,B,rfl,p,a⟩;obtain⟨b,M,rfl⟩:=bf hv;have hi:i<as.length:=(SD.mp M).1;have S:Sr[i]? =some Sr[i]:=Sy #[4];have J:=p _ _ (Y.at_ i b _ M S);have xl:=ml _ (S9 (show i<Sr.length by lia));have Z:Sr.take (i+1)=Sr.take i++[Sr[i]]:=by rw[T6,S];rfl
   have k:strA h w g Sl cl Sj t r z s Sr[i]=true->Sr.find? (λms=>strA h w g Sl cl Sj t r z s ms)=some Sr[i]:=λht=>by
    rw[VE];refine⟨ht,i,by lia,rfl,λj hj=>?_⟩;have:=a Sr[j] (by rw[List.mem_take_iff_getElem];exact⟨j,by lia,rfl⟩);rw[this];rfl
   generalize Sr[i]=ms at*;have C:=fr b (SH M);exists⟨lnR rfl,λT N=>?_⟩;have D:Same e (upd e T (.tup [V.str (tx (tkC t)),V.int r,V.int z,V.int s,V.ref b])):=(SF e).laid N;have W:IsTh (upd e T (.tup [V.str (tx (tkC t)),V.int r,V.int z,V.int s,V.ref b])) T b t r z s ms:=⟨aj,D _ _ J,by lia⟩;generalize upd e T (.tup [V.str (tx (tkC t)),V.int r,V.int z,V.int s,V.ref b])=H3 at*;have o:=s1.trans p;have q:=o.trans D;have U:=X.same q;rw[aF];exists⟨P,L,G,A,T,b,h,w,g,Sl,cl,Sj,t,r,z,s,ms,rfl,⟨U.P,W,U.A,X.n⟩,X.m64,f,λH4 x=>?_⟩
   cases u:strA h w g Sl cl Sj t r z s ms with
   | true=>
    refine⟨true,rfl,iteT ?_⟩;exists R ms T b H4 (k u) (q.trans x) (o.free N) C (W.same x)
   | false=>
    refine⟨false,rfl,iteF ?_⟩;refine⟨_,_,rfl,(p.trans D).trans x,λy m=>?_⟩;rw[Z]at m;rcases SX.mp m with m | m
    . exact a y m
    . rw[SO.mp m];exact u
 . rintro σ e ⟨F,B,rfl,p,a⟩;rw[Sx,al,TH]at a;exists O (Wf.mpr λms I=>by rw[a ms I];exact SR) e (s1.trans p)
def rnF(Sl:List RR)(t:TK):∅:=if t=.clue then [0] else((List.range Sl.length).filter λi=>goesB t ((Sl[i]?.map RR.k).getD .Rule)).map λ(i:Nat)=>(i:Int)
def kN(K:Frag)(c:WY)(d:WZ):Sp:=#[3,∃ P L G h w g Sl cl t,vs=[.ref P,.str (tx (tkC t))]/\IsPz H c d P L G h w g Sl cl/\∀ l H',Same H H'->H l=none->H' l=↥((rnF Sl t).map V.int)->Q (.ref l) H']
def kO(K:Frag)(c:WY)(d:WZ):TS:=#[":gomdrb1exy`0juaef#0 cpjv&---1 'gbatnF~l~mbhn0cc~hb#2 Si#1 Si#2 ~iz,}Dbha3a2c1",s!"clue"]
theorem zB(h:kN K c d vs H Q E):kO K c d (eD9 Q) (start ["puzzle","kind"] vs) H:=by
 obtain⟨P,L,G,h,w,g,Sl,cl,t,rfl,X,q⟩:=h;obtain⟨J,D,rs,h1,h2,h3⟩:=X.ex;have F:=X.R.n;ac_nf;unfold kO;rw[aK,aF];symm;rw[bF,AT];unfold rnF at q;by_cases f:t=.clue
 . rw[SY f]at q;rw[SB f];exists⟨lnR rfl,λl m=>q l _ ((SF H).laid m) m aj⟩
 . rw[SS f]at q;rw[SE f];symm
   first
   | refine methE (k:=.Puzzle) rfl X.ok h1 (by rfl) ?_
   | (rw[aA];exists methE (k:=.Puzzle) rfl X.ok h1 (by rfl) ?_)
   exists⟨P,L,G,h,w,g,Sl,cl,rfl,X,λl B a m z Y=>?_⟩;have s:Same H (upd H l (.lst (a.map V.ref))):=(SF H).laid m;generalize upd H l (.lst (a.map V.ref))=H1 at*;have y:=Y.len;exists⟨l,rfl,⟨_,ST Y.top⟩,?_⟩;refine sX (xs:=a.map V.ref) (λi=>goesB t ((Sl[i]?.map RR.k).getD .Rule)) (λi=>.int (i:Int)) (by rw[Sx];lia) #[1] (ST Y.top) ?_ ?_ ?_
   . intro i x e R p j k3;obtain⟨b,o,rfl⟩:=bf p;have I:i<a.length:=(SD.mp o).1;have r:Sl[i]? =some Sl[i]:=Sy #[4];have v:=(Y.at_ i b _ o r).same j;rw[r]at k3;show tB _ [none,⇑(i:Int),↑b,some (.str (tx (tkC t)))] e R;exists⟨t,Sl[i].k,b,B,_,_,_,_,rfl,f,v,_,rfl,k3 _ (SF _)⟩
   . intro i x e C p o j k3;obtain⟨b,o,rfl⟩:=bf p;show tVar 1 [none,⇑(i:Int),↑b,some (.str (tx (tkC t)))] e C;exists k3 _ (SF _)
   . intro T e A j u;rw[Sx,y]at u;refine q T e (s.trans j) (s.free A) ?_;rw[u,Te];rfl
def celF(h w:Int)(Sl:List RR)(t:TK)(r:Int):∅:=if t=.clue then rngL 0 (h*w) else match Sl[r.toNat]? with
 | none=>[]
 | some x=>srtI x.cs
def kP(K:Frag)(c:WY)(d:WZ):Sp:=#[3,∃ P L G h w g Sl cl t r,vs=[.ref P,.str (tx (tkC t)),.int r]/\IsPz H c d P L G h w g Sl cl/\(t≠.clue->0<=r/\r<Sl.length)/\∀ l H',Same H H'->H l=none->H' l=↥((celF h w Sl t r).map V.int)->Q (.ref l) H']
def kQ(K:Frag)(c:WY)(d:WZ):TS:=#[":gomdrb1exy`0j~;a,~bbatnF~j~kbhn0cccpjq~JathE~u~vbhdktnF~l~mbhn0c2cc",s!"clue"]
theorem zC(h:kP K c d vs H Q E):kQ K c d (eD9 Q) (start ["puzzle","kind","number"] vs) H:=by
 obtain⟨P,L,G,h,w,g,Sl,cl,t,r,rfl,X,M,q⟩:=h;obtain⟨dx,p0,rs,h1,h2,h3⟩:=X.ex;have F:=X.R.F;have T:=F.m;have x:0<=h*w:=Ul (by have:=F.h0;lia) (by have:=F.w0;lia);ac_nf;unfold kQ;rw[aK,aF];symm;rw[bF,AT];unfold celF at q;by_cases e:t=.clue
 . rw[SY e]at q;rw[SB e];exists methE (k:=.Puzzle) rfl X.ok h1 (by rfl) ?_;exists⟨P,L,G,h,w,g,Sl,cl,rfl,X,λp N=>?_⟩;exists⟨p,h,w,g,rfl,N,F.h0,F.h1,?_⟩;exact⟨h*w,rfl,by lia,by lia,λl i=>q l _ ((SF H).laid i) i aj⟩
 . obtain⟨r0,r1⟩:=M e;have j:Sl[r.toNat]? =some Sl[r.toNat]:=Sy #[4];rw[SS e,j]at q;have O:=X.R.ok _ (SH j);have yl:=RR.len26 O F;rw[SE e];symm
   first
   | refine methE (k:=.Puzzle) rfl X.ok h1 (by rfl) ?_
   | (rw[aA];exists methE (k:=.Puzzle) rfl X.ok h1 (by rfl) ?_)
   exists⟨P,L,G,h,w,g,Sl,cl,rfl,X,λl D a i B Y=>?_⟩;have u:Same H (upd H l (.lst (a.map V.ref))):=(SF H).laid i;generalize upd H l (.lst (a.map V.ref))=H1 at*;have W:=Y.len;have v:a[r.toNat]? =some a[r.toNat]:=Sy #[4];have y:=Y.at_ _ _ _ v j;generalize a[r.toNat]=b at*;obtain⟨z,Wy,Cy,J,Z,y3⟩:=y.ex;dsimp only;refine ixL Y.top (jj r0 v) ?_;refine⟨b,Sl[r.toNat].k,z,_,rfl,y.ok,J,by rfl,?_⟩;exists⟨b,D,_,_,_,_,rfl,y,λl2 n=>?_⟩;obtain⟨C,I,s,S⟩:=aU (.lst (Sl[r.toNat].cs.map V.int)) n;rw[I];refine zx S #[4] λU f=>?_;have A:=(u.trans s).trans ((SF C).laid (o:=.lst ((srtI Sl[r.toNat].cs).map V.int)) f);exact q U _ A ((u.trans s).free f) aj
structure IsBk(H:Hp)(l:Addr)(bs Ms:List Addr)(Ss:List Tho):Prop where
 top:H l=↥(bs.map V.ref)
 len:bs.length=Ss.length
 lnM:Ms.length=Ss.length
 nl:l∉Ms
 at_:∀(i:Nat) (b M:Addr) (th:Tho),bs[i]? =some b->Ms[i]? =some M->Ss[i]? =some th->IsTh H b M th.t th.r th.z th.s th.ms
variable{l:Addr}{Ms:List Addr}{Ss:List Tho}
def IsBk.same{bs:List Addr}(x:IsBk H l bs Ms Ss)(s:Same H H'):IsBk H' l bs Ms Ss:=⟨s _ _ x.top,x.len,x.lnM,x.nl,λi b M a h1 h2 h3=>(x.at_ i b M a h1 h2 h3).same s⟩
def IsBk.nil(h:H l=some (.lst [])):IsBk H l [] [] []:=⟨h,rfl,rfl,by simp,λi b M a e _ _=>by simp at e⟩
theorem IsBk.app{T M:Addr}{bs:List Addr}{th:Tho}(x:IsBk H l bs Ms Ss)(s:Same H H')(y:IsTh H' T M th.t th.r th.z th.s th.ms)(f:M≠l):IsBk (upd H' l (.lst (bs.map V.ref++[V.ref T]))) l (bs++[T]) (Ms++[M]) (Ss++[th]):=by
 have e:=s _ _ x.top;have d:∀{b N:Addr} {t:Tho},IsTh H' b N t.t t.r t.z t.s t.ms->N≠l->IsTh (upd H' l (.lst (bs.map V.ref++[V.ref T]))) b N t.t t.r t.z t.s t.ms:=λz g=>⟨by rw[ap (λc=>by have:=z.T;rw[c,e]at this;cases this)];exact z.T,by rw[ap g];exact z.M,z.n⟩;have k:=x.len;have h:=x.lnM;refine⟨by rw[aj];simp,by simp[k],by simp[h],λa=>?_,λi b N t h1 h2 h3=>?_⟩
 . rcases SX.mp a with a | a
   . exact x.nl a
   . exact f (SO.mp a).symm
 . by_cases m:i<Ss.length
   . rw[Tn #[4]]at h1;rw[Tn #[4]]at h2;rw[Tn m]at h3;exact d ((x.at_ i b N t h1 h2 h3).same s) λc=>x.nl (by rw[← c];exact SH h2)
   . rw[Tp #[4]]at h1 h2 h3;have j:i-Ss.length=0:=by have:=(SD.mp h3).1;simp at this;lia
     rw[j]at h3;rw[show i-bs.length=0 by lia]at h1;rw[show i-Ms.length=0 by lia]at h2;cases h1;cases h2;cases h3;exact d y f
def BkP(Q:VK)(H:Hp)(Ss:List Tho):Prop:=∀(l:Addr) (a Ms:List Addr) (H':Hp),Same H H'->H l=none->(∀ b∈a,H b=none)->(∀ M∈Ms,H M=none)->IsBk H' l a Ms Ss->Q (.ref l) H'
def BkP.of(q:BkP Q H Ss)(s:Same H H1):BkP Q H1 Ss:=λl a Ms H' e c f d x=>q l a Ms H' (s.trans e) (s.free c) (λb h=>s.free (f b h)) (λb h=>s.free (d b h)) x
structure MkP(g:Int)(n:Nat)(ms:∅):Prop where
 len:ms.length=n
 mm:∀ m∈ms,0<=m/\m<2^g.toNat
theorem Mz:((List.range 64).all λm=>(List.range 6).all λs=>decide (0<=woI (m:Int) (1+(s:Int))/\woI (m:Int) (1+(s:Int))<=m)&&((List.range 6).all λx=>decide (x=s)||decide (stB (woI (m:Int) (1+(s:Int))) (1+(x:Int))=stB (m:Int) (1+(x:Int))))&&(!stB (m:Int) (1+(s:Int))||decide ((sgL (woI (m:Int) (1+(s:Int)))).length+1=(sgL (m:Int)).length)))=true:=by decide+kernel
theorem rB(d:0<=m)(b:m<64)(s0:1<=s)(c:s<=6):(0<=woI m s/\woI m s<=m)/\(∀ x,1<=x->x<=6->x≠s->stB (woI m s) x=stB m x)/\(stB m s=true->(sgL (woI m s)).length+1=(sgL m).length):=by
 have t:=SK.mp (SK.mp Mz m.toNat (SQ.mpr #[4])) (s-1).toNat (SQ.mpr #[4]);rw[show((m.toNat:Nat):Int)=m by lia,show 1+(((s-1).toNat:Nat):Int)=s by lia,SA,SA]at t;refine⟨SG t.1.1,λx f g e=>?_,λa=>?_⟩
 . have:=SK.mp t.1.2 (x-1).toNat (SQ.mpr #[4]);rw[show 1+(((x-1).toNat:Nat):Int)=x by lia,SE #[4],TY]at this;exact SG this
 . have:=t.2;rw[a,UL,TY]at this;exact SG this
theorem MA:((List.range 7).all λg=>(List.range 64).all λm=>!decide ((m:Int)<2^g)||(sgL (m:Int)).all λx=>decide (1<=x/\x<=(g:Int)))=true:=by decide+kernel
theorem rC(b:1<=g)(c:g<=6)(e:0<=m)(a:m<2^g.toNat)(d:x∈sgL m):1<=x/\x<=g:=by
 have p:=dP b c;have t:=SK.mp (SK.mp MA g.toNat (SQ.mpr #[4])) m.toNat (SQ.mpr #[4]);rw[show((m.toNat:Nat):Int)=m by lia,SB a,UL,TY]at t;have:=SG (SK.mp t x d);lia
variable{ms:∅}
theorem u7{k:Nat}(a:k<ms.length):(stL ms z s).getD k 0=if (k:Int)=z then woI (ms.getD k 0) s else ms.getD k 0:=by
 unfold stL;rw[List.getD,SI,Tz a];rfl
theorem A4:(stL ms z s).length=ms.length:=by unfold stL;rw[Sx,TW]
theorem aT{k:Nat}(a:k<ms.length):ms.getD k 0∈ms:=by rw[List.getD,Sy a];exact S9 _
variable{n:Nat}
theorem MkP.stL(X:MkP g n ms)(d:1<=g)(e:g<=6)(s0:1<=s)(c:s<=6):MkP g n (stL ms z s):=by
 have p:=dP d e;refine⟨by rw[A4];exact X.len,λm a=>?_⟩;unfold L2.stL at a;obtain⟨i,f,rfl⟩:=SL.mp a;have b:=X.mm _ (aT (SQ.mp f))
 split
 . have:=(rB (s:=s) b.1 #[4] s0 c).1;lia
 . exact b
def Lk.mkp(x:Lk H c d P L G A h w g Sl cl Sj):MkP g (h*w).toNat Sj:=⟨x.n,x.mm⟩
def RuOk(Sl:List RR)(t:TK)(r:Int):Prop:=(t=.clue->r=0)/\(t≠.clue->0<=r/\∃ x,Sl[r.toNat]? =some x/\goesB t x.k=true)
theorem LF(h:r∈rnF Sl t):RuOk Sl t r:=by
 unfold rnF at h;by_cases a:t=.clue
 . rw[SY a]at h;exact⟨λ_=>SO.mp h,λn=>absurd a n⟩
 . rw[SS a]at h;obtain⟨i,b,rfl⟩:=SL.mp h;obtain⟨b,c⟩:=SJ.mp b;have d:=SQ.mp b;have e:Sl[i]? =some Sl[i]:=Sy d;refine⟨λn=>absurd n a,λ_=>⟨by lia,Sl[i],by rw[TC];exact e,?_⟩⟩;rw[e]at c;exact c
theorem EB(R:b9 c h w g Sl)(i:RuOk Sl t r)(e:z∈celF h w Sl t r)(s0:1<=s)(s1:s<=g):formB h w g Sl t r z s=true:=by
 have a:(0<=z/\z<h*w)/\hitB t Sl r z=true:=by
  unfold celF at e;unfold hitB;by_cases b:t=.clue
  . rw[SY b]at e;rw[i.1 b,SS #[1],SY b];exact⟨wg e,rfl⟩
  . obtain⟨r0,x,f,j⟩:=i.2 b;rw[SS b,f]at e;have d:=srt_mem.mp e;have k:=(Vk (R.ok x (SH f)) R.F).2 z d;rw[SS #[4],SS b,f];refine⟨by lia,?_⟩;dsimp only;rw[j,SB d];rfl
 unfold formB;rw[SB a.1.1,SB a.1.2,SB s0,SB s1,a.2];rfl
noncomputable def fbS (h w g:Int) (Sl:List RR) (cl:∅) (t:TK) (r z:Int) (nb:∅ × List Tho) (s:Int):∅ × List Tho:=match faF h w g Sl cl nb.1 t r z s with
 | none=>nb
 | some ms=>(stL nb.1 z s,nb.2++[⟨t,r,z,s,ms⟩])
noncomputable def fbC (h w g:Int) (Sl:List RR) (cl:∅) (t:TK) (r:Int) (nb:∅ × List Tho) (z:Int):∅ × List Tho:=(sgL (nb.1.getD z.toNat 0)).foldl (fbS h w g Sl cl t r z) nb
noncomputable def fbL (h w g:Int) (Sl:List RR) (cl:∅) (t:TK) (r:Int):∅->∅ × List Tho->List Tho
 | [],nb=>nb.2
 | z::zs,nb=>if 0∈(fbC h w g Sl cl t r nb z).1 then(fbC h w g Sl cl t r nb z).2 else fbL h w g Sl cl t r zs (fbC h w g Sl cl t r nb z)
noncomputable def fbF (h w g:Int) (Sl:List RR) (cl Sj:∅) (t:TK) (r:Int):List Tho:=fbL h w g Sl cl t r (celF h w Sl t r) (Sj,[])
variable{nb:∅ × List Tho}
theorem NR(X:MkP g n nb.1)(a:1<=g)(b:g<=6)(s0:1<=s)(c:s<=6):MkP g n (fbS h w g Sl cl t r z nb s).1:=by
 unfold fbS
 split
 . exact X
 . exact X.stL a b s0 c
def jE(K:Frag)(c:WY)(d:WZ):Sp:=#[3,∃ P L G A h w g Sl cl Sj t r,vs=[.ref P,.ref A,.str (tx (tkC t)),.int r]/\Lk H c d P L G A h w g Sl cl Sj/\RuOk Sl t r/\BkP Q H (fbF h w g Sl cl Sj t r)]
def fbin(K:Frag)(c:WY)(d:WZ):TS:=#[":Isb,-badk46ci#7 gl,}Ebhna0a4a2a3a6a7ci#8 omd'I8e:gTGbMW5a8cl,'Jba4a6a7ci#4 p"]
def jF(K:Frag)(c:WY)(d:WZ):TS:=#[":glqYa1ci#4 gluci#5 gIsb,}Fbhna0a2a3ci#6 g}Gbhnoz,~Iba4cj5pj5"]
structure Fb(H0 H:Hp)(c:WY)(d:WZ)(P L G N B:Addr)(bs Ms:List Addr)(h w g:Int)(Sl:List RR)(cl:∅)(nb:∅ × List Tho):Prop where
 sm:Same H0 H
 pz:IsPz H0 c d P L G h w g Sl cl
 nw:H N=↥(nb.1.map V.int)
 mp:MkP g (h*w).toNat nb.1
 bk:IsBk H B bs Ms nb.2
 nB:N≠B
 fB:H0 B=none
 fb:∀ b∈bs,H0 b=none
 fM:∀ M∈Ms,H0 M=none
variable{H0:Hp}{B:Addr}
def Fb.same{N:Addr}{bs:List Addr}(X:Fb H0 H c d P L G N B bs Ms h w g Sl cl nb)(t:Same H H'):Fb H0 H' c d P L G N B bs Ms h w g Sl cl nb:=⟨X.sm.trans t,X.pz,t _ _ X.nw,X.mp,X.bk.same t,X.nB,X.fB,X.fb,X.fM⟩
def Fb.lk{N:Addr}{bs:List Addr}(X:Fb H0 H c d P L G N B bs Ms h w g Sl cl nb):Lk H c d P L G N h w g Sl cl nb.1:=⟨X.pz.same X.sm,X.nw,X.mp.len,X.mp.mm⟩
variable{i:Nat}
theorem JQ{α:Type}{f:α->Int->α}{x:α}{ss:∅}(e:ss[i]? =some s):(ss.take (i+1)).foldl f x=f ((ss.take i).foldl f x) s:=by
 rw[T6,e,TX];rfl
theorem MC:(fbS h w g Sl cl t r z nb s).2.length<=nb.2.length+1:=by
 unfold fbS
 split
 . lia
 . simp
theorem EC(b:0<=m)(a:m<64):(sgL m).length<=6:=by
 have t:=SG (SK.mp xZ m.toNat (SQ.mpr #[4]));rw[show((m.toNat:Nat):Int)=m by lia]at t;unfold sgL;rw[Sx];refine SW (SV _ _) ?_;rw[TW];exact t
variable{D:Ends}{v8:Option V}
theorem K5 {N:Addr} {bs:List Addr} {u:Option V} (X:Fb H0 H c d P L G N B bs Ms h w g Sl cl nb) (ok:RuOk Sl t r) (hz:z∈celF h w Sl t r) (bl:nb.2.length<=800) {C:Addr} {cs:∅} (eC:H C=↥(cs.map V.int)) (ac:C≠B)
  (k:∀(n:Addr) (a j:List Addr) (u v8:Option V) (H':Hp),Fb H0 H' c d P L G n B a j h w g Sl cl (fbC h w g Sl cl t r nb z)->H' C=↥(cs.map V.int)->(fbC h w g Sl cl t r nb z).2.length<=nb.2.length+6->D.nx [↑P,↑A,some (.str (tx (tkC t))),⇑r,↑n,↑B,⇑z,u,v8] H'):
  fbin K c d D [↑P,↑A,some (.str (tx (tkC t))),⇑r,↑N,↑B,⇑z,u,v8] H:=by
 have Q:=X.pz.R.F.g0;have g6:=X.pz.R.F.g1;have ae:=dP Q g6;have zf:=bQ (EB (s:=1) X.pz.R ok hz #[1] Q);have nl:=X.mp.len;have Y:=X.mp.mm _ (aT (k:=z.toNat) (ms:=nb.1) #[4]);have sb:∀ s∈sgL (nb.1.getD z.toNat 0),1<=s/\s<=g:=λs I=>rC Q g6 Y.1 Y.2 I;have af:=EC Y.1 #[4];unfold fbin;exists ixI X.nw zf.1 #[4] ?_;symm;unfold fbC at k;refine⟨_,rfl,bitsA Y.1 #[4],λS H1 s1 hS eS=>?_⟩;generalize sgL (nb.1.getD z.toNat 0)=ss at*;refine⟨S,rfl,⟨_,ST eS⟩,?_⟩
 refine bg (K:=K) (xs:=ss.map V.int) (λi σ H'=>∃(n:Addr) (a j:List Addr) (u v8:Option V),σ=[↑P,↑A,some (.str (tx (tkC t))),⇑r,↑n,↑B,⇑z,u,v8]/\Fb H0 H' c d P L G n B a j h w g Sl cl ((ss.take i).foldl (fbS h w g Sl cl t r z) nb)/\H' S=↥(ss.map V.int)/\H' C=↥(cs.map V.int)/\((ss.take i).foldl (fbS h w g Sl cl t r z) nb).2.length<=nb.2.length+i)
  ⟨N,bs,Ms,_,_,rfl,X.same s1,eS,s1 _ _ eC,SZ _⟩ (λi σ H' _ ⟨_,_,_,_,_,_,_,e,_⟩=>ST e) ?_ ?_
 . rintro i v σ H2 hv ⟨n,a,j,u,v8,rfl,l,y,q,l2⟩;obtain⟨s,I,rfl⟩:=aL hv;have hi:i<ss.length:=(SD.mp I).1;have sm:=sb s (SH I);rw[JQ I];generalize (ss.take i).foldl (fbS h w g Sl cl t r z) nb=n2 at*;have f:=EB (s:=s) X.pz.R ok hz sm.1 sm.2;have l3:=MC (h:=h) (w:=w) (g:=g) (Sl:=Sl) (cl:=cl) (t:=t) (r:=r) (z:=z) (s:=s) (nb:=n2);have o3:=NR (h:=h) (w:=w) (Sl:=Sl) (cl:=cl) (t:=t) (r:=r) (z:=z) l.mp Q g6 sm.1 #[4];exists⟨P,L,G,n,h,w,g,Sl,cl,n2.1,t,r,z,s,rfl,l.lk,f,λe J x=>?_,λms T M J e x hT hM Th=>?_⟩
   . have e2:fbS h w g Sl cl t r z n2 s=n2:=by unfold fbS;rw[e]
     rw[e2];symm;rw[aF];exists⟨n,a,j,_,_,rfl,l.same x,x _ _ y,x _ _ q,by lia⟩
   . have e2:fbS h w g Sl cl t r z n2 s=(stL n2.1 z s,n2.2++[⟨t,r,z,s,ms⟩]):=by unfold fbS;rw[e]
     rw[e2]at l3 o3;rw[e2];have W:=l.same x;have ab:M≠B:=λE=>by rw[E,l.bk.top]at hM;cases hM
     have b2:=l.bk.len;have ad:S≠B:=λE=>by rw[E,X.bk.top]at hS;cases hS
     symm;rw[aF];symm;rw[SE (λE=>by cases E)];exists⟨br W.bk.top,?_⟩;rw[fV W.bk.top];refine⟨by rw[Sx];exact aH #[4],?_⟩;have Bk:=l.bk.app (th:=⟨t,r,z,s,ms⟩) x Th ab;have s4:=W.sm.own (o:=.lst (a.map V.ref++[V.ref T])) X.fB;have n4:(upd J B (.lst (a.map V.ref++[V.ref T]))) n=↥(n2.1.map V.int):=by rw[ap l.nB];exact W.nw
     have S4:(upd J B (.lst (a.map V.ref++[V.ref T]))) S=↥(ss.map V.int):=by rw[ap ad];exact x _ _ y
     have C4:(upd J B (.lst (a.map V.ref++[V.ref T]))) C=↥(cs.map V.int):=by rw[ap ac];exact x _ _ q
     generalize upd J B (.lst (a.map V.ref++[V.ref T]))=H4 at*;exists⟨n,n2.1,z,s,rfl,n4,by have:=l.mp.len;have:=X.pz.R.F.m;lia,by lia,λN3 H5 U O Z=>?_⟩;refine⟨N3,a++[T],j++[M],_,_,rfl,⟨s4.trans U,X.pz,Z,o3,Bk.same U,λE=>?_,X.fB,λb p=>?_,λb p=>?_⟩,U _ _ S4,U _ _ C4,SW l3 #[4]⟩
     . rw[E,Bk.top]at O;cases O
     . rcases SX.mp p with p | p
       . exact l.fb b p
       . rw[SO.mp p];exact l.sm.free hT
     . rcases SX.mp p with p | p
       . exact l.fM b p
       . rw[SO.mp p];exact l.sm.free hM
 . rintro σ H2 ⟨n,a,j,u,v8,rfl,l,y,q,l2⟩;rw[Sx,TH]at l l2;exact k n a j u v8 H2 l q #[4]
theorem MD(R:b9 c h w g Sl):(celF h w Sl t r).length<=60:=by
 have:=R.F.m;unfold celF
 split
 . rw[dI];lia
 . split
   . simp
   . rename_i x e
     rw[rA];exact RR.len26 (R.ok x (SH e)) R.F
theorem ya(h:jE K c d vs H Q E):jF K c d (eD9 Q) (start ["puzzle","masks","kind","number","now","book","cell","sign","thought"] vs) H:=by
 obtain⟨P,L,G,A,h,w,g,Sl,cl,Sj,t,r,rfl,X,Y,q⟩:=h;ac_nf;have ab:=MD (t:=t) (r:=r) X.P.R;unfold jF;exists iW X.A λN hN=>?_;obtain⟨H1,z9,s1,I⟩:=aU (.lst (Sj.map V.int)) hN;rw[z9];exists⟨aX #[1],λB D=>?_⟩;have Z:Same H1 (upd H1 B (.lst [])):=(SF H1).laid D;have eB:(upd H1 B (.lst [])) B=some (.lst []):=aj;have J:N≠B:=λe=>by rw[e]at I;rw[I]at D;cases D
 generalize upd H1 B (.lst [])=H2 at*;have m:=s1.trans Z;have X0:Fb H H2 c d P L G N B [] [] h w g Sl cl (Sj,[]):=⟨m,X.P,Z _ _ I,X.mkp,IsBk.nil eB,J,s1.free D,(λb T=>by cases T),(λb T=>by cases T)⟩;refine⟨P,L,G,h,w,g,Sl,cl,t,r,rfl,X.P.same m,λhc=>?_,λC H3 s3 hC eC=>?_⟩
 . obtain⟨r0,x,ex,_⟩:=Y.2 hc;have:=(SD.mp ex).1;lia
 . have O:C≠B:=λe=>by rw[e,eB]at hC;cases hC
   unfold fbF at q;have ac:∀ z∈celF h w Sl t r,z∈celF h w Sl t r:=λz o=>o;generalize U:celF h w Sl t r=cs at*;refine⟨C,rfl,⟨_,ST eC⟩,?_⟩
   refine bg (K:=K) (xs:=cs.map V.int) (λi σ H'=>∃(F:Addr) (a f:List Addr) (M y v8:Option V) (nb:∅ × List Tho),σ=[↑P,↑A,some (.str (tx (tkC t))),⇑r,↑F,↑B,M,y,v8]/\Fb H H' c d P L G F B a f h w g Sl cl nb/\H' C=↥(cs.map V.int)/\fbL h w g Sl cl t r cs (Sj,[])=fbL h w g Sl cl t r (cs.drop i) nb/\nb.2.length<=6*i)
    ⟨N,[],[],none,none,none,(Sj,[]),rfl,X0.same s3,eC,rfl,SZ _⟩ (λi σ H' _ ⟨_,_,_,_,_,_,_,_,_,e,_⟩=>ST e) ?_ ?_
   . rintro i v σ W hv ⟨F,a,f,M,y,v8,nb,rfl,k,u,s,bl⟩;obtain⟨z,o,rfl⟩:=aL hv;have hi:i<cs.length:=(SD.mp o).1;have zm:z∈celF h w Sl t r:=by rw[U];exact SH o
     have ed:cs.drop i=z::cs.drop (i+1):=by
      rw[Up hi]
      congr 1
      exact(SD.mp o).2
     rw[ed]at s;exists K5 k Y zm #[4] u O λN3 p n y v8 H5 l S l5=>?_;have j:fbL h w g Sl cl t r cs (Sj,[])=if 0∈(fbC h w g Sl cl t r nb z).1 then(fbC h w g Sl cl t r nb z).2 else fbL h w g Sl cl t r (cs.drop (i+1)) (fbC h w g Sl cl t r nb z):=s;generalize fbC h w g Sl cl t r nb z=n5 at*;symm;rw[aF];exists⟨N3,n5.1,rfl,l.nw,?_⟩;by_cases h0:(0:Int)∈n5.1
     . rw[SY h0]at j;rw[SB h0];refine⟨true,rfl,iteT ?_⟩;symm;rw[j]at q;exact q B p n H5 l.sm l.fB l.fb l.fM l.bk
     . rw[SS h0]at j;rw[SE h0];refine⟨false,rfl,iteF ?_⟩;exact⟨N3,p,n,_,_,_,n5,rfl,l,S,j,by lia⟩
   . rintro σ W ⟨F,a,f,M,y,v8,nb,rfl,k,u,s,bl⟩;rw[Sx,VG]at s;symm;rw[s]at q;exact q B a f W k.sm k.fB k.fb k.fM k.bk
theorem Same.sqt{xs:List V}(e:Same H H')(h:SqT K H a xs):SqT K H' a xs:=by
 rcases h with (h | ⟨o,h⟩) | h
 . exact .inl (.inl (e _ _ h))
 . exact .inl (.inr ⟨o,e _ _ h⟩)
 . exact .inr h
theorem BS {k:Nat} {m:TT} {fin:Addr->Hp->Prop} {xs:List Str} (b:Str->Bool) (C:xs.length<=900) (s:SqT K H1 a (xs.map V.str))
  (A:∀ x H R,x∈xs->Same H1 H->(∀ H',Same H H'->R (b x) H')->m (σ0.set k (some (.str x))) H R)
  (t:∀ x H Q,x∈xs->b x=true->Same H1 H->(∀ H',Same H H'->Q (.str x) H')->te (σ0.set k (some (.str x))) H Q)
  (y:∀ l H,H1 l=none->Same H1 H->H l=↥((xs.filter b).map V.str)->fin l H):CompR (Itt K a) (gName k) m te fin σ0 H1:=by
 refine DR (xs:=xs.map V.str) (λl i σ H=>(σ=σ0\/∃ q,σ=σ0.set k q)/\Same H1 H/\H l=↥(((xs.take i).filter b).map V.str)) (λl d=>⟨.inl rfl,(SF H1).laid d,by rw[aj];rfl⟩) (λl i σ H _ _ p=>p.2.1.sqt s) ?_ (λl σ H d p=>y l H d p.2.1 (by have:=p.2.2;rw[Sx,TH]at this;exact this));rintro l i x σ H d r ⟨u,s1,w⟩;rw[SI]at r;obtain⟨z,g,rfl⟩:=Ub.mp r;have D:i<xs.length:=(SD.mp g).1;have j:xs.take (i+1)=xs.take i++[z]:=by rw[T6,g];rfl
 rw[be]
 have e:σ.set k (some (.str z))=σ0.set k (some (.str z)):=by
  rcases u with rfl | ⟨q,rfl⟩
  . rfl
  . exact Uc ..
 rw[e];refine A z H _ (SH g) s1 λv o=>?_;have f:=o _ _ w;have c:=s1.trans o
 cases h:b z with
 | false=>
  rw[SS SR];refine⟨.inr ⟨_,rfl⟩,c,?_⟩;rw[j,Tm,Tk,h]
  simpa using f
 | true=>
  rw[SY rfl];refine t z v _ (SH g) h c λB n=>⟨_,n _ _ f,?_,.inr ⟨_,rfl⟩,(c.trans n).own d,?_⟩
  . rw[Sx];exact aH (SW (SV _ _) (by rw[Tx];lia))
  . rw[aj,j,Tm,Tk,h];simp
def dBk(th:Tho):PyData:=dTh th.t th.r th.z th.s th.ms
theorem LG{bs:List Addr}(x:IsBk H l bs Ms Ss):DV K H (.ref l) (.list (Ss.map dBk)):=by
 have g:=x.len;have f:=x.lnM;refine .lst (ST x.top) (DVs.of_get (by simp[x.len]) λi y d h1 h2=>?_);obtain⟨a,c,rfl⟩:=bf h1;rw[SI]at h2;obtain⟨e,b,rfl⟩:=Ub.mp h2;have h:i<Ss.length:=(SD.mp b).1;exact OC (x.at_ i a _ e c (Sy #[4]) b)
theorem GJ(t:TK)(r z s:Int)(ms:∅):PyData.canLay0 (dTh t r z s ms)=true/\PyData.depth (dTh t r z s ms)<=2:=by
 have a:PyData.strOk (tx (tkC t))=true:=Hm (by cases t <;> decide);unfold dTh;simp[PyData.canLay0,PyData.canLayAll0,a,or,PyData.depth,PyData.depthAll,jW]
theorem pZ(Ss:List Tho):SeqAt.shaped (.list (Ss.map dBk))=true:=by
 have h1:PyData.canLayAll0 (Ss.map dBk)=true:=rf λd a=>by obtain⟨x,_,rfl⟩:=SL.mp a;exact(GJ _ _ _ _ _).1
 have h2:PyData.depthAll (Ss.map dBk)<=2:=pF λd a=>by obtain⟨x,_,rfl⟩:=SL.mp a;exact(GJ _ _ _ _ _).2
 simp[SeqAt.shaped,PyData.canLay0,h1,PyData.depth];lia
theorem GK(Ss:List Tho):PyData.eqv (.list (Ss.map dBk)) (.list [])=decide (Ss.length=0):=by
 cases Ss <;> simp[PyData.eqv,PyData.eqvAll]
theorem JR{E:Addr}{bs:List Addr}(x:IsBk H l bs Ms Ss)(e:H E=some (.lst []))(q:Q (.bl (!decide (Ss.length=0))) H):cNe K (.ref l) (.ref E) H Q:=by
 show rNeD K (.ref l) (.ref E) H Q;refine⟨_,.list [],LG x,.lst (ST e) .nil,pZ Ss,pZ [],?_⟩;rw[GK];exact q
theorem NS{E:Addr}{bs:List Addr}(x:IsBk H l bs Ms Ss)(e:H E=some (.lst []))(q:Q (.bl (decide (Ss.length=0))) H):cEq K (.ref l) (.ref E) H Q:=by
 show rEqD K (.ref l) (.ref E) H Q;refine⟨_,.list [],LG x,.lst (ST e) .nil,pZ Ss,pZ [],?_⟩;rw[GK];exact q
abbrev txk(t:TK):Str:=tx (tkC t)
def allT:List TK:=[.clue,.only,.place,.count,.step,.sum,.square,.reach,.turn,.pair,.ways]
theorem nU:gt_KINDS=allT.map txk:=by decide+kernel
theorem ME{a b:TK}:decide (txk a=txk b)=decide (a=b):=by cases a <;> cases b <;> decide+kernel
variable{ks:List TK}
theorem MF:decide (txk t∈ks.map txk)=decide (t∈ks):=by
 rw[Tb,Sz,Sz,SL];constructor
 . rintro⟨a,c,e⟩;have:=ME (a:=a) (b:=t);rw[SB e]at this;exact(SG this.symm) ▸ c
 . exact λh=>⟨t,h,rfl⟩
noncomputable def ffR (h w g:Int) (Sl:List RR) (cl Sj:∅) (t:TK):∅->List Tho
 | []=>[]
 | r::rs=>if (fbF h w g Sl cl Sj t r).length=0 then ffR h w g Sl cl Sj t rs else fbF h w g Sl cl Sj t r
noncomputable def ffT (h w g:Int) (Sl:List RR) (cl Sj:∅):List TK->List Tho
 | []=>[]
 | t::ts=>if (ffR h w g Sl cl Sj t (rnF Sl t)).length=0 then ffT h w g Sl cl Sj ts else ffR h w g Sl cl Sj t (rnF Sl t)
noncomputable def ffF (h w g:Int) (Sl:List RR) (cl Sj:∅) (ks:List TK):List Tho:=ffT h w g Sl cl Sj (allT.filter λt=>decide (t∈ks))
def KdL(H:Hp)(a:Addr)(ks:List TK):Prop:=H a=↥((ks.map txk).map V.str)
def KdK(K:Frag)(H:Hp)(a:Addr)(ks:List TK):Prop:=KdL H a ks\/SqT K H a ((ks.map txk).map V.str)
def KdK.same{b:Addr}(x:KdK K H b ks)(s:Same H H'):KdK K H' b ks:=x.elim (λa=>.inl (s _ _ a)) (λa=>.inr (s.sqt a))
theorem OE{b:Addr}{x:Str}(h:KdK K H b ks)(q:Q (.bl (decide (x∈ks.map txk))) H):rIn K false (.str x) (.ref b) H Q:=by
 refine⟨b,(ks.map txk).map V.str,rfl,h.elim (λa=>.inl (ST a)) .inr,rfl,mD _,?_⟩;rw[oy];exact q
def ik(K:Frag)(c:WY)(d:WZ):Sp:=#[3,∃ P L G A a h w g Sl cl Sj ks,vs=[.ref P,.ref A,.ref a]/\Lk H c d P L G A h w g Sl cl Sj/\KdK K H a ks/\BkP Q H (ffF h w g Sl cl Sj ks)]
def ffin(K:Frag)(c:WY)(d:WZ):TS:=#[":Isb,}Hbhna0a3ci#4 gl,}Ibhna0a1a3a4ci#5 omdDb5ucj5p"]
def lU(K:Frag)(c:WY)(d:WZ):TS:=#[":gIsbv&--2 ~Nb'ib~Zi#1 md}JbB121i#3 }Kbhnjuc"]
variable{v5:Option V}
theorem MG {f:Option V} (X:Lk H c d P L G A h w g Sl cl Sj)
  (k1:(ffR h w g Sl cl Sj t (rnF Sl t)).length=0->∀(f v5:Option V) (H':Hp),Same H H'->D.nx [↑P,↑A,v2,some (.str (txk t)),f,v5] H')
  (k2:¬ (ffR h w g Sl cl Sj t (rnF Sl t)).length=0->BkP D.rt H (ffR h w g Sl cl Sj t (rnF Sl t))):
  ffin K c d D [↑P,↑A,v2,some (.str (txk t)),f,v5] H:=by
 unfold ffin;exists⟨P,L,G,h,w,g,Sl,cl,t,rfl,X.P,λR H1 s1 U p=>?_⟩;have o:∀ r∈rnF Sl t,RuOk Sl t r:=λr k=>LF k;generalize rnF Sl t=rs at*;refine⟨R,rfl,⟨_,ST p⟩,?_⟩;refine bg (K:=K) (xs:=rs.map V.int) (λi σ H'=>∃(f v5:Option V),σ=[↑P,↑A,v2,some (.str (txk t)),f,v5]/\Same H1 H'/\ffR h w g Sl cl Sj t rs=ffR h w g Sl cl Sj t (rs.drop i)) ⟨_,_,rfl,SF H1,rfl⟩ (λi σ H' _ ⟨_,_,_,s,_⟩=>ST (s _ _ p)) ?_ ?_
 . rintro i v σ u N ⟨f,v5,rfl,m,l⟩;obtain⟨r,k,rfl⟩:=aL N;have O:i<rs.length:=(SD.mp k).1
   have y:rs.drop i=r::rs.drop (i+1):=by
    rw[Up O]
    congr 1
    exact(SD.mp k).2
   rw[y]at l;have e:ffR h w g Sl cl Sj t rs=if (fbF h w g Sl cl Sj t r).length=0 then ffR h w g Sl cl Sj t (rs.drop (i+1)) else fbF h w g Sl cl Sj t r:=l;have a:=s1.trans m;exists⟨P,L,G,A,h,w,g,Sl,cl,Sj,t,r,rfl,X.same a,o r (SH k),λB F Ms T C z S Q q=>?_⟩;symm;rw[aF];exists⟨aX #[1],λE J=>?_⟩;obtain⟨x,I,n,M⟩:=aU (.lst []) J;rw[I];have j:=C.trans n;refine JR (q.same n) M ?_;by_cases h0:(fbF h w g Sl cl Sj t r).length=0
   . rw[SY h0]at e;rw[SB h0];refine⟨_,rfl,iteF ?_⟩;exact⟨_,_,rfl,m.trans j,e⟩
   . rw[SS h0]at e;rw[SE h0];refine⟨_,rfl,iteT ?_⟩;exists k2 (by rw[e];exact h0) B F Ms x (a.trans j) (a.free z) (λb h=>a.free (S b h)) (λb h=>a.free (Q b h)) ?_;rw[e];exact q.same n
 . rintro σ u ⟨f,v5,rfl,m,l⟩;rw[Sx,VG]at l;exact k1 (by rw[l];rfl) f v5 u (s1.trans m)
theorem A5(h:ik K c d vs H Q E):lU K c d (eD9 Q) (start ["puzzle","masks","kinds","kind","number","found"] vs) H:=by
 obtain⟨P,L,G,A,o,h,w,g,Sl,cl,Sj,ks,rfl,X,M,q⟩:=h;exists lU;rw[AH,K3];intro p r;refine⟨p,rfl,⟨_,r⟩,?_⟩;rw[nU]at r;refine BS (xs:=allT.map txk) (λx=>decide (x∈ks.map txk)) #[1] r ?_ ?_ ?_
 . intro x H1 R O s1 k1;show tTest _ [none,some (.str x),↑o] H1 R;exists OE (M.same s1) ⟨_,rfl,k1 _ (SF _)⟩
 . intro x H1 D O l s1 k1;show tVar 1 [none,some (.str x),↑o] H1 D;exists k1 _ (SF _)
 . intro S H1 U s1 n
   have e:((allT.map txk).filter λx=>decide (x∈ks.map txk))=(allT.filter λt=>decide (t∈ks)).map txk:=by
    rw[Ux];refine congrArg _ (Wo λt _=>?_);exact MF
   rw[e]at n;unfold ffF at q;generalize (allT.filter λt=>decide (t∈ks))=ts at*;refine⟨S,rfl,⟨_,ST n⟩,?_⟩;refine bg (K:=K) (xs:=(ts.map txk).map V.str) (λi σ H'=>∃(m j v5:Option V),σ=[↑P,↑A,↑o,m,j,v5]/\Same H1 H'/\ffT h w g Sl cl Sj ts=ffT h w g Sl cl Sj (ts.drop i)) ⟨_,_,_,rfl,SF H1,rfl⟩ (λi σ H' _ ⟨_,_,_,_,s,_⟩=>ST (s _ _ n)) ?_ ?_
   . rintro i v σ y B ⟨m,j,v5,rfl,k,e⟩;rw[SI,SI]at B;obtain⟨u,F,rfl⟩:=Ub.mp B;obtain⟨t,C,rfl⟩:=Ub.mp F;have N:i<ts.length:=(SD.mp C).1
     have I:ts.drop i=t::ts.drop (i+1):=by
      rw[Up N]
      congr 1
      exact(SD.mp C).2
     rw[I]at e;have a:ffT h w g Sl cl Sj ts=if (ffR h w g Sl cl Sj t (rnF Sl t)).length=0 then ffT h w g Sl cl Sj (ts.drop (i+1)) else ffR h w g Sl cl Sj t (rnF Sl t):=e;have f:=s1.trans k;exists MG (X.same f) (λh0 j v5 T J=>?_) (λh0=>?_)
     . rw[SY h0]at a;exact⟨_,_,_,rfl,k.trans J,a⟩
     . rw[SS h0]at a;rw[a]at q;exact q.of f
   . rintro σ y ⟨m,j,v5,rfl,k,e⟩;rw[Sx,Sx,VG]at e;rw[e]at q;exists⟨aX #[1],λE z=>?_⟩;exact(q.of (s1.trans k)) E [] [] _ ((SF y).laid z) z (λb l=>by cases l) (λb l=>by cases l) (IsBk.nil aj)
noncomputable def ntF (h w g:Int) (Sl:List RR) (cl Sj:∅) (ks:List TK):Option Tho:=if 0∈Sj then none else(ffF h w g Sl cl Sj ks).head?
def kR(K:Frag)(c:WY)(d:WZ):Sp:=#[3,∃ P L G A b h w g Sl cl Sj ks,vs=[.ref P,.ref A,.ref b]/\Lk H c d P L G A h w g Sl cl Sj/\KdK K H b ks/\
 (ntF h w g Sl cl Sj ks=none->∀ H',Same H H'->Q .non H')/\∀(a:Tho) (T M:Addr) (H':Hp),ntF h w g Sl cl Sj ks=some a->Same H H'->H T=none->H M=none->IsTh H' T M a.t a.r a.z a.s a.ms->Q (.ref T) H']
def gY(K:Frag)(c:WY)(d:WZ):TS:=#[":j~amdDb3ucdk3ef#0 e:"]
def kS(K:Frag)(c:WY)(d:WZ):TS:=#[":gl~aPz,~Iba1c,'Kbhna0a1a2cuci#3 }Lbhn"]
theorem zD{bs:List Addr}{m:Option V}(X:IsBk H B bs Ms Ss)(f:Ss=[]->∀ H',Same H H'->Q .non H')(h:∀ th r b M H',Ss=th::r->Same H H'->b∈bs->M∈Ms->IsTh H' b M th.t th.r th.z th.s th.ms->Q (.ref b) H'):
  gY K c d (eD9 Q) [m,v1,v2,↑B] H:=by
 unfold gY;exists⟨aX #[1],λE k=>?_⟩;obtain⟨o,g,e,l⟩:=aU (.lst []) k;rw[g];have a:=X.same e;refine JR a l ?_
 match Ss,a with
 | [],a=>
  rw[SB (show([]:List Tho).length=0 from rfl)];refine⟨_,rfl,iteF ?_⟩;exact f rfl _ e
 | th::r,a=>
  rw[SE (by simp)];refine⟨_,rfl,iteT ?_⟩;have n:=a.len;have i:=a.lnM;rw[S2]at n i;have e1:bs[0]? =some bs[0]:=Sy #[4];have e2:Ms[0]? =some Ms[0]:=Sy #[4];refine ixL a.top (v:=V.ref bs[0]) (fw (j:=0) (by rw[SI,e1];rfl)) ?_;exact h th r bs[0] Ms[0] _ rfl e (S9 _) (S9 _) (a.at_ 0 _ _ th e1 e2 rfl)
theorem zE(h:kR K c d vs H Q E):kS K c d (eD9 Q) (start ["puzzle","masks","kinds","found"] vs) H:=by
 obtain⟨P,L,G,A,n,h,w,g,Sl,cl,Sj,ks,rfl,X,p,a,k⟩:=h;exists kS;refine⟨A,Sj,rfl,X.A,?_⟩;unfold ntF at a k;by_cases h0:(0:Int)∈Sj
 . rw[SY h0]at a;rw[SB h0];refine⟨true,rfl,iteF ?_⟩;refine⟨aX #[1],λB l=>?_⟩;obtain⟨H1,s,s1,v⟩:=aU (.lst []) l;rw[s];exact zD (IsBk.nil v) (λ_ H' f=>a rfl H' (s1.trans f)) (λm r b M H' e=>by cases e)
 . rw[SS h0]at a k;rw[SE h0];refine⟨false,rfl,iteT ?_⟩;refine⟨P,L,G,A,n,h,w,g,Sl,cl,Sj,ks,rfl,X,p,λB x Ms H1 s1 l t o u=>?_⟩;refine zD u (λe H' f=>a (by rw[e];rfl) H' (s1.trans f)) (λm r b M H' e f i j q=>?_);exact k m b M H' (by rw[e];rfl) (s1.trans f) (t b i) (o M j) q
def OkT(h w g:Int)(Sl:List RR)(cl:∅)(ks:List TK)(m:∅)(th:Tho):Prop:=0∉m/\th.t∈ks/\(0<=th.z/\th.z<h*w)/\(1<=th.s/\th.s<=g)/\stB (m.getD th.z.toNat 0) th.s=true/\alwA h w g Sl cl m th.t th.r th.z th.s th.ms=true
def Wlk(h w g:Int)(Sl:List RR)(cl:∅)(ks:List TK):∅->List Tho->∅->Prop
 | m,[],m'=>m=m'
 | m,th::r,m'=>OkT h w g Sl cl ks m th/\Wlk h w g Sl cl ks (stL m th.z th.s) r m'
theorem Wlk.trans{h w g:Int}{Sl:List RR}{cl:∅}{ks:List TK}:∀{a b:List Tho} {m c d:∅},Wlk h w g Sl cl ks m a c->Wlk h w g Sl cl ks c b d->Wlk h w g Sl cl ks m (a++b) d
 | [],_,_,_,_,h1,h2=>by cases (show _=_ from h1);exact h2
 | _::_,_,_,_,_,h1,h2=>⟨h1.1,Wlk.trans h1.2 h2⟩
def Wlk.snoc{a:List Tho}{m b:∅}{th:Tho}(h1:Wlk h w g Sl cl ks m a b)(h2:OkT h w g Sl cl ks b th):Wlk h w g Sl cl ks m (a++[th]) (stL b th.z th.s):=h1.trans ⟨h2,rfl⟩
theorem K6:stB 0 s=false:=by
 unfold stB;rw[show Builtin.Int.intBits 0=0 from rfl]
 cases h1:decide (1<=s) with
 | false=>rfl
 | true=>
  have:=SG h1;rw[SE (show ¬ s<=((0:Nat):Int) by lia)];rfl
theorem NT(f:formB h w g Sl t r z s=true)(e:faF h w g Sl cl Sj t r z s=some ms):alwA h w g Sl cl Sj t r z s ms=true:=by
 unfold alwA;rw[f,S7];unfold faF at e;exact WH e
theorem yb{h w g:Int}{Sl:List RR}{cl:∅}{ks:List TK}{t:TK}{r z:Int}{n:Nat}{q:∅}(b:1<=g)(d:g<=6)(m:t∈ks)(v:n=(h*w).toNat)(f:∀ s,1<=s->s<=g->formB h w g Sl t r z s=true):
  ∀(ss:∅) (nb:∅ × List Tho),ss.Nodup->(∀ s∈ss,(1<=s/\s<=g)/\stB (nb.1.getD z.toNat 0) s=true)->MkP g n nb.1->(∀ k,k<n->(k:Int)≠z->nb.1.getD k 0≠0)->Wlk h w g Sl cl ks q nb.2 nb.1->
  Wlk h w g Sl cl ks q (ss.foldl (fbS h w g Sl cl t r z) nb).2 (ss.foldl (fbS h w g Sl cl t r z) nb).1/\MkP g n (ss.foldl (fbS h w g Sl cl t r z) nb).1
 | [],nb,_,_,M,_,W=>⟨W,M⟩
 | s::ss,nb,nd,hs,M,nz,W=>by
  have A:=dP b d;have h1:=hs s SN;have u:=bQ (f 1 #[1] b);have C:=M.len;have B:=M.mm _ (aT (k:=z.toNat) (ms:=nb.1) #[4]);rw[Ty]at nd;rw[Ti]
  have l:(0:Int)∉nb.1:=λh0=>by
   obtain⟨k,o,e⟩:=Us.mp h0;have p:nb.1.getD k 0=0:=by rw[List.getD,Sy o,e];rfl
   by_cases c:(k:Int)=z
   . have:z.toNat=k:=by lia
     rw[this,p,K6]at h1;cases h1.2
   . exact nz k #[4] c p
  have j:=rB (s:=s) B.1 #[4] h1.1.1 #[4]
  cases e:faF h w g Sl cl nb.1 t r z s with
  | none=>
   have e2:fbS h w g Sl cl t r z nb s=nb:=by unfold fbS;rw[e]
   rw[e2];exact yb b d m v f ss nb nd.2 (λx i=>hs x (SM _ i)) M nz W
  | some ms=>
   have e2:fbS h w g Sl cl t r z nb s=(stL nb.1 z s,nb.2++[⟨t,r,z,s,ms⟩]):=by unfold fbS;rw[e]
   rw[e2];refine yb b d m v f ss _ nd.2 (λx i=>?_) (M.stL b d h1.1.1 #[4]) (λk o c=>?_) ?_
   . have a:=hs x (SM _ i);refine⟨a.1,?_⟩;show stB ((stL nb.1 z s).getD z.toNat 0) x=true;rw[u7 #[4],SY #[4],j.2.1 x a.1.1 #[4] (λy=>nd.1 (y ▸ i))];exact a.2
   . show(stL nb.1 z s).getD k 0≠0;rw[u7 #[4],SS c];exact nz k o c
   . exact W.snoc (th:=⟨t,r,z,s,ms⟩) ⟨l,m,⟨u.1,u.2.1⟩,h1.1,h1.2,NT (f s h1.1.1 h1.1.2) e⟩
theorem ED{h w g:Int}{Sl:List RR}{cl:∅}{ks:List TK}{t:TK}{r:Int}{n:Nat}{j:∅}(a:1<=g)(b:g<=6)(o:t∈ks)(l:n=(h*w).toNat):
  ∀(zs:∅) (nb:∅ × List Tho),(∀ z∈zs,∀ s,1<=s->s<=g->formB h w g Sl t r z s=true)->0∉nb.1->MkP g n nb.1->Wlk h w g Sl cl ks j nb.2 nb.1->∃ m',Wlk h w g Sl cl ks j (fbL h w g Sl cl t r zs nb) m'
 | [],nb,_,_,_,W=>⟨_,W⟩
 | z::zs,nb,f,h0,M,W=>by
  have u:=bQ (f z SN 1 #[1] a);have v:=M.len;have q:=dP a b;have i:=M.mm _ (aT (k:=z.toNat) (ms:=nb.1) #[4]);have c:=yb (cl:=cl) a b o l (f z SN) (sgL (nb.1.getD z.toNat 0)) nb (rz _) (λs m=>⟨rC a b i.1 i.2 m,(cp i.1 s).mp m⟩) M (λk x _ e=>h0 (by rw[← e];exact aT #[4])) W;unfold fbL
  split
  . exact⟨_,c.1⟩
  . rename_i d
    exact ED a b o l zs _ (λz p=>f z (SM _ p)) d c.2 c.1
theorem EE{c:WY}{h w g:Int}{Sl:List RR}{cl:∅}{ks:List TK}{t:TK}{Sj:∅}(R:b9 c h w g Sl)(a:t∈ks)(M:MkP g (h*w).toNat Sj)(h0:0∉Sj):∀ rs:∅,(∀ r∈rs,RuOk Sl t r)->∃ m',Wlk h w g Sl cl ks Sj (ffR h w g Sl cl Sj t rs) m'
 | [],_=>⟨_,rfl⟩
 | r::rs,ok=>by
  unfold ffR
  split
  . exact EE R a M h0 rs λr b=>ok r (SM _ b)
  . exact ED R.F.g0 R.F.g1 a rfl _ (Sj,[]) (λz d s s0 s1=>EB R (ok r SN) d s0 s1) h0 M rfl
theorem EF(R:b9 c h w g Sl)(M:MkP g (h*w).toNat Sj)(h0:0∉Sj):∃ m',Wlk h w g Sl cl ks Sj (ffF h w g Sl cl Sj ks) m':=by
 have e:∀ ts:List TK,(∀ t∈ts,t∈ks)->∃ m',Wlk h w g Sl cl ks Sj (ffT h w g Sl cl Sj ts) m':=λts=>by
  induction ts with
  | nil=>exact λ_=>⟨_,rfl⟩
  | cons t ts b=>
   intro a;unfold ffT
   split
   . exact b λt h=>a t (SM _ h)
   . exact EE R (a t SN) M h0 _ λr d=>LF d
 exact e _ λt a=>SG (SJ.mp a).2
def btA(ms:∅):Nat:=(ms.map λm=>(sgL m).length).sum
theorem EG(f:Int->Nat):∀(ms:∅) (k:Nat) (x:Int),k<ms.length->((ms.set k x).map f).sum+f (ms.getD k 0)=(ms.map f).sum+f x
 | [],_,_,h=>by simp at h
 | m::r,0,x,_=>by simp;lia
 | m::r,k+1,x,h=>by
  have a:=EG f r k x (by simpa using h);simp only[List.set_cons_succ,S6,Ua,List.getD_cons_succ];lia
theorem MH(b:0<=z):stL ms z s=ms.set z.toNat (woI (ms.getD z.toNat 0) s):=by
 refine T5 λi=>?_;unfold stL;rw[SI,List.getElem?_set];by_cases a:i<ms.length
 . rw[Tz a];show some (if (i:Int)=z then woI (ms.getD i 0) s else ms.getD i 0)=_;by_cases e:z.toNat=i
   . rw[SY #[4],SY e,SY #[4],e]
   . rw[SS #[4],SS e,List.getD,Sy a];rfl
 . rw[S0 (by rw[TW];lia)]
   split
   . rw[SS #[4]];rfl
   . rw[S0 #[4]];rfl
theorem OkT.bits{m:∅}{th:Tho}(X:OkT h w g Sl cl ks m th)(M:MkP g (h*w).toNat m)(e:1<=g)(f:g<=6):btA (stL m th.z th.s)+1=btA m:=by
 obtain⟨_,_,z,s,c,_⟩:=X;have d:=dP e f;have j:=M.len;have i:=M.mm _ (aT (k:=th.z.toNat) (ms:=m) #[4]);have a:=(rB (s:=th.s) i.1 #[4] s.1 #[4]).2.2 c;have b:=EG (λm=>(sgL m).length) m th.z.toNat (woI (m.getD th.z.toNat 0) th.s) #[4];unfold btA;rw[MH z.1]
 try dsimp only at b
 lia
abbrev runA(m:∅)(Ss:List Tho):∅:=Ss.foldl (λm a=>stL m a.z a.s) m
theorem Wlk.run{h w g:Int}{Sl:List RR}{cl:∅}{ks:List TK}:∀{a:List Tho} {m m':∅},Wlk h w g Sl cl ks m a m'->m'=runA m a
 | [],_,_,h=>(show _=_ from h).symm
 | th::r,m,m',h=>Wlk.run (a:=r) h.2
theorem Wlk.pre{h w g:Int}{Sl:List RR}{cl:∅}{ks:List TK}:∀{a b:List Tho} {m m':∅},Wlk h w g Sl cl ks m (a++b) m'->Wlk h w g Sl cl ks m a (runA m a)/\Wlk h w g Sl cl ks (runA m a) b m'
 | [],_,_,_,h=>⟨rfl,h⟩
 | th::r,b,m,m',h=>⟨⟨h.1,(Wlk.pre (a:=r) h.2).1⟩,(Wlk.pre (a:=r) h.2).2⟩
theorem Wlk.okM{h w g:Int}{Sl:List RR}{cl:∅}{ks:List TK}(d:1<=g)(c:g<=6):∀{a:List Tho} {m m':∅},Wlk h w g Sl cl ks m a m'->MkP g (h*w).toNat m->MkP g (h*w).toNat m'/\btA m'+a.length=btA m
 | [],_,_,h,M=>by cases (show _=_ from h);exact⟨M,by simp⟩
 | th::r,m,m',h,M=>by
  have s:=h.1.2.2.2.1;have b:=h.1.bits M d c;have:=Wlk.okM d c (a:=r) h.2 (M.stL d c s.1 #[4]);refine⟨this.1,?_⟩;rw[S2];lia
theorem NU(j:1<=g)(k:g<=6)(M:MkP g n ms)(l:n<=16):btA ms<=96:=by
 have h:=dP j k
 have i:∀ xs:∅,(∀ m∈xs,0<=m/\m<64)->btA xs<=6*xs.length:=λxs=>by
  induction xs with
  | nil=>exact λ_=>SZ _
  | cons x r f=>
   intro e;have a:=f λm d=>e m (SM _ d);have b:=e x SN;have c:=EC b.1 b.2;unfold btA at a ⊢;rw[S6,Ua,S2];lia
 have:=i ms λm d=>by have:=M.mm m d;lia
 have:=M.len;lia
inductive Go(h w g:Int)(Sl:List RR)(cl:∅)(ks:List TK)(m0:∅):List Tho->∅->Prop
 | nil:Go h w g Sl cl ks m0 [] m0
 | step {b:List Tho} {m:∅}:Go h w g Sl cl ks m0 b m->0∉m->ffF h w g Sl cl m ks≠[]->Go h w g Sl cl ks m0 (b++ffF h w g Sl cl m ks) (runA m (ffF h w g Sl cl m ks))
inductive ThR(h w g:Int)(Sl:List RR)(cl:∅)(ks:List TK):∅->List Tho->∅->Prop
 | stop {m:∅}:(0∈m\/ffF h w g Sl cl m ks=[])->ThR h w g Sl cl ks m [] m
 | go {m:∅} {r:List Tho} {x:∅}:0∉m->ffF h w g Sl cl m ks≠[]->ThR h w g Sl cl ks (runA m (ffF h w g Sl cl m ks)) r x->ThR h w g Sl cl ks m (ffF h w g Sl cl m ks++r) x
variable{b:List Tho}{m0:∅}
theorem Go.th{m:∅}(a:Go h w g Sl cl ks m0 b m):∀{r:List Tho} {x:∅},ThR h w g Sl cl ks m r x->ThR h w g Sl cl ks m0 (b++r) x:=by
 induction a with
 | nil=>exact λt=>t
 | step a n f c=>
  intro r x t;rw[TJ];exact c (.go n f t)
theorem ThR.det{m:∅}{a:List Tho}{x:∅}(t:ThR h w g Sl cl ks m a x):∀{b:List Tho} {y:∅},ThR h w g Sl cl ks m b y->a=b/\x=y:=by
 induction t with
 | stop e=>
  intro b y u
  cases u with
  | stop _=>exact⟨rfl,rfl⟩
  | go n f _=>exact absurd e (λe=>e.elim n f)
 | go n f _ c=>
  intro b y u
  cases u with
  | stop e=>exact absurd e (λe=>e.elim n f)
  | go _ _ u=>
   obtain⟨e1,e2⟩:=c u;exact⟨by rw[e1],e2⟩
abbrev End(h w g:Int)(Sl:List RR)(cl:∅)(ks:List TK)(m:∅):Prop:=0∈m\/ffF h w g Sl cl m ks=[]
theorem Go.full{m:∅}(a:Go h w g Sl cl ks m0 b m)(e:End h w g Sl cl ks m):ThR h w g Sl cl ks m0 b m:=by
 have:=a.th (.stop e);rw[Vn]at this;exact this
def IsBk.keep{x:Addr}{bs:List Addr}{xs ys:List V}(X:IsBk H l bs Ms Ss)(g:H x=↥xs)(d:l≠x)(f:x∉Ms):IsBk (upd H x (.lst ys)) l bs Ms Ss:=
 ⟨by rw[ap d];exact X.top,X.len,X.lnM,X.nl,λi b M c h1 h2 h3=>by
  have z:=X.at_ i b M c h1 h2 h3;have a:M≠x:=λe=>f (by rw[← e];exact SH h2);exact⟨by rw[ap (λe=>by have:=z.T;rw[e,g]at this;cases this)];exact z.T,by rw[ap a];exact z.M,z.n⟩⟩
def ThkP(Q:VK)(H:Hp)(h w g:Int)(Sl:List RR)(cl Sj:∅)(ks:List TK):Prop:=∀(T N B:Addr) (c Ms:List Addr) (a:∅) (Ss:List Tho) (H':Hp),Same H H'->H T=none->H N=none->H B=none->(∀ b∈c,H b=none)->(∀ M∈Ms,H M=none)->H' T=some (.tup [.ref N,.ref B])->H' N=↥(a.map V.int)->IsBk H' B c Ms Ss->N≠B->Wlk h w g Sl cl ks Sj Ss a->(0∈a\/ffF h w g Sl cl a ks=[])->ThR h w g Sl cl ks Sj Ss a->Q (.ref T) H'
def yc(K:Frag)(c:WY)(d:WZ):Sp:=#[3,∃ P L G A a h w g Sl cl Sj ks,vs=[.ref P,.ref A,.ref a]/\Lk H c d P L G A h w g Sl cl Sj/\KdK K H a ks/\ThkP Q H h w g Sl cl Sj ks]
def thin(K:Frag)(c:WY)(d:WZ):TS:=#[":Isb5i#6 gTGbMW4a6cl,'Jba3adk6ef#2 adk6ef#3 ci#3 "]
def yd(K:Frag)(c:WY)(d:WZ):TS:=#[":glqYa1ci#3 gluci#4 g'BPz,~Iba3cgl,'Kbhna0a3a2ci#5 gomdrb5ucjQa3a4cp}MbhnjQa3a4c"]
theorem MI {N F:Addr} {bs f a:List Addr} {Ss m':_} {p:Option V} (X:Fb H0 H c d P L G N B bs Ms h w g Sl cl nb) (fN:H0 N=none) (Y:IsBk H F f a Ss) (nF:F≠B) (nM:B∉a) (O:∀ b∈f,H0 b=none) (I:∀ M∈a,H0 M=none) (W:Wlk h w g Sl cl ks nb.1 Ss m') (bl:nb.2.length+Ss.length<=96)
  (k:∀(n:Addr) (p:Option V) (H':Hp),Fb H0 H' c d P L G n B (bs++f) (Ms++a) h w g Sl cl (m',nb.2++Ss)->H0 n=none->D.nx [↑P,v1,v2,↑n,↑B,↑F,p] H'):
  thin K c d D [↑P,v1,v2,↑N,↑B,↑F,p] H:=by
 have g0:=X.pz.R.F.g0;have g6:=X.pz.R.F.g1;have ac:=X.pz.R.F.m;have l1:=Y.len;have l2:=Y.lnM;unfold thin;exists⟨⟨_,ST Y.top⟩,?_⟩
 refine bg (K:=K) (xs:=f.map V.ref) (λi σ H'=>∃(n:Addr) (p:Option V),σ=[↑P,v1,v2,↑n,↑B,↑F,p]/\Fb H0 H' c d P L G n B (bs++f.take i) (Ms++a.take i) h w g Sl cl (runA nb.1 (Ss.take i),nb.2++Ss.take i)/\H0 n=none/\IsBk H' F f a Ss)
  ⟨N,_,rfl,by simpa using X,fN,Y⟩ (λi σ H' _ ⟨_,_,_,_,_,y⟩=>ST y.top) ?_ ?_
 . rintro i v σ H1 hv ⟨n,p,rfl,j,r,U⟩;obtain⟨b,u,rfl⟩:=bf hv;have hi:i<f.length:=(SD.mp u).1;have C:a[i]? =some a[i]:=Sy #[4];have E:Ss[i]? =some Ss[i]:=Sy #[4];have Th:=U.at_ i b _ _ u C E;have t:a[i]∈a:=S9 _;have tb:f.take (i+1)=f.take i++[b]:=by rw[T6,u];rfl
   have tM:a.take (i+1)=a.take i++[a[i]]:=by rw[T6,C];rfl
   have tt:Ss.take (i+1)=Ss.take i++[Ss[i]]:=by rw[T6,E];rfl
   have W1:Wlk h w g Sl cl ks nb.1 (Ss.take i++Ss.drop i) m':=by rw[Ue];exact W
   have W2:=W1.pre.2;rw[Up (show i<Ss.length by lia)]at W2;have ok:=W2.1;have Q:=j.mp;dsimp only at Q;have tl:(Ss.take i).length<=Ss.length:=by rw[Tx];lia
   generalize hM:a[i]=M at*;generalize ab:Ss[i]=th at*;rw[tb,tM,tt];have er:runA nb.1 (Ss.take i++[th])=stL (runA nb.1 (Ss.take i)) th.z th.s:=by unfold runA;rw[TX];rfl
   rw[er];generalize runA nb.1 (Ss.take i)=nw at*;have MB:M≠B:=λe=>nM (e ▸ t);have Z:=j.bk.len;rw[Ta]at Z;exists⟨br j.bk.top,?_⟩;rw[fV j.bk.top];refine⟨by rw[Sx,j.bk.len,Ta];exact aH #[4],?_⟩;have Bk:=j.bk.app (th:=th) (SF H1) Th MB;have s4:=j.sm.own (o:=.lst ((bs++f.take i).map V.ref++[V.ref b])) X.fB;have n4:(upd H1 B (.lst ((bs++f.take i).map V.ref++[V.ref b]))) n=↥(nw.map V.int):=by rw[ap j.nB];exact j.nw
   have Y4:=U.keep (ys:=(bs++f.take i).map V.ref++[V.ref b]) j.bk.top nF nM;have A:=Y4.at_ i b M th u (by rw[C]) (by rw[E]);generalize upd H1 B (.lst ((bs++f.take i).map V.ref++[V.ref b]))=H4 at*;exists ixT A.T (v:=V.int th.z) rfl ?_;exists ixT A.T (v:=V.int th.s) rfl ?_;symm;have sb:=ok.2.2.2.1;refine⟨n,nw,th.z,th.s,rfl,n4,by have:=Q.len;lia,by lia,λN3 H5 S q J=>?_⟩;refine⟨N3,_,rfl,⟨s4.trans S,X.pz,J,Q.stL g0 g6 sb.1 #[4],?_,λe'=>?_,X.fB,λx l=>?_,λx l=>?_⟩,s4.free q,Y4.same S⟩
   . have:=Bk.same S;rw[TJ,TJ,TJ]at this;exact this
   . rw[e',Bk.top]at q;cases q
   . rw[← TJ]at l;rcases SX.mp l with l | l
     . exact j.fb x l
     . rw[SO.mp l];exact O b (SH u)
   . rw[← TJ]at l;rcases SX.mp l with l | l
     . exact j.fM x l
     . rw[SO.mp l];exact I M t
 . rintro σ H1 ⟨n,p,rfl,j,r,U⟩;rw[Sx,TH,show f.length=a.length by lia,TH,show a.length=Ss.length by lia,TH]at j;rw[← W.run]at j;exact k n p H1 j r
theorem K7(h:yc K c d vs H Q E):yd K c d (eD9 Q) (start ["puzzle","masks","kinds","now","book","found","thought"] vs) H:=by
 obtain⟨P,L,G,A,Kd,h,w,g,Sl,cl,Sj,ks,rfl,X,hK,q⟩:=h;have J:=X.P.R.F.g0;have g6:=X.P.R.F.g1;have am:=X.P.R.F.m;have ak:=NU J g6 X.mkp #[4];exists yd;refine iW X.A λN hN=>?_;obtain⟨H1,z9,s1,C⟩:=aU (.lst (Sj.map V.int)) hN;rw[z9];exists⟨aX #[1],λB x=>?_⟩;have s2:Same H1 (upd H1 B (.lst [])):=(SF H1).laid x;have eB:(upd H1 B (.lst [])) B=some (.lst []):=aj;have ab:N≠B:=λe=>by rw[e]at C;rw[C]at x;cases x
 generalize upd H1 B (.lst [])=H2 at*;have O:=s1.trans s2;have X0:Fb H H2 c d P L G N B [] [] h w g Sl cl (Sj,[]):=⟨O,X.P,s2 _ _ C,X.mkp,IsBk.nil eB,ab,s1.free x,(λb t=>by cases t),(λb t=>by cases t)⟩
 refine⟨λm σ H'=>∃(N:Addr) (r Ms:List Addr) (v5 s:Option V) (nb:∅ × List Tho),σ=[↑P,↑A,↑Kd,↑N,↑B,v5,s]/\Fb H H' c d P L G N B r Ms h w g Sl cl nb/\H N=none/\Wlk h w g Sl cl ks Sj nb.2 nb.1/\Go h w g Sl cl ks Sj nb.2 nb.1/\m=btA nb.1,
  ⟨_,N,[],[],none,none,(Sj,[]),rfl,X0,hN,rfl,.nil,rfl⟩,?_⟩
 rintro m σ H3 ⟨l,r,Ms,v5,s,nb,rfl,a,fN,W,Gg,rfl⟩
 have u:∀(i:Hp),Same H3 i->(0∈nb.1\/ffF h w g Sl cl nb.1 ks=[])->([V.ref l,V.ref B]:List V).length<=sizeLine/\∀ p,i p=none->Q (.ref p) (upd i p (.tup [V.ref l,V.ref B])):=λi D j=>by
  have v:=a.same D;refine⟨lnR rfl,λT hT=>?_⟩;have k:Same i (upd i T (.tup [V.ref l,V.ref B])):=(SF i).laid hT;exact q T l B r Ms nb.1 nb.2 _ (v.sm.trans k) (v.sm.free hT) fN a.fB a.fb a.fM aj (k _ _ v.nw) (v.bk.same k) a.nB W j (Gg.full j)
 have ob:=W.okM J g6 X.mkp;exists⟨l,nb.1,rfl,a.nw,?_⟩;by_cases h0:(0:Int)∈nb.1
 . rw[SB h0];refine⟨true,rfl,iteF ?_⟩;exists u H3 (SF _) (.inl h0)
 . rw[SE h0];refine⟨false,rfl,iteT ?_⟩
   refine⟨λσ H'=>∃(N:Addr) (r Ms:List Addr) (v5 s:Option V) (f:∅ × List Tho),σ=[↑P,↑A,↑Kd,↑N,↑B,v5,s]/\Fb H H' c d P L G N B r Ms h w g Sl cl f/\H N=none/\Wlk h w g Sl cl ks Sj f.2 f.1/\Go h w g Sl cl ks Sj f.2 f.1/\btA f.1<btA nb.1,
    λσ' H' ⟨N',af,U,S,I,ag,e,X',Z,W',G',lt⟩=>⟨_,lt,N',af,U,S,I,ag,e,X',Z,W',G',rfl⟩,?_⟩
   exists⟨P,L,G,l,Kd,h,w,g,Sl,cl,nb.1,ks,rfl,a.lk,hK.same a.sm,λF al ad i D hF ae o Y=>?_⟩;obtain⟨m',z⟩:=EF (cl:=cl) (ks:=ks) X.P.R a.mp h0;symm;rw[aF];exists⟨aX #[1],λE hE=>?_⟩;obtain⟨H5,z9,k,eE⟩:=aU (.lst []) hE;rw[z9];have n:=D.trans k;refine NS (Y.same k) eE ?_;by_cases y:(ffF h w g Sl cl nb.1 ks).length=0
   . rw[SB y];refine⟨_,rfl,iteT ?_⟩;exists u H5 n (.inr (UU.mp y))
   . rw[SE y];refine⟨_,rfl,iteF ?_⟩;have ai:=z.okM J g6 a.mp;have X5:=a.same n;have nF:F≠B:=λe=>by rw[e,a.bk.top]at hF;cases hF
     have nM:B∉ad:=λhm=>by have:=o B hm;rw[a.bk.top]at this;cases this
     refine MI X5 fN (Y.same k) nF nM (λb t=>a.sm.free (ae b t)) (λM hM=>a.sm.free (o M hM)) z #[4] λN3 s H6 X6 ac=>?_;exact⟨N3,_,_,_,_,_,rfl,X6,ac,W.trans z,(by have:=Go.step Gg h0 (λe=>y (by rw[e];rfl));rw[← z.run]at this;exact this),by show btA m'<btA nb.1;lia⟩
structure K8(H:Hp)(f C:Addr)(fl:∅)(cs:List Nat):Prop where
 f:H f=↥(fl.map V.int)
 C:H C=↥((cs.map λ(n:Nat)=>(n:Int)).map V.int)
 lt:∀ c∈cs,c<fl.length
 len:cs.length<=16
 sg:∀ x∈fl,1<=x/\x<=6
abbrev iN(cs:List Nat):∅:=cs.map λ(n:Nat)=>(n:Int)
variable{cs:List Nat}
theorem EH{c:Int}(h:c∈iN cs):0<=c/\c.toNat∈cs:=by
 obtain⟨n,a,rfl⟩:=SL.mp h;exact⟨by lia,by rw[TC];exact a⟩
def lV(K:Frag):Sp:=#[3,∃ f C a cs,vs=[.ref f,.ref C]/\K8 H f C a cs/\Q (.int (seenN (sgAt a (iN cs))).2) H]
def lW(K:Frag):TS:=#[":glef#0 i#2 glef#0 i#3 gIsb1i#4 gldw2q'mad>dk043ci#2 lq}Na3adk04ci#3 j2"]
theorem FW(h:xs[i]? =some x):seenN (xs.take (i+1))=if (seenN (xs.take i)).1<x then(x,(seenN (xs.take i)).2+1) else seenN (xs.take i):=by
 unfold seenN;rw[U9,h,TX];rfl
theorem A6(h:lV K vs H Q E):lW K (eD9 Q) (start ["_law_filling","_law_cells_here","_law_count","_law_highest","_law_cell"] vs) H:=by
 obtain⟨f,C,a,cs,rfl,X,q⟩:=h;exists lW;refine⟨⟨_,ST X.C⟩,?_⟩;refine bg (K:=K) (xs:=(iN cs).map V.int) (λi σ H'=>H'=H/\∃ b:Option V,σ=[↑f,↑C,some (.int (seenN ((sgAt a (iN cs)).take i)).2),some (.int (seenN ((sgAt a (iN cs)).take i)).1),b]) ⟨rfl,none,rfl⟩ (λi σ H' _ ⟨e,_⟩=>by rw[e];exact ST X.C) ?_ ?_
 . rintro i v σ H1 j ⟨rfl,b,rfl⟩;obtain⟨c,g,rfl⟩:=aL j;have d:=EH (SH g);have cl:=X.lt _ d.2;have k:(sgAt a (iN cs))[i]? =some (a.getD c.toNat 0):=by unfold sgAt;rw[SI,g];rfl
   rw[FW k];generalize seenN ((sgAt a (iN cs)).take i)=p at*;exists ixI X.f d.1 #[4] ?_;exists ixI X.f d.1 #[4] ?_;exists⟨trivial,some (V.int c),?_⟩;by_cases h0:p.1<a.getD c.toNat 0
   . rw[SY h0,SB h0,SY (show a.getD c.toNat 0>p.1 from h0)];rfl
   . rw[SS h0,SE h0,SS (show ¬ a.getD c.toNat 0>p.1 from h0)];show _=[some (V.ref f),some (V.ref C),some (V.int p.2),some (V.int p.1),some (V.int c)];simp
 . rintro σ H1 ⟨rfl,b,rfl⟩;symm;rw[Sx,show(iN cs).length=(sgAt a (iN cs)).length by unfold sgAt;simp,TH];exact q
def Chn(b:Bool)(fl:∅)(a:List Nat):Prop:=if b=true then risB (sgAt fl (iN a))=true else(sgAt fl (iN a)).Nodup
def gC(K:Frag):Sp:=#[3,∃ f C c cs b,vs=[.ref f,.ref C,.bl b]/\K8 H f C c cs/\∀(l:Addr) (a:List Nat) (H':Hp),Same H H'->H l=none->H' l=↥((iN a).map V.int)->a.Sublist cs->(cs≠[]->a≠[])->Chn b c a->Q (.ref l) H']
def K9(K:Frag):TS:=#[":oOmdrbqAa3cef#0 O~dz2md>dk04dk5'A`0ef#1 ~dPz2mdKbRdk045TGbMW3a4cp",(rU λi=>.int (-i))]
def kT(K:Frag):TS:=#[":gluci#3 gIsb1i#4 g~e#5 &--0 sb3i#1 Cdk21}Obj3"]
theorem EI:∀{xs:∅} {x:Int},risB xs=true->(∀ y,xs.getLast? =some y->y<x)->risB (xs++[x])=true
 | [],_,_,_=>rfl
 | [y],x,_,h=>by
  show(decide (y<x)&&risB [x])=true;rw[SB (h y rfl)];rfl
 | y::z::r,x,h1,h2=>by
  have e:risB (y::z::r)=(decide (y<z)&&risB (z::r)):=rfl;rw[e,SA]at h1;show(decide (y<z)&&risB (z::r++[x]))=true;rw[h1.1,EI h1.2 (λu a=>h2 u (by rw[List.getLast?_cons_cons];exact a))];rfl
theorem BT(fl:∅)(a:List Nat)(n:Nat):sgAt fl (iN (a++[n]))=sgAt fl (iN a)++[fl.getD n 0]:=by
 unfold sgAt iN;simp
variable{fl:∅}
theorem MJ {R S:Addr} {d:List Nat} {b:Bool} (s:H f=↥(fl.map V.int)) (j:H R=↥((iN d).map V.int)) (l:H S=↥((sgAt fl (iN d)).map V.int)) (u:d.length<=16) (v:n<fl.length) (h:Chn b fl d)
  (k1:Chn b fl (d++[n])->D.nx [↑f,v1,some (.bl b),↑R,⇑(n:Int),↑S] (upd H R (.lst ((iN (d++[n])).map V.int))))
  (k2:d≠[]->D.nx [↑f,v1,some (.bl b),↑R,⇑(n:Int),↑S] H):
  K9 K D [↑f,v1,some (.bl b),↑R,⇑(n:Int),↑S] H:=by
 have g:Chn b fl (d++[n])->tyV K "list" (V.ref R) H/\bT (V.ref R) [V.int (n:Int)] H λx H1=>D.nx [↑f,v1,some (.bl b),↑R,⇑(n:Int),↑S] H1:=λc=>⟨br j,by
  rw[fV j];exact⟨by rw[Sx,Sx];exact aH #[4],by have:=k1 c;unfold iN at this ⊢;rw[TV,TV]at this;exact this⟩⟩
 have w:(sgAt fl (iN d)).length=d.length:=by unfold sgAt iN;simp
 unfold K9;rw[aF];symm;rw[aZ j];symm;by_cases h0:d=[]
 . rw[SY (by rw[h0];rfl)];refine g ?_;rw[h0];unfold Chn;cases b <;> simp[sgAt,risB,iN]
 . have t:0<d.length:=V1.mpr h0;rw[SS (by simp[h0])];have o:atI ((sgAt fl (iN d)).map V.int) (-1)=some (V.int ((sgAt fl (iN d)).getD ((sgAt fl (iN d)).length-1) 0)):=zi #[4];have i:∀ k:VK,k (.int (fl.getD n 0)) H->cIx (.ref f) (.int (n:Int)) H k:=λk r=>ixI s #[4] #[4] (by rw[TC];exact r)
   cases b with
   | true=>
    refine iteT (i _ ?_);refine ixL l o ?_;symm;by_cases h1:(sgAt fl (iN d)).getD ((sgAt fl (iN d)).length-1) 0<fl.getD n 0
    . rw[SY (SB h1)];refine g ?_;unfold Chn at h ⊢;rw[SY rfl]at h ⊢;rw[BT];refine EI h λy m=>?_;rw[List.getLast?_eq_getElem?]at m;rw[List.getD,m]at h1;exact h1
    . rw[SS (by rw[SE h1];decide)];exact k2 h0
   | false=>
    refine iteF (iteT (i _ ?_));rw[jY l];by_cases h1:fl.getD n 0∈sgAt fl (iN d)
    . rw[SB h1];exact⟨_,rfl,iteF (k2 h0)⟩
    . rw[SE h1];refine⟨_,rfl,iteT (g ?_)⟩;unfold Chn at h ⊢;rw[SS #[1]]at h ⊢;rw[BT,Uk];exact⟨h,List.pairwise_singleton _ _,λa p b q e=>h1 (by rw[← SO.mp q,← e];exact p)⟩
theorem zF(h:gC K vs H Q E):kT K (eD9 Q) (start ["_law_answer","_law_cells_here","_law_strictly","_law_some","_law_cell","_law_signs"] vs) H:=by
 obtain⟨f,C,fl,cs,b,rfl,X,q⟩:=h;exists kT;refine⟨aX #[1],λR y=>?_⟩;obtain⟨H1,z9,s1,eR⟩:∃ z,upd H R (.lst [])=z/\Same H z/\z R=↥((iN []).map V.int):=aU _ y;rw[z9];refine⟨⟨_,ST (s1 _ _ X.C)⟩,?_⟩;have L:Chn b fl []:=by unfold Chn;cases b <;> simp[sgAt,risB]
 refine bg (K:=K) (xs:=(iN cs).map V.int) (λi σ H'=>∃(r v5:Option V) (d:List Nat),σ=[↑f,↑C,some (.bl b),↑R,r,v5]/\Same H H'/\H' R=↥((iN d).map V.int)/\d.Sublist (cs.take i)/\(0<i->d≠[])/\Chn b fl d) ⟨none,none,[],rfl,s1,eR,List.nil_sublist _,λh=>absurd h (Uj _),L⟩ (λi σ H' _ ⟨_,_,_,_,s,_⟩=>ST (s _ _ X.C)) ?_ ?_
 . rintro i v σ D M ⟨r,v5,d,rfl,g,e2,a,o,m⟩;obtain⟨c,p,rfl⟩:=aL M
   have w:∃ n,cs[i]? =some n/\c=(n:Int):=by
    unfold iN at p;rw[SI]at p;obtain⟨n,k,rfl⟩:=Ub.mp p;exact⟨n,k,rfl⟩
   obtain⟨n,k,rfl⟩:=w;have N:d.length<=16:=SW a.length_le (by rw[Tx];have:=X.len;lia);have u:∀ x∈d,x<fl.length:=λx l=>X.lt x (VM (a.subset l));exists⟨⟨_,ST e2⟩,?_⟩;refine ba (λ_=>true) (λx=>fl.getD x.toNat 0) (by unfold iN;rw[Sx];lia) (ST e2) ?_ ?_ ?_
   . intro x B P l A k4;exact k4 _ (SF _)
   . intro x B I l O A k4;show tOp cIx _ _ [none,⇑x,↑f] B I;symm;have F:=EH l;exact ixI (A _ _ (g _ _ X.f)) F.1 (by have:=u _ F.2;lia) (k4 _ (SF _))
   . intro S J T t j;have j:J S=↥((sgAt fl (iN d)).map V.int):=by rw[UN.mpr (λ_ _=>rfl)]at j;exact j
     have e:=g.trans t;have G:cs.take (i+1)=cs.take i++[n]:=by rw[U9,k];rfl
     refine MJ (e _ _ X.f) (t _ _ e2) j N (X.lt n (SH k)) m (λc=>?_) (λh0=>?_)
     . exact⟨_,_,d++[n],rfl,e.own y,aj,by rw[G];exact a.append (List.Sublist.refl _),λ_=>by simp,c⟩
     . exact⟨_,_,d,rfl,e,t _ _ e2,a.trans (by rw[G];exact List.sublist_append_left _ _),λ_=>h0,m⟩
 . rintro σ D ⟨r,v5,d,rfl,g,e2,a,o,m⟩;rw[Sx,Sx]at o;rw[Sx,Sx,TH]at a;exists q R d D g y e2 a (λh=>o (by cases cs with | nil=>exact absurd rfl h | cons _ _=>simp)) m
structure Ln58(K:Frag)(H:Hp)(c:WY)(a p f:Addr)(ns:∅)(h w g:Int)(fl:∅):Prop where
 S:SqL K H a (ns.map V.int)
 n:ns.length<=63
 p:IsFl H p h w g
 F:FlOk h w g
 m1:1<=h*w
 f:H f=↥(fl.map V.int)
 fll:fl.length=(h*w).toNat
 sg:∀ x∈fl,1<=x/\x<=g
 hk:∀ k,k≠.Rule->c.ok k=true
def Ln58.same(X:Ln58 K H c a p f ns h w g fl)(s:Same H H'):Ln58 K H' c a p f ns h w g fl:=⟨s.seq X.S,X.n,s _ _ X.p,X.F,X.m1,s _ _ X.f,X.fll,X.sg,X.hk⟩
def me(h w g:Int)(fl:∅)(r:RR):Prop:=r.Ok h w g/\hoB r.k h w r.cs r.n r.m fl=true
def lX(K:Frag)(c:WY):Sp:=#[3,∃ a p f ns b h w g fl,vs=[.ref a,.int b,.ref p,.ref f]/\Ln58 K H c a p f ns h w g fl/\0<=b/\b<=900/\∀(r:RR) (H':Hp),Same H H'->me h w g fl r->Q (.str r.txt) H']
def gZ(K:Frag)(c:WY):TS:=#[":jdwdwdwexy`0q~naq~Wav&--3 sb6i#1 Cdk21ccexy`19",s!"sum ",[32]]
def iL(K:Frag)(c:WY):TS:=#[":gomdrbdL4ef#8 ef#4 jdwdwdwdwdwexy`0q~naqAav&--37 sb6i#1 mdrbq~nadk21c31ccexy`17exy`19p}Pbh",s!"count ",[32]]
def iM(K:Frag)(c:WY):TS:=#[":gomdrbdL4ef#8 ef#3 jdwdwdwexy`0q~na,}Qba3a6ccexy`19p}Rbh",s!"seen ",[32]]
def iO(K:Frag)(c:WY):TS:=#[":glGb~s~Mexy`0av&-- sb6i#1 Cq~na1cci#9 }Sbh",[32]]
def iP(K:Frag)(c:WY):TS:=#[":gomdrbdL4ef#8 ef#2 gl,'Lba3a6aeHRci#6 jdwexy`0Gb~s~Mexy`1av&-- sb6i#1 Cq~na1ccp}Tbh",s!"rising ",[32]]
def iQ(K:Frag)(c:WY):TS:=#[":gomdrbdL4ef#8 ef#1 gl,'Lba3a6aeHBci#6 jdwexy`0Gb~s~Mexy`1av&-- sb6i#1 Cq~na1ccp}Ubh",s!"unlike ",[32]]
def iR(K:Frag)(c:WY):TS:=#[":gomdKbBdL4ef#8 Qaef#5 aef#6 aef#7 cgldwdkuaexy`0aexy`1aexy`2cdVdL4ef#8 ef#5 7i#8 ozthE'd'ebh,'qbha2a8ca3cj8pp}Vbh",s!"joined ",s!"nosquare ",s!"ring "]
def lY(K:Frag)(c:WY):TS:=#[":gl,~qba0a1ci#4 gldXdk2ef#0 dk2ef#1 i#5 gl,'jba0adw1ef#1 a5adwef#1 dLd~o4ef#8 5ci#6 glq~nadk3dk6ef#0 ci#7 }Wbh"]
theorem Dm{i:Int}(h0:0<=i)(h1:i<100):Str.ofString (toString i)=tx (numC i.toNat)/\i.natAbs.log2<1920:=by
 have e:i=((i.toNat:Nat):Int):=by lia
 have a:=AI (n:=i.toNat) #[4];have b:=AS (n:=i.toNat) #[4];rw[← e]at a b;exact⟨a,b⟩
variable{C:Addr}
theorem NV{σ:St}(g:σ[i]? =some ↑C)(a:H C=↥((iN cs).map V.int))(d:cs.length<=16)(f:∀ c∈cs,c<100)(q:∀ H',Same H H'->Q (.str (tx (catL 32 (cs.map numC)))) H'):tBM K "str" gH (tC (.str (tx [32]))) (tCons (tComp [none,none] (iList K (tVar i)) (gName 1) tTrue (tCB kStr (tCons (tVar 1) tNil))) tNil) σ H Q:=by
 simp only[gn,w_c,b5,dO,bB,Ly];refine⟨yM,V.ref C,g,C,rfl,⟨_,ST a⟩,?_⟩;refine uJ a #[4] f λl H1 d s1 h=>?_
 refine AJ h (j3 (by simp;lia) (λt e=>by
  obtain⟨z,b,rfl⟩:=SL.mp e;obtain⟨x,_,rfl⟩:=SL.mp b;rw[bW];exact SW fI #[1]) (by rw[bW];decide)) ?_
 rw[sZ,oh];exact q _ s1
structure Cs58(h w:Int)(cs:List Nat):Prop where
 ne:cs≠[]
 nd:cs.Nodup
 lt:∀ c∈cs,(c:Int)<h*w
 len:cs.length<=16
def Cs58.sub{a:List Nat}(X:Cs58 h w cs)(s:a.Sublist cs)(d:a≠[]):Cs58 h w a:=⟨d,X.nd.sublist s,λc b=>X.lt c (s.subset b),SW s.length_le X.len⟩
def Cs58.lt100(X:Cs58 h w cs)(F:FlOk h w g):∀ c∈cs,c<100:=λc a=>by
 have:=X.lt c a;have:=F.m;omega
def Cs58.ac(Y:Cs58 h w cs)(X:Ln58 K H c a p f ns h w g fl)(b:H C=↥((iN cs).map V.int)):K8 H f C fl cs:=⟨X.f,b,λc d=>by have:=Y.lt c d;have:=X.fll;omega,Y.len,λx e=>by have:=X.sg x e;have:=X.F.g1;omega⟩
theorem HG(Y:Cs58 h w cs)(a:fl.length=(h*w).toNat)(c:∀ x∈fl,1<=x/\x<=g){x:Int}(b:x∈iN cs):0<=x/\x<fl.length/\1<=fl.getD x.toNat 0/\fl.getD x.toNat 0<=g:=by
 have m:=EH b;have l:=Y.lt _ m.2;have:x.toNat<fl.length:=by lia
 have e:fl.getD x.toNat 0=fl[x.toNat]:=by rw[List.getD,Sy this];rfl
 have:=c _ (S9 this);rw[e];lia
def zG{k:RK}{m:Nat}(F:FlOk h w g)(Y:Cs58 h w cs)(b:allK k=false)(k0:k≠.Rule)(d:n<=99)(c:numK k=false->n=0)(m0:sgnK k=true->1<=(m:Int)/\(m:Int)<=g)(e:sgnK k=false->m=0)(a:hoB k h w (iN cs) n m fl=true):me h w g fl ⟨k,n,m,cs,iN cs⟩:=⟨HE F Y.ne Y.lt Y.nd Y.len b k0 d c m0 e,a⟩
theorem oV(h:cs≠[]):cs.map numC≠[]:=by simp[h]
theorem EJ:∀(xs:∅),(∀ x∈xs,0<=x/\x<=6)->0<=xs.sum/\xs.sum<=6*xs.length
 | [],_=>by simp
 | x::r,h=>by
  have a:=h x SN;have b:=EJ r λy c=>h y (SM _ c);rw[Ua,S2];lia
theorem JS(xs:∅):0<=(seenN xs).2/\(seenN xs).2<=xs.length:=by
 have b:∀(xs:∅) (a:Int × Int),a.2<=(xs.foldl (λa x=>if a.1<x then(x,a.2+1) else a) a).2/\(xs.foldl (λa x=>if a.1<x then(x,a.2+1) else a) a).2<=a.2+xs.length:=λxs=>by
  induction xs with
  | nil=>intro a;simp
  | cons x r c=>
   intro a;rw[Ti,S2];have:=c (if a.1<x then(x,a.2+1) else a);by_cases h:a.1<x
   . rw[if_pos h]at this ⊢;dsimp only at this;lia
   . rw[SS h]at this ⊢;lia
 have:=b xs (0,0);unfold seenN;dsimp only at this;lia
theorem CG{D A:Option V}(X:Ln58 K H c a p f ns h w g fl)(Y:Cs58 h w cs)(u:H C=↥((iN cs).map V.int))(q:∀(r:RR) (H':Hp),Same H H'->me h w g fl r->Q (.str r.txt) H'):
  gZ K c (eD9 Q) [↑a,v1,↑p,↑f,D,v5,↑C,A,v8,some (.str (tx (catL 32 (cs.map numC))))] H:=by
 have R:=X.F.g1;have cl:=Y.len;have O:=iZ cl;unfold gZ;exists⟨⟨_,ST u⟩,?_⟩;refine ba (λ_=>true) (λx=>fl.getD x.toNat 0) (by unfold iN;rw[Sx];lia) (ST u) ?_ ?_ ?_
 . intro x o N d n k4;exact k4 _ (SF _)
 . intro x o B d J n k4;show tOp cIx _ _ [none,⇑x,↑f] o B;symm;have b:=HG Y X.fll X.sg d;exact ixI (n _ _ X.f) b.1 b.2.1 (k4 _ (SF _))
 . intro S s P E j;have j:s S=↥((sgAt fl (iN cs)).map V.int):=by rw[UN.mpr (λ_ _=>rfl)]at j;exact j
   have v:∀ x∈sgAt fl (iN cs),0<=x/\x<=6:=λx d=>by
    unfold sgAt at d;obtain⟨z,G,rfl⟩:=SL.mp d;have b:=HG Y X.fll X.sg G;lia
   have L:(sgAt fl (iN cs)).length=cs.length:=by unfold sgAt iN;simp
   have I:=EJ _ v;exists Di j (λx d=>by have:=v x d;lia) #[4] ?_;have k:(sgAt fl (iN cs)).sum<100:=by lia
   generalize l:(sgAt fl (iN cs)).sum=sm at*;have t:=Dm (i:=sm) I.1 k;symm;rw[t.1];simp only[rg];have M:(numC sm.toNat).length<=2:=fI;have m:∀ x y:List Nat,x.length+y.length<=1000->(tx x).length+(tx y).length<=sizeLine:=λx y h=>by rw[bW,bW];exact aX h
   refine⟨t.2,m _ _ (by simp;lia),m _ _ (by simp;lia),m _ _ (by simp;lia),?_⟩
   have e:s!"sum "++numC sm.toNat++[32]++catL 32 (cs.map numC)=catL 32 (rowW .Sum sm.toNat 0 cs):=by
    show _=catL 32 (nmC .Sum::numC sm.toNat::cs.map numC);rw[d5 (by simp),d5 (oV Y.ne),show nmC .Sum=s!"sum" from rfl];simp
   rw[e];refine q ⟨.Sum,sm.toNat,0,cs,iN cs⟩ s E (zG X.F Y rfl #[1] #[4] (λe=>by cases e) (λe=>by cases e) (λ_=>rfl) ?_);show decide ((sgAt fl (iN cs)).sum=((sm.toNat:Nat):Int))=true;rw[Sz,l];lia
theorem JT:((List.range 7).all λa=>(List.range 7).all λb=>decide (decide (tx (numC a)=tx (numC b))=decide (a=b)))=true:=by decide+kernel
theorem JU{a b:Int}(d:0<=a)(f:a<=6)(c:0<=b)(e:b<=6):decide (tx (numC a.toNat)=tx (numC b.toNat))=decide (a=b):=by
 have t:=SG (SK.mp (SK.mp JT a.toNat (SQ.mpr #[4])) b.toNat (SQ.mpr #[4]));rw[t,Tb,Sz,Sz];lia
theorem EK(X:Ln58 K H c a p f ns h w g fl)(Y:Cs58 h w cs)(l:H C=↥((iN cs).map V.int))(m0:1<=m)(G:m<=g)(q:∀(r:RR) (H':Hp),Same H H'->me h w g fl r->Q (.str r.txt) H'):
  iL K c (eD9 Q) [↑a,v1,↑p,↑f,⇑y,v5,↑C,some (.str (tx (numC m.toNat))),v8,some (.str (tx (catL 32 (cs.map numC))))] H:=by
 have M:=X.F.g1;have cl:=Y.len;have J:=iZ cl;unfold iL;rw[aK,aF];exists⟨by decide,?_⟩;by_cases h4:y%8=4
 . rw[SB h4];refine iteT ?_;refine⟨⟨_,ST l⟩,?_⟩;refine ba (λx=>decide (fl.getD x.toNat 0=m)) (λx=>x) (by unfold iN;rw[Sx];lia) (ST l) ?_ ?_ ?_
   . intro x k A s n k4;show tTest _ [none,⇑x,↑f,some (.str (tx (numC m.toNat)))] k A;symm;have b:=HG Y X.fll X.sg s;refine ixI (n _ _ X.f) b.1 b.2.1 ?_;have t:=Dm (i:=fl.getD x.toNat 0) #[4] #[4];symm;rw[t.1];refine⟨t.2,?_⟩;symm;rw[JU #[4] #[4] #[4] #[4]];exact k4 _ (SF _)
   . intro x k u s B n k4;show tVar 1 [none,⇑x,↑f,some (.str (tx (numC m.toNat)))] k u;exists k4 _ (SF _)
   . intro S o L v j;have j:o S=↥((mkAt fl (iN cs) m).map V.int):=by rw[Ud]at j;exact j
     have D:(mkAt fl (iN cs) m).length<=cs.length:=by unfold mkAt;have:=SV (λc=>decide (fl.getD c.toNat 0=m)) (iN cs);unfold iN at this ⊢;rw[Sx]at this;exact this
     symm;rw[aZ j,Sx];generalize z:(mkAt fl (iN cs) m).length=N at*;symm;rw[AI (show N<100 by lia)];simp only[rg];have I:(numC N).length<=2:=fI;have E:(numC m.toNat).length<=2:=fI;have d:∀ x y:List Nat,x.length+y.length<=1000->(tx x).length+(tx y).length<=sizeLine:=λx y h=>by rw[bW,bW];exact aX h
     refine⟨AS #[4],d _ _ (by simp;lia),d _ _ (by simp;lia),d _ _ (by simp;lia),d _ _ (by simp;lia),d _ _ (by simp;lia),?_⟩
     have e:s!"count "++numC N++[32]++numC m.toNat++[32]++catL 32 (cs.map numC)=catL 32 (rowW .Count N m.toNat cs):=by
      show _=catL 32 (nmC .Count::numC N::numC m.toNat::cs.map numC);rw[d5 (by simp),d5 (by simp),d5 (oV Y.ne),show nmC .Count=s!"count" from rfl];simp
     rw[e];refine q ⟨.Count,N,m.toNat,cs,iN cs⟩ o v (zG X.F Y rfl #[1] #[4] (λe=>by cases e) (λ_=>by lia) (λe=>by cases e) ?_);show decide (((mkAt fl (iN cs) ((m.toNat:Nat):Int)).length:Int)=(N:Int))=true;rw[show((m.toNat:Nat):Int)=m by lia,z,SB rfl]
 . rw[SE h4];refine iteF ?_;exists CG X Y l q
theorem EL(X:Ln58 K H c a p f ns h w g fl)(Y:Cs58 h w cs)(j:H C=↥((iN cs).map V.int))(m0:1<=m)(k:m<=g)(q:∀(r:RR) (H':Hp),Same H H'->me h w g fl r->Q (.str r.txt) H'):
  iM K c (eD9 Q) [↑a,v1,↑p,↑f,⇑y,v5,↑C,some (.str (tx (numC m.toNat))),v8,some (.str (tx (catL 32 (cs.map numC))))] H:=by
 have cl:=Y.len;have n:=iZ cl;unfold iM;rw[aK,aF];exists⟨by decide,?_⟩;by_cases h3:y%8=3
 . rw[SB h3];refine iteT ?_;refine⟨f,C,fl,cs,rfl,Y.ac X j,?_⟩;have l:=JS (sgAt fl (iN cs));have o:(sgAt fl (iN cs)).length=cs.length:=by unfold sgAt iN;simp
   generalize b:(seenN (sgAt fl (iN cs))).2=sm at*;have t:=Dm (i:=sm) l.1 #[4];symm;rw[t.1];simp only[rg];have s:(numC sm.toNat).length<=2:=fI;have d:∀ x y:List Nat,x.length+y.length<=1000->(tx x).length+(tx y).length<=sizeLine:=λx y h=>by rw[bW,bW];exact aX h
   refine⟨t.2,d _ _ (by simp;lia),d _ _ (by simp;lia),d _ _ (by simp;lia),?_⟩
   have e:s!"seen "++numC sm.toNat++[32]++catL 32 (cs.map numC)=catL 32 (rowW .Seen sm.toNat 0 cs):=by
    show _=catL 32 (nmC .Seen::numC sm.toNat::cs.map numC);rw[d5 (by simp),d5 (oV Y.ne),show nmC .Seen=s!"seen" from rfl];simp
   rw[e];refine q ⟨.Seen,sm.toNat,0,cs,iN cs⟩ H (SF _) (zG X.F Y rfl #[1] #[4] (λe=>by cases e) (λe=>by cases e) (λ_=>rfl) ?_);show decide ((seenN (sgAt fl (iN cs))).2=((sm.toNat:Nat):Int))=true;rw[Sz,b];lia
 . rw[SE h3];refine iteF ?_;exists EK X Y j m0 k q
theorem EM(X:Ln58 K H c a p f ns h w g fl)(Y:Cs58 h w cs)(b:H C=↥((iN cs).map V.int))(m0:1<=m)(d:m<=g)(q:∀(r:RR) (H':Hp),Same H H'->me h w g fl r->Q (.str r.txt) H'):
  iO K c (eD9 Q) [↑a,v1,↑p,↑f,⇑y,v5,↑C,some (.str (tx (numC m.toNat))),v8,none] H:=by
 unfold iO;rw[aK,bP];refine NV rfl b Y.len (Y.lt100 X.F) λH1 s1=>?_;exists EL (X.same s1) Y (s1 _ _ b) m0 d λr H' e R=>q r H' (s1.trans e) R
theorem EN(X:Ln58 K H c a p f ns h w g fl)(Y:Cs58 h w cs)(s:H C=↥((iN cs).map V.int))(m0:1<=m)(u:m<=g)(q:∀(r:RR) (H':Hp),Same H H'->me h w g fl r->Q (.str r.txt) H'):
  iP K c (eD9 Q) [↑a,v1,↑p,↑f,⇑y,v5,↑C,some (.str (tx (numC m.toNat))),v8,none] H:=by
 unfold iP;rw[aK,aF];exists⟨by decide,?_⟩;by_cases h2:y%8=2
 . rw[SB h2];refine iteT ?_;refine⟨f,C,fl,cs,true,rfl,Y.ac X s,λD d H1 s1 M j k E o=>?_⟩;have i:=Y.sub k (E Y.ne);have J:=iZ i.len;have j:H1 D=↥((d.map λ(n:Nat)=>(n:Int)).map V.int):=j;exists⟨yM,⟨_,ST j⟩,?_⟩;refine uJ j (by have:=i.len;lia) (i.lt100 X.F) λl G L A I=>?_
   refine AJ I (j3 (by have:=i.len;simp;lia) (λt B=>by
    obtain⟨z,v,rfl⟩:=SL.mp B;obtain⟨x,_,rfl⟩:=SL.mp v;rw[bW];exact SW fI #[1]) (by rw[bW];decide)) ?_
   rw[sZ,oh];refine strL (a:=s!"rising ") (b:=catL 32 (d.map numC)) (by simp) #[4] ?_
   have e:s!"rising "++catL 32 (d.map numC)=catL 32 (rowW .Rising 0 0 d):=by
    show _=catL 32 (nmC .Rising::d.map numC);rw[d5 (oV i.ne),show nmC .Rising=s!"rising" from rfl];simp
   rw[e];refine q ⟨.Rising,0,0,d,iN d⟩ G (s1.trans A) (zG X.F i rfl #[1] #[1] (λ_=>rfl) (λe=>by cases e) (λ_=>rfl) ?_);unfold Chn at o;rw[SY rfl]at o;exact o
 . rw[SE h2];refine iteF ?_;exists EM X Y s m0 u q
theorem u8(X:Ln58 K H c a p f ns h w g fl)(Y:Cs58 h w cs)(s:H C=↥((iN cs).map V.int))(m0:1<=m)(u:m<=g)(q:∀(r:RR) (H':Hp),Same H H'->me h w g fl r->Q (.str r.txt) H'):
  iQ K c (eD9 Q) [↑a,v1,↑p,↑f,⇑y,v5,↑C,some (.str (tx (numC m.toNat))),v8,none] H:=by
 unfold iQ;rw[aK,aF];exists⟨by decide,?_⟩;by_cases h2:y%8=1
 . rw[SB h2];refine iteT ?_;refine⟨f,C,fl,cs,false,rfl,Y.ac X s,λD d H1 s1 M j k E o=>?_⟩;have i:=Y.sub k (E Y.ne);have J:=iZ i.len;have j:H1 D=↥((d.map λ(n:Nat)=>(n:Int)).map V.int):=j;exists⟨yM,⟨_,ST j⟩,?_⟩;refine uJ j (by have:=i.len;lia) (i.lt100 X.F) λl G L A I=>?_
   refine AJ I (j3 (by have:=i.len;simp;lia) (λt B=>by
    obtain⟨z,v,rfl⟩:=SL.mp B;obtain⟨x,_,rfl⟩:=SL.mp v;rw[bW];exact SW fI #[1]) (by rw[bW];decide)) ?_
   rw[sZ,oh];refine strL (a:=s!"unlike ") (b:=catL 32 (d.map numC)) (by simp) #[4] ?_
   have e:s!"unlike "++catL 32 (d.map numC)=catL 32 (rowW .Unlike 0 0 d):=by
    show _=catL 32 (nmC .Unlike::d.map numC);rw[d5 (oV i.ne),show nmC .Unlike=s!"unlike" from rfl];simp
   rw[e];refine q ⟨.Unlike,0,0,d,iN d⟩ G (s1.trans A) (zG X.F i rfl #[1] #[1] (λ_=>rfl) (λe=>by cases e) (λ_=>rfl) ?_);unfold Chn at o;rw[SS #[1]]at o;exact SB ((xH _).mpr o)
 . rw[SE h2];refine iteF ?_;exists EN X Y s m0 u q
theorem La{j:Int}(a:0<=j)(b:j<3):∃ k:RK,k≠.Rule/\allK k=true/\numK k=false/\sgnK k=true/\(nmC k).length<=10/\atI [V.str (tx s!"joined "),V.str (tx s!"nosquare "),V.str (tx s!"ring ")] j=some (V.str (tx (nmC k++[32]))):=by
 have e:j=0\/j=1\/j=2:=by lia
 rcases e with rfl | rfl | rfl
 . exact⟨.Joined,by decide,rfl,rfl,rfl,by decide,rfl⟩
 . exact⟨.NoSquare,by decide,rfl,rfl,rfl,by decide,rfl⟩
 . exact⟨.Ring,by decide,rfl,rfl,rfl,by decide,rfl⟩
theorem EO(X:Ln58 K H c a p f ns h w g fl)(Y:Cs58 h w cs)(A:H C=↥((iN cs).map V.int))(m0:1<=m)(v:m<=g)(q:∀(r:RR) (H':Hp),Same H H'->me h w g fl r->Q (.str r.txt) H'):
  iR K c (eD9 Q) [↑a,v1,↑p,↑f,⇑y,v5,↑C,some (.str (tx (numC m.toNat))),none,none] H:=by
 have g6:=X.F.g1;have hn:(numC m.toNat).length<=2:=fI;unfold iR;rw[aK,aF];exists⟨by decide,lnR rfl,λU B=>?_⟩;have s1:Same H (upd H U (.tup (([5,6,7]:∅).map V.int))):=(SF H).laid B;have G:(upd H U (.tup (([5,6,7]:∅).map V.int))) U=some (.tup (([5,6,7]:∅).map V.int)):=aj;show cIn K false (V.int (y%8)) (V.ref U) (upd H U (.tup (([5,6,7]:∅).map V.int))) _;generalize upd H U (.tup (([5,6,7]:∅).map V.int))=H1 at*;rw[NG G];have O:=X.same s1;by_cases h5:y%8∈([5,6,7]:∅)
 . rw[SB h5];refine⟨true,rfl,iteT ?_⟩;have b:5<=y%8/\y%8<8:=by simp only[SU,Tw,Uz]at h5;lia
   obtain⟨k,k0,I,u,ks,kl,L⟩:=La (j:=y%8-5) #[4] #[4];exists⟨lnR rfl,λU2 s=>?_⟩;refine⟨by decide,?_⟩;obtain⟨H2,N,M,e2⟩:=aU (.lst [V.str (tx s!"joined "),V.str (tx s!"nosquare "),V.str (tx s!"ring ")]) s;rw[N];refine ixL e2 L ?_;refine strL (by simp;lia) #[4] ?_
   have e:nmC k++[32]++numC m.toNat=catL 32 (rowW k 0 m.toNat []):=by
    unfold rowW;rw[u,ks];show _=nmC k++32::numC m.toNat;simp
   rw[e];have i:=s1.trans M;have P:=X.same i;have t:RR.Ok ⟨k,0,m.toNat,[],rngL 0 (h*w)⟩ h w g:=Js I k0 u ks #[4] #[4];symm;rw[aF,w_b];unfold aA;exists⟨k,p,h,w,g,0,m.toNat,[],rngL 0 (h*w),rfl,P.p,X.F,t,X.hk k k0,λr H3 J hr n=>?_⟩;obtain⟨T,W,C2,h1,h2,h3⟩:=n.ex;have l:=i.trans J;have z:=X.same l;refine⟨r,k,T,_,rfl,n.ok,h1,by rfl,?_⟩;exists⟨r,p,f,_,_,fl,_,_,h,w,g,rfl,n,z.p,X.F,z.f,by rw[X.fll];exact Vk t X.F,λx Z=>by have:=X.sg x Z;lia,λE D=>?_⟩;have d:=l.trans D
   cases S:hoB k h w (rngL 0 (h*w)) ((0:Nat):Int) ((m.toNat:Nat):Int) fl with
   | true=>
    refine⟨true,rfl,iteT ?_⟩;exists q ⟨k,0,m.toNat,[],rngL 0 (h*w)⟩ E d ⟨t,S⟩
   | false=>
    refine⟨false,rfl,iteF ?_⟩;exists u8 (X.same d) Y (d _ _ A) m0 v λr H' o R=>q r H' (d.trans o) R
 . rw[SE h5];refine⟨false,rfl,iteF ?_⟩;exists u8 O Y (s1 _ _ A) m0 v λr H' o R=>q r H' (s1.trans o) R
theorem A7(h:lX K c vs H Q E):lY K c (eD9 Q) (start ["_law_script","_law_at","_law_floor","_law_answer","_law_number","_law_many","_law_cells_here","_law_sign","_law_line_here","_law_told"] vs) H:=by
 obtain⟨a,p,f,ns,d,h,w,g,fl,rfl,X,A,L,q⟩:=h;have o:=X.F.m;have I:=X.m1;have M:=X.F.g1;exists lY;refine⟨a,ns,d,rfl,X.S,X.n,A,by lia,?_⟩;generalize dJ ns d=y at*;exists ixT X.p (v:=V.int h) rfl ?_;exists ixT X.p (v:=V.int w) rfl ?_;symm;have N:=Uo (y/8) (show h*w≠0 by lia);have J:=T8 (y/8) (show 0<h*w by lia);refine⟨pE X.F.h0 X.F.h1,⟨by decide,by decide⟩,by lia,?_⟩;refine⟨a,ns,d+1,h*w,_,rfl,X.S,X.n,by lia,by lia,o,by lia,by lia,λC H1 cs s1 O z G B k=>?_⟩;have u:=X.same s1;have s:cs≠[]:=λe=>by rw[e]at k;simp at k;lia
 have Y:Cs58 h w cs:=⟨s,G,B,by lia⟩;obtain⟨l,r0,ec⟩:∃ l r0,cs=l::r0:=by cases cs with | nil=>exact absurd rfl s | cons x r=>exact⟨x,r,rfl⟩
 exists ixL z (v:=V.int (l:Int)) (fw (j:=0) (by rw[ec];rfl)) ?_;have b:=HG Y X.fll X.sg (x:=(l:Int)) (by rw[ec];exact SN);refine ixI u.f b.1 b.2.1 ?_;have t:=Dm (i:=fl.getD (l:Int).toNat 0) #[4] #[4];symm;rw[t.1];exact⟨t.2,EO u Y z b.2.2.1 b.2.2.2 λr H' D R=>q r H' (s1.trans D) R⟩
def HH:List (Int × Int × Int)->(St->Hp->(List V->Hp->Prop)->Prop)
 | []=>tNil
 | p::r=>tCons (tTup (tCons (tC (.int p.1)) (tCons (tC (.int p.2.1)) (tCons (tC (.int p.2.2)) tNil)))) (HH r)
theorem EQ{σ:St}:∀(b:List (Int × Int × Int)) (H:Hp) (Q:List V->Hp->Prop),(∀(as:List Addr) (H':Hp),Same H H'->as.length=b.length->(∀(j:Nat) (a:Addr) (p:Int × Int × Int),as[j]? =some a->b[j]? =some p->H' a=some (.tup [.int p.1,.int p.2.1,.int p.2.2]))->Q (as.map V.ref) H')->HH b σ H Q
 | [],H,Q,h=>h [] H (SF H) rfl λj a p e _=>by simp at e
 | p::r,H,Q,h=>by
  unfold HH;exists⟨lnR rfl,λt i=>?_⟩;obtain⟨H1,k,s1,d⟩:=aU (.tup [V.int p.1,V.int p.2.1,V.int p.2.2]) i;rw[k];refine EQ r H1 _ λas l c f g=>?_;refine h (t::as) l (s1.trans c) (by simp[f]) λj a q e1 e2=>?_
  match j,e1,e2 with
  | 0,e1,e2=>
   simp at e1 e2;subst e1 e2;exact c _ _ d
  | j+1,e1,e2=>exact g j a q (by simpa using e1) (by simpa using e2)
def fl58:List (Int × Int × Int):=[(2,2,2),(2,2,3),(1,3,3),(1,4,2),(1,4,3),(2,3,2),(1,5,2)]
theorem MK:∀ p∈fl58,1<=p.1/\p.1<=6/\1<=p.2.1/\p.2.1<=6/\3<=p.1*p.2.1/\p.1*p.2.1<=6/\2<=p.2.2/\p.2.2<=3:=by decide
structure dS(c:WY)(h w g:Int)(fl:∅)(Sl:List RR):Prop where
 F:FlOk h w g
 m1:3<=h*w
 m6:h*w<=6
 g2:2<=g
 g3:g<=3
 fll:fl.length=(h*w).toNat
 sg:∀ x∈fl,1<=x/\x<=g
 R:b9 c h w g Sl
 n3:Sl.length<=3
 ho:∀ r∈Sl,hoB r.k h w r.cs r.n r.m fl=true
def kU(K:Frag)(c:WY):Sp:=#[3,∃(a:Addr) (ns:∅),vs=[.ref a]/\SqL K H a (ns.map V.int)/\ns.length<=63/\(∀ k,k≠.Rule->c.ok k=true)/\
 ∀(T p L f:Addr) (h w g:Int) (fl:∅) (Sl:List RR) (H':Hp),Same H H'->H T=none->H f=none->H L=none->H' T=some (.tup [.ref p,.ref L,.ref f])->IsFl H' p h w g->H' L=↥((Sl.map RR.txt).map V.str)->H' f=↥(fl.map V.int)->dS c h w g fl Sl->Q (.ref T) H']
def mF(K:Frag)(c:WY):TS:=#[":g~e#6 &--52043 [adLd~o1ef#7 ef#4 ci#1 C,}Xbha4adwef#420 dXef#20 1aQa3a6a5ca2cjQaQa2a3a4ca6a5c"]
def g7(K:Frag)(c:WY):TS:=#[":glv&--04 [adX23ci#1 Cdwef#1 dL,~qba2adwef#410 1c3i#5 }Ybh"]
def mG(K:Frag)(c:WY):TS:=#[":gldkuaQaef#2 aef#2 aef#2 caQaef#2 aef#2 aef#3 caQaef#1 aef#3 aef#3 caQaef#1 aef#4 aef#2 caQaef#1 aef#4 aef#3 caQaef#2 aef#3 aef#2 caQaef#1 aef#5 aef#2 ccdL1ef#7 ~hb#3 Si#2 Si#3 Si#4 ~i}Zbh"]
def kW(K:Frag)(c:WY):TS:=#[":gl,~qba0aef#400 ci#1 }*bh"]
theorem FX {fin:Addr->Hp->Prop} (P:RR->Prop) (s:n<=12)
  (p:∀ i H Q,i<n->Same H1 H->(∀(r:RR) (H':Hp),Same H H'->P r->Q (.str r.txt) H')->te (σ0.set 1 ⇑(0+(i:Int))) H Q)
  (m:∀(l:Addr) (Sl:List RR) (H:Hp),H1 l=none->Same H1 H->H l=↥((Sl.map RR.txt).map V.str)->Sl.length=n->(∀ r∈Sl,P r)->fin l H):
  CompR (Itr 0 n) (gName 1) tTrue te fin σ0 H1:=by
 refine sU (λl i σ H=>(σ=σ0\/∃ j,σ=σ0.set 1 j)/\Same H1 H/\∃ Sl:List RR,H l=↥((Sl.map RR.txt).map V.str)/\Sl.length=i/\∀ r∈Sl,P r) (λl c=>⟨.inl rfl,(SF H1).laid c,[],by rw[aj];rfl,rfl,λ_ h=>nomatch h⟩) ?_ (λl σ H c ⟨_,s1,Sl,f,a,d⟩=>m l Sl H c s1 f a d);rintro l i σ H c q ⟨o,s1,Sl,f,a,d⟩;rw[be]
 have e:σ.set 1 ⇑(0+(i:Int))=σ0.set 1 ⇑(0+(i:Int)):=by
  rcases o with rfl | ⟨j,rfl⟩
  . rfl
  . exact Uc ..
 rw[e,b7,SY rfl];refine p i H _ q s1 λr t g k=>⟨_,g _ _ f,by simp;exact aH #[4],.inr ⟨_,rfl⟩,(s1.trans g).own c,Sl++[r],by rw[aj];simp,by simp[a],λz b=>?_⟩;rcases SX.mp b with b | b
 . exact d z b
 . rw[SO.mp b];exact k
theorem CH (s0:Same H0 H) (M:SqL K H a (ns.map V.int)) (J:ns.length<=63) (D:∀ k,k≠.Rule->c.ok k=true) (F:FlOk h w g) (S:3<=h*w) (m6:h*w<=6) (U:2<=g) (Z:g<=3)
  (q:∀(T p L f:Addr) (h w g:Int) (fl:∅) (Sl:List RR) (H':Hp),Same H0 H'->H0 T=none->H0 f=none->H0 L=none->H' T=some (.tup [.ref p,.ref L,.ref f])->IsFl H' p h w g->H' L=↥((Sl.map RR.txt).map V.str)->H' f=↥(fl.map V.int)->dS c h w g fl Sl->Q (.ref T) H'):
  g7 K c (eD9 Q) [↑a,⇑y,⇑h,⇑w,⇑g,none,none] H:=by
 unfold g7;exists⟨pE F.h0 F.h1,_,rfl,by lia,by lia,?_⟩;refine qA (λ_=>true) (λ(i:Nat)=>1+dJ ns (410+(i:Int))%g) #[4] ?_ ?_ ?_
 . intro i d R4 s b k4;exact k4 _ (SF _)
 . intro i d t s ab b k4;have A:i < (h*w).toNat:=s;show tOp cAdd _ _ [none,⇑(0+(i:Int)),↑a,⇑g] d t;rw[UB];exists⟨a,ns,_,rfl,b.seq M,J,by lia,by lia,?_⟩;exists⟨by lia,k4 _ (SF _)⟩
 . intro f H1 X s1 z;rw[aY]at z;have o:((List.range (h*w).toNat).map λ(i:Nat)=>1+dJ ns (410+(i:Int))%g).length=(h*w).toNat:=by simp
   have B:∀ x∈(List.range (h*w).toNat).map λ(i:Nat)=>1+dJ ns (410+(i:Int))%g,1<=x/\x<=g:=λx hx=>by
    obtain⟨i,_,rfl⟩:=SL.mp hx;have P:=Uo (dJ ns (410+(i:Int))) (show g≠0 by lia);have Y:=T8 (dJ ns (410+(i:Int))) (show 0<g by lia);lia
   generalize ((List.range (h*w).toNat).map λ(i:Nat)=>1+dJ ns (410+(i:Int))%g)=fl at*;unfold mF;symm;have P:=Uo (y/7) (show(4:Int)≠0 by decide);have Y:=T8 (y/7) (show(0:Int)<4 by decide);refine⟨⟨by decide,by decide⟩,by decide,_,rfl,by lia,by lia,?_⟩;generalize y/7%4=x at*;refine FX (me h w g fl) #[4] ?_ ?_
   . intro i d t s b k4;have A:i<x.toNat:=s;show tCall _ _ _ _ [none,⇑(0+(i:Int)),↑f,⇑h,↑a,⇑g,⇑w] d t;rw[UB];exists⟨.inl ⟨by decide,by decide⟩,lnR rfl,λp v=>?_⟩;have I:Same d (upd d p (.tup [V.int h,V.int w,V.int g])):=(SF d).laid v;have m:=b.trans I;exact⟨a,p,f,ns,_,h,w,g,fl,rfl,⟨(s1.trans m).seq M,J,aj,F,by lia,m _ _ z,o,B,D⟩,by lia,by lia,λr H' O R=>k4 r H' (I.trans O) R⟩
   . intro L Sl j W G eL rl u;have l:=s1.trans G;exists⟨lnR rfl,λp v=>?_⟩;have E:Same j (upd j p (.tup [V.int h,V.int w,V.int g])):=(SF j).laid v;have N:IsFl (upd j p (.tup [V.int h,V.int w,V.int g])) p h w g:=aj;generalize upd j p (.tup [V.int h,V.int w,V.int g])=H3 at*;refine⟨lnR rfl,λT C=>?_⟩;have b:Same H3 (upd H3 T (.tup [V.ref p,V.ref L,V.ref f])):=(SF H3).laid C;have e:=E.trans b;exact q T p L f h w g fl Sl _ ((s0.trans l).trans e) ((s0.trans l).free (E.free C)) (s0.free X) ((s0.trans s1).free W) aj (b _ _ N) (e _ _ eL) ((G.trans e) _ _ z) ⟨F,S,m6,U,Z,o,B,⟨F,by lia,λr n=>(u r n).1,λr n=>D _ (u r n).1.k0⟩,by lia,λr n=>(u r n).2⟩
theorem zH(h:kU K c vs H Q E):kW K c (eD9 Q) (start ["_law_script","_law_first","_law_high","_law_wide","_law_signs","_law_answer","_law_lines"] vs) H:=by
 obtain⟨a,ns,rfl,i,g,r,q⟩:=h;exists kW;refine⟨a,ns,400,rfl,i,g,by decide,by decide,?_⟩;generalize dJ ns 400=y at*;unfold mG;rw[aK,bP,gm,d3];refine EQ fl58 H _ λas H1 s1 s u=>?_;have n:as.length=7:=s;refine⟨by rw[Sx];exact aX #[4],λU k=>?_⟩;obtain⟨w,t,d,m⟩:=aU (.lst (as.map V.ref)) k;rw[t];exists⟨by decide,?_⟩;have x:=Uo y (show(7:Int)≠0 by decide);have z:=T8 y (show(0:Int)<7 by decide);have o:y%7=(((y%7).toNat:Nat):Int):=by lia
 have e:(y%7).toNat<fl58.length:=by show _<7;lia
 rw[o];generalize (y%7).toNat=j at*;have f:as[j]? =some (as[j]'#[4]):=Sy #[4];have p:fl58[j]? =some fl58[j]:=Sy e;have l:=u j _ _ f p;have b:=MK _ (S9 e);generalize fl58[j]=pr at*;refine ixL m (v:=V.ref (as[j]'#[4])) (fw (by rw[SI,f];rfl)) ?_;refine DO (d _ _ l) rfl ?_;rw[Ej];exists CH (s1.trans d) ((s1.trans d).seq i) g r ⟨b.1,b.2.1,b.2.2.1,b.2.2.2.1,by lia,by lia,by lia⟩ b.2.2.2.2.1 b.2.2.2.2.2.1 b.2.2.2.2.2.2.1 b.2.2.2.2.2.2.2 q
def JV(K:Frag):List V->Hp->VK->Prop:=λxs H Q=>∃ p a,xs=[.ref p]/\(SqL K H p a\/SqT K H p a)/\∀ l,H l=none->Q (.ref l) (upd H l (.lst a))
def FY{X:Cx}:CallR X (.type "list") (JV X.K):=ux
def oW(K:Frag):Sp:=#[3,∃ a h w g,vs=[.ref a]/\IsFl H a h w g/\1<=g/\g<=6/\Q (.int (2^g.toNat-1)) H]
def oX(K:Frag):TS:=#[":jdV,'xbadwdk0ef#2 ef#1 cef#1 "]
theorem ER{K:Frag}{vs:List V}{H:Hp}{Q:VK}{E:XK}(h:oW K vs H Q E):oX K (eD9 Q) (start ["floor"] vs) H:=by
 obtain⟨a,h,w,g,rfl,b,d,c,q⟩:=h;exists oX;refine ixT b (v:=V.int g) rfl ?_;exists⟨g+1,rfl,by lia,by lia,?_⟩;symm;rw[Int.add_sub_cancel];exact q
def mh(h w m:Int)(fl:∅):∅:=(rngL 0 (h*w)).filter λc=>decide (fl.getD c.toNat 0=m)
theorem rng29{n x:Int}:x∈rngL 0 n↔0<=x/\x<n:=by
 unfold rngL;rw[SL];constructor
 . rintro⟨k,c,rfl⟩;have:=SQ.mp c;lia
 . rintro⟨a,b⟩;exact⟨x.toNat,SQ.mpr #[4],by lia⟩
variable{h w m:Int}{fl:∅}
theorem sgC29_mem{c:Int}:c∈mh h w m fl↔(0<=c/\c<h*w)/\fl.getD c.toNat 0=m:=by
 unfold mh;rw[SJ,rng29,Sz]
abbrev rD(h w m:Int)(fl:∅):Prop:=∀ a∈mh h w m fl,∀ b∈mh h w m fl,RC h w (mh h w m fl) a b
abbrev Dn(h w m:Int)(fl:∅):Prop:=∀ a∈mh h w m fl,((besL h w a).filter λc=>decide (fl.getD c.toNat 0=m)).length=2
abbrev zI(h w m:Int)(fl:∅):Prop:=∀ i:Nat,i < (h*w).toNat->cornB h w i=true->∃ c∈sqL w i,fl.getD c.toNat 0≠m
def HI(h w m:Int)(k:RK)(fl:∅):Prop:=match k with
 | .Joined=>rD h w m fl
 | .Ring=>rD h w m fl/\Dn h w m fl
 | .NoSquare=>zI h w m fl
 | _=>False
structure Ans29(h w g m:Int)(k:RK)(Sj fl:∅):Prop where
 F:FlOk h w g
 fll:fl.length=(h*w).toNat
 ml:Sj.length=(h*w).toNat
 mm:∀ x∈Sj,0<=x/\x<64
 sg:∀ x∈fl,1<=x/\x<=g
 st:∀ k,k<fl.length->stB (Sj.getD k 0) (fl.getD k 0)=true
 m0:1<=m
 m1:m<=g
 R:HI h w m k fl
variable{Sj:∅}
theorem Ans29.at_{g:Int}{k:RK}(A:Ans29 h w g m k Sj fl){c:Int}(b:0<=c)(d:c<h*w):(0<=Sj.getD c.toNat 0/\Sj.getD c.toNat 0<64)/\(1<=fl.getD c.toNat 0/\fl.getD c.toNat 0<=g)/\stB (Sj.getD c.toNat 0) (fl.getD c.toNat 0)=true:=by
 have e:=A.fll;have a:=A.ml;have h1:c.toNat<fl.length:=by lia
 have h2:c.toNat<Sj.length:=by lia
 refine⟨?_,?_,A.st _ h1⟩
 . rw[List.getD,Sy h2];exact A.mm _ (S9 h2)
 . rw[List.getD,Sy h1];exact A.sg _ (S9 h1)
theorem Ans29.one{g:Int}{k:RK}(A:Ans29 h w g m k Sj fl){c:Int}(b:0<=c)(d:c<h*w)(hw:woI (Sj.getD c.toNat 0) m=0):fl.getD c.toNat 0=m:=by
 have a:=A.at_ b d;have f:=A.F.g1;have e:=A.m1;exact Ep a.1.1 a.1.2 A.m0 #[4] a.2.1.1 #[4] hw a.2.2
theorem GL{cs f:∅}{a b:Int}(d:∀ c∈cs,c∈f)(r:RC h w cs a b)(e:(!rcB h w f a b)=true):False:=by
 unfold rcB at e;rw[Tg]at e;exact(@of_decide_eq_false _ (Classical.propDecidable _) e) (r.less d)
variable{ms:∅}
theorem OF{g:Int}{k:RK}{z s:Int}(A:Ans29 h w g m k Sj fl)(J:rD h w m fl)(t:0<=z)(u:z<h*w)(j:reaB h w (rngL 0 (h*w)) m Sj z s ms=true):fl.getD z.toNat 0≠s:=by
 intro e;unfold reaB at j;rw[SA]at j
 have n:∀ o∈ms,(0<=o/\o<h*w)/\o≠z/\fl.getD o.toNat 0=m:=λo r=>by
  have:=SK.mp j.1 o r;unfold anoB at this;simp only[SA,Sz,Tg,Tf]at this;exact⟨this.1,this.2.1,A.one this.1.1 this.1.2 this.2.2⟩
 have h2:=j.2;by_cases l:s=m
 . rw[SY l]at h2;rw[SA]at h2;have p:=SG h2.1
   match ms,p with
   | [o],_=>
    have a:=n o SN;refine GL (λc q=>?_) (J z (sgC29_mem.mpr ⟨⟨t,u⟩,e.trans l⟩) o (sgC29_mem.mpr ⟨a.1,a.2.2⟩)) h2.2;obtain⟨d,i⟩:=sgC29_mem.mp q;by_cases f:c=z
    . rw[f];exact SX.mpr (.inr SN)
    . refine SX.mpr (.inl ?_);unfold thrL;refine SJ.mpr ⟨SJ.mpr ⟨rng29.mpr d,by simp[f]⟩,?_⟩;have:=(A.at_ d.1 d.2).2.2;rw[i]at this;exact this
 . rw[SS l]at h2;rw[SA,SA]at h2;have p:=SG h2.1
   match ms,p with
   | [o,o2],_=>
    have a:=n o SN;have b:=n o2 (SM _ SN);refine GL (λc q=>?_) (J o (sgC29_mem.mpr ⟨a.1,a.2.2⟩) o2 (sgC29_mem.mpr ⟨b.1,b.2.2⟩)) h2.2.2;obtain⟨d,i⟩:=sgC29_mem.mp q;have f:c≠z:=λf=>l (by rw[f]at i;exact e.symm.trans i);unfold thrL;refine SJ.mpr ⟨SJ.mpr ⟨rng29.mpr d,by simp[f]⟩,?_⟩;have:=(A.at_ d.1 d.2).2.2;rw[i]at this;exact this
theorem OG{g:Int}{k:RK}{z s:Int}(A:Ans29 h w g m k Sj fl)(J:zI h w m fl)(o:squB h w m Sj z s ms=true):fl.getD z.toNat 0≠s:=by
 intro e;unfold squB at o;simp only[SA,Sz,Tg,Tf]at o;obtain⟨v,_,f,y⟩:=o;generalize ms.getD 0 0=c at*;have D:=A.F.w0
 have b:∀ x∈rosL h w c z,0<=x/\x<h*w:=λx l=>by
  have:=(Jt (n:=(h*w).toNat) (c:=c) (z:=z) A.F rfl).2 x l;lia
 have d:∀ x∈rosL h w c z,woI (Sj.getD x.toNat 0) s=0:=λx l=>by
  have p:((sgAt Sj (rosL h w c z)).filter λk=>decide (woI k s=0)).length=(sgAt Sj (rosL h w c z)).length:=by rw[y];unfold sgAt;rw[Sx]
  have:=List.length_filter_eq_length_iff.mp p (Sj.getD x.toNat 0) (by unfold sgAt;exact SL.mpr ⟨x,l,rfl⟩);exact SG this
 unfold rosL at f d b
 cases t:(squL h w).find? (rosP c z) with
 | none=>rw[t]at f;exact f rfl
 | some q=>
  rw[t]at d b;dsimp only at d b;obtain⟨i,C,B,rfl⟩:=oi (UF t);obtain⟨x,l,nx⟩:=J i C B;by_cases u:x=z
  . rw[u]at nx;exact nx (e.trans v)
  . have j:x∈(sqL w i).filter λx=>!decide (x=z):=SJ.mpr ⟨l,by simp[u]⟩;have r:=b x j;have a:=d x j;rw[v]at a;exact nx (A.one r.1 r.2 a)
theorem HJ{p:Int->Bool}{z:Int}:∀{l:∅},z∈l->p z=true->((l.filter λx=>!decide (x=z)).filter p).length+1<=(l.filter p).length
 | [],h,_=>by cases h
 | x::r,h,hp=>by
  have le:((r.filter λx=>!decide (x=z)).filter p).length<=(r.filter p).length:=by
   rw[Wg,← T2,← T2];exact Vy λa _ c=>(by rw[SA]at c;exact c.1)
  by_cases e:x=z
  . subst e;rw[UV (by simp),Uv (p:=p) hp,S2];lia
  . have d:=HJ (l:=r) (p:=p) ((SU.mp h).resolve_left (Vr e)) hp;rw[Uv (by simp[e])];by_cases b:p x=true
    . rw[Uv b,Uv b,S2,S2];lia
    . rw[UV b,UV b];exact d
theorem rE{f g:Int->Bool}{l:∅}(h:∀ x∈l,f x=true->g x=true):(l.filter f).length<=(l.filter g).length:=by
 rw[← T2,← T2];exact Vy h
theorem JW(cs:∅):mayN Sj m cs=(cs.filter λc=>stB (Sj.getD c.toNat 0) m).length:=by
 unfold mayN sgAt;rw[Ux,Sx];rfl
theorem JX(cs:∅):onlN Sj m cs=(cs.filter λc=>decide (woI (Sj.getD c.toNat 0) m=0)).length:=by
 unfold onlN sgAt;rw[Ux,Sx];rfl
theorem NW{g:Int}{k:RK}{z s:Int}(A:Ans29 h w g m k Sj fl)(J:Dn h w m fl)(q:0<=z)(y:z<h*w)(d:turnB h w m Sj z s ms=true):fl.getD z.toNat 0≠s:=by
 intro e;have f:∀ a,0<=a->a<h*w->∀ x∈besL h w a,0<=x/\x<h*w:=λa H I=>(rq A.F H I).2
 have u:∀ cs:∅,(∀ x∈cs,0<=x/\x<h*w)->(cs.filter λc=>decide (fl.getD c.toNat 0=m)).length<=mayN Sj m cs:=λcs n=>by
  rw[JW];refine rE λx j i=>?_;have:=(A.at_ (n x j).1 (n x j).2).2.2;rw[SG i]at this;exact this
 have r:∀ cs:∅,(∀ x∈cs,0<=x/\x<h*w)->onlN Sj m cs<=(cs.filter λc=>decide (fl.getD c.toNat 0=m)).length:=λcs n=>by
  rw[JX];refine rE λx j i=>SB ?_;exact A.one (n x j).1 (n x j).2 (SG i)
 unfold turnB at d;by_cases C:ms=[]
 . rw[SY C]at d;simp only[SA,TD,Sz]at d;obtain⟨l,d⟩:=d;have t:=J z (sgC29_mem.mpr ⟨⟨q,y⟩,e.trans l⟩);have a:=u _ (f z q y);have b:=r _ (f z q y);lia
 . rw[SS C]at d;simp only[SA,Sz]at d;obtain⟨_,D,hw,d⟩:=d;generalize ms.getD 0 0=o at*;have B:=f z q y o D;have E:=A.one B.1 B.2 hw;have K:z∈besL h w o:=DN (by have:=A.F.w0;lia) q y D;have t:=J o (sgC29_mem.mpr ⟨B,E⟩);have v:∀ x∈arL h w o z,0<=x/\x<h*w:=λx j=>f o B.1 B.2 x (SJ.mp j).1;by_cases l:s=m
   . rw[SY l,Sz]at d;have b:=r _ v;have c:=HJ (p:=λc=>decide (fl.getD c.toNat 0=m)) K (SB (e.trans l));unfold arL at b d;lia
   . rw[SS l,Sz]at d;have a:=u _ v
     have c:((besL h w o).filter λc=>decide (fl.getD c.toNat 0=m)).length<=((arL h w o z).filter λc=>decide (fl.getD c.toNat 0=m)).length:=by
      unfold arL;rw[Wg];refine rE λx _ i=>?_;have:x≠z:=λG=>l (by rw[G]at i;exact e.symm.trans (SG i));simp only[i,this,WV,UD,VJ]
     lia
structure AnsA(h w g:Int)(Sl:List RR)(cl Sj fl:∅):Prop where
 F:FlOk h w g
 fll:fl.length=(h*w).toNat
 ml:Sj.length=(h*w).toNat
 mm:∀ m∈Sj,0<=m/\m<64
 sg:∀ x∈fl,1<=x/\x<=g
 st:∀ k,k<fl.length->stB (Sj.getD k 0) (fl.getD k 0)=true
 cu:∀ k,k<fl.length->cl.getD k 0=0\/cl.getD k 0=fl.getD k 0
 ok:∀ x∈Sl,x.Ok h w g
 ho:∀ x∈Sl,hoB x.k h w x.cs x.n x.m fl=true
variable{h w g:Int}{Sl:List RR}{Sj fl:∅}
theorem AnsA.at_{cl:∅}(A:AnsA h w g Sl cl Sj fl)(c:Int)(b:0<=c)(d:c<h*w):(0<=Sj.getD c.toNat 0/\Sj.getD c.toNat 0<64)/\(1<=fl.getD c.toNat 0/\fl.getD c.toNat 0<=g)/\stB (Sj.getD c.toNat 0) (fl.getD c.toNat 0)=true:=by
 have e:=A.fll;have a:=A.ml;have h1:c.toNat<fl.length:=by lia
 have h2:c.toNat<Sj.length:=by lia
 refine⟨?_,?_,A.st _ h1⟩
 . rw[List.getD,Sy h2];exact A.mm _ (S9 h2)
 . rw[List.getD,Sy h1];exact A.sg _ (S9 h1)
abbrev AtA(m g:Int)(Sj fl:∅):Prop:=∀ c:Int,0<=c->c<m->(0<=Sj.getD c.toNat 0/\Sj.getD c.toNat 0<64)/\(1<=fl.getD c.toNat 0/\fl.getD c.toNat 0<=g)/\stB (Sj.getD c.toNat 0) (fl.getD c.toNat 0)=true
variable{m z s:Int}{ms:∅}
theorem qV{y:RR}{t:TK}(Y:g<=6)(s0:1<=s)(s1:s<=g)(d:AtA m g Sj fl)(j:∀ c∈y.cs,0<=c/\c<m)(w:(y.cs.map λc=>fl.getD c.toNat 0).Nodup)(H:z∈y.cs)(U:t=.only\/t=.place\/t=.pair)(h:kF g t y Sj z s ms=true):fl.getD z.toNat 0≠s:=by
 intro e;rcases U with rfl | rfl | rfl
 . unfold kF onlyB at h;simp only[SA,Sz,SJ,Tg,Tf]at h;obtain⟨_,⟨f,i⟩,hw⟩:=h;generalize ms.getD 0 0=o at*;have K:=j o f;have a:=d _ K.1 K.2;have O:=Ep a.1.1 a.1.2 s0 #[4] a.2.1.1 #[4] hw a.2.2;exact Dk w f H i (O.trans e.symm)
 . unfold kF gM at h;simp only[SA,Sz,Tg,Tf]at h;obtain⟨C,_,i,⟨P,R⟩,D⟩:=h;generalize ms.getD 0 0=x at*
   have X:=NM (x:=x) w (λv T=>by
    obtain⟨c,u,rfl⟩:=SL.mp T;exact(d _ (j c u).1 (j c u).2).2.1) (by rw[Sx];exact C) P R
   obtain⟨o,f,F⟩:=SL.mp X;have a:=d _ (j o f).1 (j o f).2;by_cases B:o=z
   . rw[B]at F;exact i (F.symm.trans e)
   . have q:Sj.getD o.toNat 0∈(sgAt Sj (y.cs.filter λx=>!decide (x=z))).filter λm=>stB m x:=by
      refine SJ.mpr ⟨?_,?_⟩
      . unfold sgAt;exact SL.mpr ⟨o,SJ.mpr ⟨f,by simp[B]⟩,rfl⟩
      . have:=a.2.2;rw[F]at this;exact this
     rw[UU.mp D]at q;cases q
 . unfold kF pairB at h;rw[SA]at h;obtain⟨f,C⟩:=h;unfold ordB at f;simp only[SA,Sz]at f C;obtain⟨_,m0,S,p⟩:=f;unfold orM at C;generalize ms.getD 0 0=a at*;generalize ms.getD 1 0=b at*;have n:=SJ.mp m0;have A:=SJ.mp S;simp only[Tg,Tf]at n A;have G:a≠b:=λr=>by rw[r]at p;exact absurd p (Uj _)
   have I:=j a n.1;have J:=j b A.1;have k:=d _ I.1 I.2;have l:=d _ J.1 J.2;have W:=Dk w n.1 H n.2;have nb:=Dk w A.1 H A.2;have E:=Dk w n.1 A.1 G;have Q:=GG k.1.1 k.1.2 l.1.1 l.1.2 k.2.1.1 #[4] (.inl k.2.2);have L:=GG k.1.1 k.1.2 l.1.1 l.1.2 l.2.1.1 #[4] (.inr l.2.2);have M:fl.getD a.toNat 0∈(sgL (Builtin.bitOr (Sj.getD a.toNat 0) (Sj.getD b.toNat 0))).filter λx=>!decide (x=s):=SJ.mpr ⟨Q,by rw[SE (λr=>W (r.trans e.symm))];rfl⟩;have N:fl.getD b.toNat 0∈(sgL (Builtin.bitOr (Sj.getD a.toNat 0) (Sj.getD b.toNat 0))).filter λx=>!decide (x=s):=SJ.mpr ⟨L,by rw[SE (λr=>nb (r.trans e.symm))];rfl⟩;have:=Mw M N E;lia
theorem RR.ndA{r:RR}(O:r.Ok h w g):r.cs.Nodup:=by
 cases c:allK r.k with
 | false=>
  obtain⟨i,j,f,d,e⟩:=O.cl.told c;rw[e];exact List.Pairwise.map _ (λa b (h:a≠b)=>by show((a:Nat):Int)≠_;lia) d
 | true=>
  rw[(O.cl.all c).2];unfold rngL;exact List.Pairwise.map _ (λa b (h:a≠b)=>by show(0:Int)+(a:Int)≠0+(b:Int);lia) VD
theorem ES(f:Int->Int){z:Int}:∀{cs:∅},cs.Nodup->z∈cs->(cs.map f).sum=f z+((othL cs z).map f).sum
 | [],_,h=>by cases h
 | x::r,nd,h=>by
  rw[Ty]at nd;unfold othL;by_cases e:x=z
  . subst e
    have c:(r.filter λy=>!decide (y=x))=r:=UN.mpr λy b=>by
     have:y≠x:=λe=>nd.1 (e ▸ b);simp[this]
    rw[UV (by simp),c,S6,Ua]
  . have a:=ES f nd.2 ((SU.mp h).resolve_left (Vr e));unfold othL at a;rw[Uv (by simp[e]),S6,Ua,S6,Ua,a];lia
theorem Lb:((List.range 64).all λm=>(List.range 6).all λj=>!stB (m:Int) (1+(j:Int))||decide (loM (m:Int)<=1+(j:Int)/\1+(j:Int)<=hiM (m:Int)))=true:=by decide+kernel
theorem GM{x:Int}(m0:0<=m)(b:m<64)(d:1<=x)(c:x<=6)(h:stB m x=true):loM m<=x/\x<=hiM m:=by
 have t:=SK.mp (SK.mp Lb m.toNat (SQ.mpr #[4])) (x-1).toNat (SQ.mpr #[4]);have e1:((m.toNat:Nat):Int)=m:=by lia
 have a:1+(((x-1).toNat:Nat):Int)=x:=by lia
 rw[e1,a,h]at t
 simpa using t
theorem A8{α:Type}(f g:α->Int):∀{cs:List α},(∀ c∈cs,f c<=g c)->(cs.map f).sum<=(cs.map g).sum
 | [],_=>Wn _
 | x::r,h=>by
  have:=A8 f g (cs:=r) λc a=>h c (SM _ a);have:=h x SN;rw[S6,S6,Ua,Ua];lia
variable{cs:∅}
theorem oth_memA{c:Int}:c∈othL cs z↔c∈cs/\c≠z:=by
 unfold othL;rw[SJ];simp
def NX(b:AtA m g Sj fl)(f:∀ c∈cs,0<=c/\c<m):(0:Int)∉sgAt Sj cs:=λh=>by
 unfold sgAt at h;obtain⟨c,d,e⟩:=SL.mp h;have a:=b c (f c d).1 (f c d).2;rw[e,K6]at a;exact absurd a.2.2 #[1]
theorem HK{n:Int}(u:g<=6)(d:AtA m g Sj fl)(k:∀ c∈cs,0<=c/\c<m)(i:cs.Nodup)(o:z∈cs)(h:(sgAt fl cs).sum=n)(q:sumB cs n Sj z s ms=true):fl.getD z.toNat 0≠s:=by
 intro e;have b:∀ c∈othL cs z,0<=c/\c<m:=λc f=>k c (oth_memA.mp f).1
 have p:=A8 (λc=>loM (Sj.getD c.toNat 0)) (λc=>fl.getD c.toNat 0) (cs:=othL cs z) λc f=>by
  have a:=d c (b c f).1 (b c f).2;exact(GM a.1.1 a.1.2 a.2.1.1 #[4] a.2.2).1
 have v:=A8 (λc=>fl.getD c.toNat 0) (λc=>hiM (Sj.getD c.toNat 0)) (cs:=othL cs z) λc f=>by
  have a:=d c (b c f).1 (b c f).2;exact(GM a.1.1 a.1.2 a.2.1.1 #[4] a.2.2).2
 have r:=ES (λc=>fl.getD c.toNat 0) i o;unfold sumB smB at q;rw[SE (NX d b),TY,SA,TD]at q;simp only[Sz]at q;unfold sgAt at q h;rw[Te,Te]at q;have l:((othL cs z).map (loM ∘ λc=>Sj.getD c.toNat 0)).sum=((othL cs z).map λc=>loM (Sj.getD c.toNat 0)).sum:=rfl;have j:((othL cs z).map (hiM ∘ λc=>Sj.getD c.toNat 0)).sum=((othL cs z).map λc=>hiM (Sj.getD c.toNat 0)).sum:=rfl;rw[l,j]at q;have t:=q.2;lia
theorem HL{n k:Int}(B:g<=6)(k0:1<=k)(k6:k<=6)(h:AtA m g Sj fl)(y:∀ c∈cs,0<=c/\c<m)(A:z∈cs)(t:((mkAt fl cs k).length:Int)=n)(q:cntB cs n k Sj z s ms=true):fl.getD z.toNat 0≠s:=by
 intro e;have b:∀ c∈othL cs z,0<=c/\c<m:=λc w=>y c (oth_memA.mp w).1;unfold cntB at q;rw[SA]at q;have i:=q.2;by_cases j:s=k
 . rw[SY j,Sz]at i;have o:=JX (Sj:=Sj) (m:=s) (othL cs z);unfold onlN at o;rw[o]at i
   have u:=rE (f:=λc=>decide (woI (Sj.getD c.toNat 0) s=0)) (g:=λc=>decide (fl.getD c.toNat 0=k)) (l:=othL cs z) λx r d=>by
    have a:=h x (b x r).1 (b x r).2;exact SB ((Ep a.1.1 a.1.2 #[4] #[4] a.2.1.1 #[4] (SG d) a.2.2).trans j)
   have c:=HJ (p:=λc=>decide (fl.getD c.toNat 0=k)) A (SB (e.trans j));unfold mkAt at t;unfold othL at u i;lia
 . rw[SS j,Sz]at i;have o:=JW (Sj:=Sj) (m:=k) (othL cs z);unfold mayN at o;rw[o]at i
   have u:=rE (f:=λc=>decide (fl.getD c.toNat 0=k)) (g:=λc=>stB (Sj.getD c.toNat 0) k) (l:=othL cs z) λx r d=>by
    have a:=h x (b x r).1 (b x r).2;rw[SG d]at a;exact a.2.2
   have c:((cs.filter λc=>decide (fl.getD c.toNat 0=k)).length)<=((othL cs z).filter λc=>decide (fl.getD c.toNat 0=k)).length:=by
    unfold othL;rw[Wg];refine rE λx _ d=>?_;have:x≠z:=λv=>j (by rw[v]at d;exact e.symm.trans (SG d));simp only[d,this,WV,UD,VJ]
   unfold mkAt at t;lia
theorem A9:∀{xs:∅} {j:Nat},risB xs=true->j+1<xs.length->xs.getD j 0<xs.getD (j+1) 0
 | [],j,_,h=>by simp at h
 | [x],j,_,h=>by simp at h
 | x::y::r,0,hb,_=>by
  unfold risB at hb;rw[SA,Sz]at hb;exact hb.1
 | x::y::r,j+1,hb,h=>by
  unfold risB at hb;rw[SA]at hb;exact A9 (xs:=y::r) (j:=j) hb.2 (by simpa using h)
theorem NY(h:z∈cs):cs.getD (d8 cs z) 0=z:=by
 have a:=Dj h;rw[List.getD,Sy a];have:=VN (w:=a);exact eq_of_beq this
theorem p5{j:Nat}(a:j<cs.length):(sgAt fl cs).getD j 0=fl.getD (cs.getD j 0).toNat 0:=by
 unfold sgAt;rw[List.getD,SI,Sy a];show fl.getD (cs[j]).toNat 0=_;rw[show cs.getD j 0=cs[j] by rw[List.getD,Sy a];rfl]
theorem FZ(v:g<=6)(d:AtA m g Sj fl)(t:∀ c∈cs,0<=c/\c<m)(k:z∈cs)(l:risB (sgAt fl cs)=true)(q:stepB cs Sj z s ms=true):fl.getD z.toNat 0≠s:=by
 intro e;unfold stepB stpB at q;rw[SA,TD]at q;have n:=Dj k;have p:=NY k;have u:(sgAt fl cs).length=cs.length:=by unfold sgAt;rw[Sx]
 rcases q.2 with q | q
 . obtain⟨o,b,h⟩:=Ug.mp q;have f:=t o (Gz k b);have a:=d o f.1 f.2;unfold ahdL at b;by_cases h0:0<d8 cs z
   . rw[SY h0]at b;have i:=SO.mp b;have r:=A9 (j:=d8 cs z-1) l #[4];rw[show d8 cs z-1+1=d8 cs z by lia,p5 #[4],p5 n,p,← i,e]at r;unfold nogB at h;have:=SG (SK.mp h _ ((cp a.1.1 _).mpr a.2.2));lia
   . rw[SS h0]at b;cases b
 . obtain⟨o,b,h⟩:=Ug.mp q;have f:=t o (GA b);have a:=d o f.1 f.2;unfold behL at b;by_cases h0:d8 cs z+1<cs.length
   . rw[SY h0]at b;have i:=SO.mp b;have r:=A9 (j:=d8 cs z) l #[4];rw[p5 n,p5 h0,p,← i,e]at r;unfold nolB at h;have:=SG (SK.mp h _ ((cp a.1.1 _).mpr a.2.2));lia
   . rw[SS h0]at b;cases b
theorem Lc{k:RK}{n:Int}{xs ys:∅}(e:∀ c∈cs,xs.getD c.toNat 0=ys.getD c.toNat 0):hoB k h w cs n m xs=hoB k h w cs n m ys:=by
 have e1:sgAt xs cs=sgAt ys cs:=by unfold sgAt;exact Vf e
 have e2:∀ m,mkAt xs cs m=mkAt ys cs m:=λm=>by
  unfold mkAt;exact Wo λc a=>by rw[e c a]
 unfold hoB;cases k <;> simp only[e1,e2]
theorem BU{f:∅}{c:Nat}(a:c<f.length):(setL f z s).getD c 0=if (c:Int)=z then s else f.getD c 0:=by
 unfold setL;rw[List.getD,SI,Tz a];rfl
theorem ET{Sj fl:∅}:∀{rest:∅} {fs:List ∅} {f:∅},f∈fs->(∀ o∈rest,fl.getD o.toNat 0∈sgL (Sj.getD o.toNat 0))->rest.foldl (λf o=>setL f o (fl.getD o.toNat 0)) f∈wfold Sj rest fs
 | [],_,_,hf,_=>hf
 | o::r,fs,f,hf,h=>by
  unfold wfold;rw[Ti,Ti];refine ET (fs:=extS fs o (sgL (Sj.getD o.toNat 0))) ?_ λb a=>h b (SM _ a);unfold extS;exact Uq.mpr ⟨f,hf,SL.mpr ⟨_,h o SN,rfl⟩⟩
theorem GN{fl:∅}{c:Int}(d:0<=c):∀{rest f:∅},c.toNat<f.length->((rest.foldl (λf o=>setL f o (fl.getD o.toNat 0)) f).getD c.toNat 0=if c∈rest then fl.getD c.toNat 0 else f.getD c.toNat 0)
 | [],f,_=>by simp
 | o::r,f,h=>by
  rw[Ti,GN d (rest:=r) (by rw[tO];exact h),BU h];by_cases a:c∈r
  . rw[SY a,SY (SM _ a)]
  . rw[SS a];have b:((c.toNat:Nat):Int)=c:=by lia
    rw[b];by_cases e:c=o
    . rw[SY e,SY (by rw[e];exact SN),e]
    . rw[SS e,SS (by simp[e,a])]
theorem F0{k:RK}{n:Int}(B:Sj.length=(h*w).toNat)(i:AtA (h*w) g Sj fl)(t:∀ c∈cs,0<=c/\c<h*w)(u:hoB k h w cs n m fl=true)(q:waysB k h w cs n m Sj z s ms=true):fl.getD z.toNat 0≠s:=by
 intro e;have b:∀ c∈othL cs z,0<=c/\c<h*w:=λc l=>t c (oth_memA.mp l).1;unfold waysB at q;rw[SE (NX i b),TY,SA,SA,Tg]at q;have r:=q.2.2
 have p:=ET (Sj:=Sj) (fl:=fl) (rest:=othL cs z) (fs:=[setL (List.replicate Sj.length 0) z s]) SN λo j=>by
  have a:=i o (b o j).1 (b o j).2;exact(cp a.1.1 _).mpr a.2.2
 have y:hoB k h w cs n m (List.foldl (λf o=>setL f o (fl.getD o.toNat 0)) (setL (List.replicate Sj.length 0) z s) (othL cs z))=hoB k h w cs n m fl:=Lc λc l=>by
  have A:=t c l;have v:c.toNat < (setL (List.replicate Sj.length 0) z s).length:=by rw[tO,U1];lia
  rw[GN A.1 v];by_cases d:c=z
  . rw[SS (λx=>(oth_memA.mp x).2 d),BU (by rw[U1];lia),SY #[4],d,e]
  . rw[SY (oth_memA.mpr ⟨l,d⟩)]
 rw[Vt]at r;have:=r _ p;rw[y,u]at this;exact this rfl
theorem EU(i:0<w)(c:joinB h w (mkAt fl (rngL 0 (h*w)) m)=true):rD h w m fl:=by
 intro a d b g;have c:=@SG _ (Classical.propDecidable _) c;have e:mkAt fl (rngL 0 (h*w)) m=mh h w m fl:=rfl;rw[e]at c;rcases c with c | ⟨_,c⟩
 . rw[c]at d;cases d
 . have f:∀ x∈mh h w m fl,0<=x/\x<h*w:=λx j=>(sgC29_mem.mp j).1;exact(RC.symm i f (c a d)).trans (c b g)
theorem LH(F:FlOk h w g)(d:(mkAt fl (rngL 0 (h*w)) m).all (twoB h w (mkAt fl (rngL 0 (h*w)) m))=true):Dn h w m fl:=by
 intro a f;have e:mkAt fl (rngL 0 (h*w)) m=mh h w m fl:=rfl;rw[e]at d;have t:=SG (SK.mp d a f);have i:=(sgC29_mem.mp f).1;rw[← t]
 congr 1
 refine Wo λx j=>?_;have b:=(rq F i.1 i.2).2 x j;rw[Tb,Sz,Sz,sgC29_mem];exact⟨λc=>⟨b,c⟩,λc=>c.2⟩
theorem NZ(f:(!((squL h w).any λj=>j.all λc=>decide (c∈mkAt fl (rngL 0 (h*w)) m)))=true)(d:∀ q∈squL h w,∀ c∈q,0<=c/\c<h*w):zI h w m fl:=by
 intro i n l;have e:mkAt fl (rngL 0 (h*w)) m=mh h w m fl:=rfl;rw[e,Tg,Vt]at f
 have g:sqL w i∈squL h w:=by
  unfold squL;exact SL.mpr ⟨i,SJ.mpr ⟨SQ.mpr n,l⟩,rfl⟩
 have:=f _ g;refine UG λk=>this (SK.mpr λc a=>SB (sgC29_mem.mpr ⟨d _ g c a,?_⟩));exact UG λb=>k ⟨c,a,b⟩
def ML(F:FlOk h w g):∀ q∈squL h w,∀ c∈q,0<=c/\c<h*w:=λq e c d=>by
 obtain⟨i,j,a,rfl⟩:=oi e;have f:=F.w0;have b:=Gx f (by omega:(0:Int)<=i) a;unfold sqL at d;simp only[SU,Tw,Uz]at d;omega
theorem N0{cl:∅}{t:TK}{r:Int}(A:AnsA h w g Sl cl Sj fl)(K:alwA h w g Sl cl Sj t r z s ms=true):fl.getD z.toNat 0≠s:=by
 unfold alwA at K;rw[SA]at K;obtain⟨f,q⟩:=K;obtain⟨M,P,s0,s1,Q⟩:=bQ f;have U:=A.fll;have B:=A.F.g1;have W:=A.F.w0;by_cases D:t=.clue
 . subst D;intro e;unfold strA at q;change cj g Sl cl Sj .clue r z s ms=true at q;unfold cj clueB at q;simp only[SA,Sz,Tg,Tf]at q;rcases A.cu z.toNat #[4] with c | c
   . exact q.2.1 c
   . exact q.2.2 (c.trans e)
 . obtain⟨r0,y,C,a,x⟩:=dZ D Q;have N:=SH C;have O:=A.ok y N;have d:=A.ho y N;have E:=Vk O A.F;have p:∀ c∈y.cs,0<=c/\c<h*w:=λc I=>by have:=E.2 c I;lia
   have T:=RR.ndA O;have l:bX h w Sl Sj t r z s ms=fL h w y Sj t z s ms:=by unfold bX;rw[C]
   have v:dz h w Sl Sj t r z s ms=kI h w t y Sj z s ms:=by unfold dz;rw[C]
   have o:cj g Sl cl Sj t r z s ms=kF g t y Sj z s ms:=by
    unfold cj;cases t <;> first | exact absurd rfl D | (dsimp only;rw[C])
   have H:y.k=.Unlike->(y.cs.map λc=>fl.getD c.toNat 0).Nodup:=λb=>by
    rw[b]at d;exact(xH _).mp (SG d)
   have n:sgnK y.k=true->allK y.k=true->HI h w y.m y.k fl->Ans29 h w g y.m y.k Sj fl:=λL _ R=>⟨A.F,U,A.ml,A.mm,A.sg,A.st,(O.m0 L).1,(O.m0 L).2,R⟩;have j:allK y.k=true->y.cs=rngL 0 (h*w):=λS=>(O.cl.all S).2;unfold strA at q;have i:=A.at_
   cases t with
   | clue=>exact absurd rfl D
   | only=>
    have b:y.k=.Unlike:=by revert a;cases y.k <;> intro a <;> first | rfl | (cases a;done)
    change cj g Sl cl Sj .only r z s ms=true at q;rw[o]at q;exact qV B s0 s1 i p (H b) x (.inl rfl) q
   | place=>
    have b:y.k=.Unlike:=by revert a;cases y.k <;> intro a <;> first | rfl | (cases a;done)
    change cj g Sl cl Sj .place r z s ms=true at q;rw[o]at q;exact qV B s0 s1 i p (H b) x (.inr (.inl rfl)) q
   | pair=>
    have b:y.k=.Unlike:=by revert a;cases y.k <;> intro a <;> first | rfl | (cases a;done)
    change cj g Sl cl Sj .pair r z s ms=true at q;rw[o]at q;exact qV B s0 s1 i p (H b) x (.inr (.inr rfl)) q
   | count=>
    have b:y.k=.Count:=by revert a;cases y.k <;> intro a <;> first | rfl | (cases a;done)
    change bX h w Sl Sj .count r z s ms=true at q;rw[l]at q;rw[b]at d;have m0:=O.m0 (by rw[b];rfl);exact HL B m0.1 #[4] i p x (SG d) q
   | step=>
    have b:y.k=.Rising:=by revert a;cases y.k <;> intro a <;> first | rfl | (cases a;done)
    change bX h w Sl Sj .step r z s ms=true at q;rw[l]at q;rw[b]at d;exact FZ B i p x d q
   | sum=>
    have b:y.k=.Sum:=by revert a;cases y.k <;> intro a <;> first | rfl | (cases a;done)
    change bX h w Sl Sj .sum r z s ms=true at q;rw[l]at q;rw[b]at d;exact HK B i p T x (SG d) q
   | square=>
    have b:y.k=.NoSquare:=by revert a;cases y.k <;> intro a <;> first | rfl | (cases a;done)
    change dz h w Sl Sj .square r z s ms=true at q;rw[v]at q;have u:=j (by rw[b];rfl)
    have R:zI h w y.m fl:=by
     rw[b,u]at d;exact NZ d (ML A.F)
    exact OG (n (by rw[b];rfl) (by rw[b];rfl) (by rw[b];exact R)) R q
   | reach=>
    have b:y.k=.Joined\/y.k=.Ring:=by revert a;cases y.k <;> intro a <;> first | exact .inl rfl | exact .inr rfl | (cases a;done)
    change dz h w Sl Sj .reach r z s ms=true at q;rw[v]at q;change reaB h w y.cs y.m Sj z s ms=true at q;have G:allK y.k=true/\sgnK y.k=true:=by rcases b with e | e <;> rw[e] <;> exact⟨rfl,rfl⟩
    have u:=j G.1;rw[u]at q
    have J:rD h w y.m fl:=by
     rw[u]at d;rcases b with e | e
     . rw[e]at d;exact EU #[4] d
     . rw[e]at d;exact EU #[4] ((SA _ _).mp d).1
    have R:HI h w y.m y.k fl:=by
     rw[u]at d;rcases b with e | e
     . rw[e];exact J
     . rw[e]at d ⊢;exact⟨J,LH A.F ((SA _ _).mp d).2⟩
    exact OF (n G.2 G.1 R) J M P q
   | turn=>
    have b:y.k=.Ring:=by revert a;cases y.k <;> intro a <;> first | rfl | (cases a;done)
    change dz h w Sl Sj .turn r z s ms=true at q;rw[v]at q;have u:=j (by rw[b];rfl)
    have R:rD h w y.m fl/\Dn h w y.m fl:=by
     rw[b,u]at d;have d:=(SA _ _).mp d;exact⟨EU #[4] d.1,LH A.F d.2⟩
    exact NW (n (by rw[b];rfl) (by rw[b];rfl) (by rw[b];exact R)) R.2 M P q
   | ways=>
    change bX h w Sl Sj .ways r z s ms=true at q;rw[l]at q;exact F0 A.ml i p d q
variable{m:Int}
theorem EV{x:Int}(m0:0<=m)(b:m<64):x∈sgL m↔∃ j:Nat,j<6/\stB m (1+(j:Int))=true/\x=1+(j:Int):=by
 rw[(dL m0 b).2,SL];constructor
 . rintro⟨j,a,rfl⟩;obtain⟨h1,h2⟩:=SJ.mp a;exact⟨j,by simp at h1;lia,h2,rfl⟩
 . rintro⟨j,a,h2,rfl⟩;refine⟨j,SJ.mpr ⟨?_,h2⟩,rfl⟩;have:j=0\/j=1\/j=2\/j=3\/j=4\/j=5:=by lia
   rcases this with rfl | rfl | rfl | rfl | rfl | rfl <;> simp
variable{a b:Int}
def Sub30.sg(X:Sub30 a b):∀ x∈sgL a,x∈sgL b:=λx c=>by
 obtain⟨j,d,h2,rfl⟩:=(EV X.a0 X.a1).mp c;exact(EV X.b0 X.b1).mpr ⟨j,d,X.st _ h2,rfl⟩
theorem Sub30.len(X:Sub30 a b):(sgL a).length<=(sgL b).length:=by
 rw[(dL X.a0 X.a1).2,(dL X.b0 X.b1).2,Sx,Sx,← T2,← T2];exact Vy λj _ c=>X.st _ c
theorem Sub30.zero(X:Sub30 a b)(c:b=0):a=0:=by
 subst c;by_cases h:a=0
 . exact h
 . have h1:=(Hu X.a0 X.a1 h).1.1;have h2:=X.len;rw[Jw]at h2;simp at h2;rw[h2]at h1;simp at h1
theorem N1:((List.range 64).all λm=>decide (m=0)||((decide (loM (m:Int)∈sgL (m:Int))&&decide (hiM (m:Int)∈sgL (m:Int)))&&(sgL (m:Int)).all λx=>decide (loM (m:Int)<=x)&&decide (x<=hiM (m:Int))))=true:=by decide+kernel
theorem LI(m0:0<=m)(d:m<64)(e:m≠0):(loM m∈sgL m/\hiM m∈sgL m)/\∀ x∈sgL m,loM m<=x/\x<=hiM m:=by
 have t:=SK.mp N1 m.toNat (SQ.mpr #[4]);have e1:((m.toNat:Nat):Int)=m:=by lia
 rw[e1,TD,Sz,SA,SA,Sz,Sz,SK]at t;rcases t with t | ⟨b,a⟩
 . lia
 . refine⟨b,λx c=>?_⟩;have:=a x c;rw[SA,Sz,Sz]at this;exact this
theorem Sub30.lo(X:Sub30 a b)(f:a≠0):loM b<=loM a/\hiM a<=hiM b:=by
 have g:b≠0:=λe=>f (X.zero e);have d:=LI X.a0 X.a1 f;have c:=LI X.b0 X.b1 g;exact⟨(c.2 _ (X.sg _ d.1.1)).1,(c.2 _ (X.sg _ d.1.2)).2⟩
def gh(rest Sj a:∅):Prop:=∀ o∈rest,Sub30 (a.getD o.toNat 0) (Sj.getD o.toNat 0)
variable{Sj ms:∅}{s:Int}
theorem Ld{cs a:∅}{n z:Int}(X:gh (othL cs z) Sj a)(s0:1<=s)(i:s<=6)(h:cntB cs n m Sj z s ms=true):cntB cs n m a z s ms=true:=by
 unfold cntB at h ⊢;rw[SA]at h ⊢;refine⟨h.1,?_⟩;have h2:=h.2
 split at h2
 . rename_i e
   rw[SY e];rw[Sz]at h2 ⊢
   have:=jC (f:=λc=>Sj.getD c.toNat 0) (g:=λc=>a.getD c.toNat 0) (p:=λk=>decide (woI k s=0)) (q:=λk=>decide (woI k s=0)) (cs:=othL cs z) λc d b=>by
    rw[Sz]at b ⊢;exact(X c d).wo s0 i b
   unfold sgAt at h2 ⊢;lia
 . rename_i e
   rw[SS e];rw[Sz]at h2 ⊢;have:=jC (f:=λc=>a.getD c.toNat 0) (g:=λc=>Sj.getD c.toNat 0) (p:=λk=>stB k m) (q:=λk=>stB k m) (cs:=othL cs z) λc d b=>(X c d).st _ b;unfold sgAt at h2 ⊢;lia
theorem BV{rest a:∅}(X:gh rest Sj a)(h:0∈sgAt Sj rest):0∈sgAt a rest:=by
 unfold sgAt at h ⊢;obtain⟨o,b,e⟩:=SL.mp h;exact SL.mpr ⟨o,b,(X o b).zero e⟩
theorem EW{Sj a:∅}:∀{rest:∅},gh rest Sj a->0∉sgAt a rest->((sgAt Sj rest).map loM).sum<=((sgAt a rest).map loM).sum/\((sgAt a rest).map hiM).sum<=((sgAt Sj rest).map hiM).sum
 | [],_,_=>⟨Wn _,Wn _⟩
 | o::r,X,h=>by
  have f:gh r Sj a:=λc g=>X c (SM _ g);have e:∀ l:∅,sgAt l (o::r)=l.getD o.toNat 0::sgAt l r:=λl=>rfl;rw[e]at h;have i:=EW f λb=>h (SM _ b);have h1:=(X o SN).lo λd=>h (by rw[d];exact SN);rw[e,e,S6,S6,S6,S6,Ua,Ua,Ua,Ua];lia
theorem Le{rest a:∅}{n:Int}(X:gh rest Sj a)(h:smB (sgAt Sj rest) n s=true):smB (sgAt a rest) n s=true:=by
 unfold smB at h ⊢;by_cases h0:0∈sgAt a rest
 . rw[SB h0,UY]
 . have h1:0∉sgAt Sj rest:=λe=>h0 (BV X e);rw[SE h0,TY];rw[SE h1,TY]at h;have b:=EW X h0;rw[TD,Sz,Sz]at h ⊢;lia
theorem Lf(X:Sub30 a b)(h:nogB s b=true):nogB s a=true:=by
 unfold nogB at h ⊢;rw[SK]at h ⊢;exact λx c=>h x (X.sg x c)
theorem Lg(X:Sub30 a b)(h:nolB s b=true):nolB s a=true:=by
 unfold nolB at h ⊢;rw[SK]at h ⊢;exact λx c=>h x (X.sg x c)
theorem Lh{cs a:∅}{z:Int}(X:gh (ahdL cs z++behL cs z) Sj a)(h:stpB cs Sj z s=true):stpB cs a z s=true:=by
 unfold stpB at h ⊢;rw[TD,Ug,Ug]at h ⊢;rcases h with ⟨o,b,c⟩ | ⟨o,b,c⟩
 . exact .inl ⟨o,b,Lf (X o (SX.mpr (.inl b))) c⟩
 . exact .inr ⟨o,b,Lg (X o (SX.mpr (.inr b))) c⟩
theorem BW{Sj a:∅}:∀{rest:∅} {n b:Nat},gh rest Sj a->b<=n->(sgAt a rest).foldl (λp m=>p*(sgL m).length) b<=(sgAt Sj rest).foldl (λp m=>p*(sgL m).length) n
 | [],_,_,_,h=>h
 | o::r,n,b,X,h=>by
  have d:gh r Sj a:=λc f=>X c (SM _ f);have e:∀ l:∅,sgAt l (o::r)=l.getD o.toNat 0::sgAt l r:=λl=>rfl;rw[e,e,Ti,Ti];exact BW d (Wb h (X o SN).len)
theorem zJ{Sj b:∅}:∀{rest:∅} {fs fs':List ∅},gh rest Sj b->(∀ f∈fs',f∈fs)->∀ f∈wfold b rest fs',f∈wfold Sj rest fs
 | [],_,_,_,h,f,hf=>h f hf
 | o::r,fs,fs',X,h,f,hf=>by
  have i:gh r Sj b:=λc j=>X c (SM _ j);refine zJ (rest:=r) (fs:=extS fs o (sgL (Sj.getD o.toNat 0))) (fs':=extS fs' o (sgL (b.getD o.toNat 0))) i (λg k=>?_) f hf;obtain⟨a,e,s,d,rfl⟩:=mem_extS.mp k;exact mem_extS.mpr ⟨a,h a e,s,(X o SN).sg s d,rfl⟩
theorem JY{k:RK}{h w:Int}{cs a:∅}{n z:Int}(X:gh (othL cs z) Sj a)(e:a.length=Sj.length)(b:waysB k h w cs n m Sj z s ms=true):waysB k h w cs n m a z s ms=true:=by
 unfold waysB at b ⊢;rw[SA,SA,TD]at b ⊢;refine⟨b.1,?_,?_⟩
 . have h1:=SG b.2.1;have h2:prodW (sgAt a (othL cs z))<=prodW (sgAt Sj (othL cs z)):=BW X (SZ 1);exact SB #[4]
 . rcases b.2.2 with h0 | h0
   . exact .inl (SB (BV X (SG h0)))
   . refine .inr ?_;rw[Tg,Vt]at h0 ⊢;intro f c;refine h0 f ?_;unfold wfill at c ⊢;rw[e]at c;exact zJ X (λg d=>d) f c
theorem N4{h w:Int}{x:RR}{t:TK}{a:∅}{z:Int}(d:K39 t)(X:gh (NP x t z) Sj a)(e:a.length=Sj.length)(s0:1<=s)(c:s<=6)(b:fL h w x Sj t z s ms=true):fL h w x a t z s ms=true:=by
 rcases d with rfl | rfl | rfl | rfl
 . exact Ld X s0 c b
 . have b:sumB x.cs x.n Sj z s ms=true:=b;show sumB x.cs x.n a z s ms=true;unfold sumB at b ⊢;rw[SA]at b ⊢;exact⟨b.1,Le X b.2⟩
 . have b:stepB x.cs Sj z s ms=true:=b;show stepB x.cs a z s ms=true;unfold stepB at b ⊢;rw[SA]at b ⊢;exact⟨b.1,Lh X b.2⟩
 . exact JY X e b
variable{s:Int}
theorem Li{m:Int}(a:m≠0)(h:woI m s=0):stB m s=true:=by
 unfold woI at h
 split at h
 . assumption
 . exact absurd h a
variable{cs:∅}
theorem MM{h w:Int}{st x:Int}:rcB h w cs st x=true↔RC h w cs st x:=by unfold rcB;exact @Vp _ (Classical.propDecidable _)
theorem rcB_no{h w:Int}{st x:Int}:(!rcB h w cs st x)=true↔¬ RC h w cs st x:=by rw[Tg,← VH,MM]
variable{Sl:List RR}{Sj:∅}
theorem JZ{h w g:Int}{t:TK}{r z:Int}(c:t≠.place)(e:t≠.square)(b:t≠.turn)(a:t≠.only)(f:t≠.reach)(d:t≠.pair):mtF h w g Sl Sj t r z s=[[]]:=by
 unfold mtF;rw[SS c,SS e,SS b]
 split
 . rfl
 . rw[SS a,SS f,SS d]
variable{ms:∅}
theorem i3(h:ms.length=1):ms=[ms.getD 0 0]:=by
 match ms,h with
 | [a],_=>rfl
theorem zK(h:ms.length=2):ms=[ms.getD 0 0,ms.getD 1 0]:=by
 match ms,h with
 | [a,b],_=>rfl
def OH(a:0∉Sj){o:Int}(h:o.toNat<Sj.length):Sj.getD o.toNat 0≠0:=λe=>a (e ▸ aT h)
theorem rng1_mem{g o:Int}:o∈rngL 1 (g+1)↔1<=o/\o<=g:=by
 unfold rngL;rw[SL];constructor
 . rintro⟨k,c,rfl⟩;have:=SQ.mp c;lia
 . intro⟨a,b⟩;exact⟨(o-1).toNat,SQ.mpr #[4],by lia⟩
theorem HM{p:Int->Bool}{a b:Int}(c:a∈cs.filter p)(d:b∈cs.filter p)(h:(cs.filter p).findIdx (· ==a) < (cs.filter p).findIdx (· ==b)):cs.findIdx (· ==a)<cs.findIdx (· ==b):=by
 induction cs with
 | nil=>cases c
 | cons x cs j=>
  rw[Vv,Vv];by_cases f:p x=true
  . rw[Tk,SY f]at c d h;rw[Vv,Vv]at h;by_cases e1:(x==a)=true
    . rw[e1]at h ⊢;by_cases e2:(x==b)=true
      . rw[e2]at h;simp at h
      . rw[VH]at e2;rw[e2];simp
    . rw[VH]at e1;rw[e1]at h ⊢;by_cases e2:(x==b)=true
      . rw[e2]at h;simp at h
      . rw[VH]at e2;rw[e2]at h ⊢;have i:a∈cs.filter p:=(SU.mp c).elim (λe=>by rw[e]at e1;simp at e1) id;have g:b∈cs.filter p:=(SU.mp d).elim (λe=>by rw[e]at e2;simp at e2) id;have:=j i g (by simpa using h)
        simpa using this
  . rw[Tk,SS f]at c d h
    have e1:(x==a)=false:=by
     rw[Bool.eq_false_iff];intro e;exact f (UJ.mp e ▸ (SJ.mp c).2)
    have e2:(x==b)=false:=by
     rw[Bool.eq_false_iff];intro e;exact f (UJ.mp e ▸ (SJ.mp d).2)
    rw[e1,e2];have:=j c d h
    simpa using this
theorem N5{xs:∅}(h:(xs.filter λx=>!decide (x=s)).length<=1)(a:xs.Nodup):xs.length<=2:=by
 have:=fW (ys:=s::xs.filter λx=>!decide (x=s)) a λx b=>by
  by_cases e:x=s
  . rw[e];exact SN
  . exact SM _ (SJ.mpr ⟨b,by simpa using e⟩)
 rw[S2]at this;lia
theorem HN{k:RK}(h:goesB .reach k=true):allK k=true:=by cases k <;> first | rfl | cases h
theorem compA{c:WY}{h w g:Int}{cl:∅}{t:TK}{r z:Int}(R:b9 c h w g Sl)(X:MkP g (h*w).toNat Sj)(nz:0∉Sj)(f:formB h w g Sl t r z s=true)(a:strA h w g Sl cl Sj t r z s ms=true):
  ∃ d∈mtF h w g Sl Sj t r z s,strA h w g Sl cl Sj t r z s d=true:=by
 obtain⟨z0,z1,s0,s1,Sw⟩:=bQ f;have F:=R.F;have g0:=F.g0;have g6:=F.g1;have ad:=dP g0 g6
 have Q:∀ o:Int,0<=o->o<h*w->(0<=Sj.getD o.toNat 0/\Sj.getD o.toNat 0<64)/\Sj.getD o.toNat 0≠0:=λo o0 o1=>by
  have hl:o.toNat<Sj.length:=by rw[X.len];lia
  have:=X.mm _ (aT hl);exact⟨by lia,OH nz hl⟩
 by_cases T:t=.clue
 . subst T
   have e:ms=[]:=by
    have:clueB cl z s ms=true:=a;unfold clueB at this;rw[SA]at this;exact SG this.1
   exact⟨[],by rw[JZ #[1] #[1] #[1] #[1] #[1] #[1]];simp,e ▸ a⟩
 obtain⟨r0,y,l,D,hz⟩:=dZ T Sw;have O:=R.ok y (SH l);have ac:∀ t',t=t'->(ms∈mtF h w g Sl Sj t' r z s)->∃ d∈mtF h w g Sl Sj t r z s,strA h w g Sl cl Sj t r z s d=true:=λt' e q=>⟨ms,e ▸ q,a⟩;have nil:(t≠.place)->(t≠.square)->(t≠.turn)->(t≠.only)->(t≠.reach)->(t≠.pair)->ms=[]->∃ d∈mtF h w g Sl Sj t r z s,strA h w g Sl cl Sj t r z s d=true:=λH G M a4 a5 a6 e=>⟨[],by rw[JZ H G M a4 a5 a6];simp,e ▸ a⟩
 cases t with
 | clue=>exact absurd rfl T
 | only=>
  have q:onlyB y.cs Sj z s ms=true:=by
   have:=a;unfold strA cj at this;simp only[lineK,UA,l]at this;exact this
  unfold onlyB at q;simp only[SA,Sz]at q;refine⟨ms,?_,a⟩;unfold mtF;rw[SS #[1],SS #[1],SS #[1],l];dsimp only;rw[SY rfl];unfold onlM;rw[i3 q.1,SL];exact⟨_,SJ.mpr ⟨srt_mem.mpr q.2.1,SB q.2.2⟩,rfl⟩
 | place=>
  have q:gM g y.cs Sj z s ms=true:=by
   have:=a;unfold strA cj at this;simp only[lineK,UA,l]at this;exact this
  unfold gM at q;simp only[SA,Sz,Tg,Tf]at q;refine⟨ms,?_,a⟩;unfold mtF;rw[SY rfl];unfold plaM;rw[i3 q.2.1,SL];exact⟨_,SJ.mpr ⟨rng1_mem.mpr q.2.2.2.1,by simpa using q.2.2.1⟩,rfl⟩
 | pair=>
  have q:pairB y.cs Sj z s ms=true:=by
   have:=a;unfold strA cj at this;simp only[lineK,UA,l]at this;exact this
  unfold pairB ordB at q;simp only[SA,Sz]at q;obtain⟨⟨l2,H,G,M⟩,U⟩:=q;refine⟨ms,?_,a⟩;unfold mtF;rw[SS #[1],SS #[1],SS #[1],l];dsimp only;rw[SS #[1],SS #[1],SY rfl];have inr:∀ o∈y.cs,0<=o/\o<h*w:=λo p=>by have:=(Vk O F).2 o p;lia
  have b1:=inr _ (SJ.mp H).1;have b2:=inr _ (SJ.mp G).1;have E:=(Q _ b1.1 b1.2).1;have C:=(Q _ b2.1 b2.2).1;have e2:(sgL (orM Sj ms)).length<=2:=N5 U (rz _)
  have v:∀ o:Int,(0<=Sj.getD o.toNat 0/\Sj.getD o.toNat 0<64)->(∀ x,1<=x->x<=6->stB (Sj.getD o.toNat 0) x=true->stB (orM Sj ms) x=true)->((sgL (Sj.getD o.toNat 0)).length:Int)<=2:=λo b q=>by
   have bo:0<=orM Sj ms:=by
    show 0<=Builtin.bitOr (Sj.getD (ms.getD 0 0).toNat 0) (Sj.getD (ms.getD 1 0).toNat 0);exact(zd #[4] #[4] #[4] #[4]).1
   have:=fW (rz (Sj.getD o.toNat 0)) λx u=>by
    have ab:=(cp b.1 x).mp u;have bx:=rC (g:=6) (m:=Sj.getD o.toNat 0) #[1] #[1] b.1 (by simpa using b.2) u;exact(cp bo x).mpr (q x bx.1 bx.2 ab)
   lia
  unfold paiM;rw[zK l2,Uq];refine⟨ms.getD 0 0,SJ.mpr ⟨srt_mem.mpr H,SB ?_⟩,SL.mpr ⟨ms.getD 1 0,SJ.mpr ⟨SJ.mpr ⟨srt_mem.mpr G,SB ?_⟩,SB ?_⟩,rfl⟩⟩
  . exact v _ E λx S W u=>by unfold orM;rw[Dl E.1 E.2 C.1 C.2 S W,u];rfl
  . exact v _ C λx S W u=>by unfold orM;rw[Dl E.1 E.2 C.1 C.2 S W,u,WX]
  . have:=HM H G M;lia
 | square=>
  have q:squB h w y.m Sj z s ms=true:=by
   have:=a;unfold strA dz at this;simp only[lineK,nbrK,UQ,TM,l,kI]at this;exact this
  unfold squB at q;simp only[SA,Sz,Tg,Tf]at q;refine⟨ms,?_,a⟩;unfold mtF;rw[SS #[1],SY rfl];unfold squM;rw[i3 q.2.1,SL];have I:=q.2.2.1;unfold rosL at I
  cases e:(squL h w).find? (rosP (ms.getD 0 0) z) with
  | none=>rw[e]at I;exact absurd rfl I
  | some sq=>
   have K:=WH e;unfold rosP at K;rw[SA,Sz]at K;exact⟨sq,SJ.mpr ⟨UF e,K.2⟩,by rw[K.1]⟩
 | turn=>
  have q:turnB h w y.m Sj z s ms=true:=by
   have:=a;unfold strA dz at this;simp only[lineK,nbrK,UQ,TM,l,kI]at this;exact this
  refine⟨ms,?_,a⟩;unfold mtF;rw[SS #[1],SS #[1],SY rfl];unfold turM;unfold turnB at q;by_cases e:ms=[]
  . rw[e];exact SN
  . rw[SS e]at q;simp only[SA,Sz]at q;rw[i3 q.1];exact SM _ (SL.mpr ⟨_,q.2.1,rfl⟩)
 | reach=>
  have str:∀ d,strA h w g Sl cl Sj .reach r z s d=reaB h w y.cs y.m Sj z s d:=λd=>by
   unfold strA dz;simp only[lineK,nbrK,UQ,TM,l,kI]
  have mt:mtF h w g Sl Sj .reach r z s=reaM h w y.cs y.m Sj z s:=by
   unfold mtF;rw[SS #[1],SS #[1],SS #[1],l];dsimp only;rw[SS #[1],SY rfl]
  rw[str]at a;simp only[str,mt];have A:y.cs=rngL 0 (h*w):=(O.cl.all (HN D)).2;have ae:=O.m0 (pX D)
  have i:∀ o,anoB h w Sj z y.m o=true->o∈sureA y.cs Sj y.m z:=λo p=>by
   unfold anoB at p;simp only[SA,Sz,Tg,Tf]at p;exact SJ.mpr ⟨SJ.mpr ⟨by rw[A];exact mem_rngL.mpr p.1,by simpa using p.2.1⟩,SB p.2.2⟩
  have j:∀ o∈sureA y.cs Sj y.m z,anoB h w Sj z y.m o=true:=λo p=>by
   obtain⟨h1,h2⟩:=SJ.mp p;obtain⟨h3,h4⟩:=SJ.mp h1;rw[A]at h3;have:=mem_rngL.mp h3;unfold anoB;rw[SB this.1,SB this.2,h4,h2];rfl
  have Z:∀ o∈sureA y.cs Sj y.m z,o∈thrL y.cs Sj y.m z:=λo p=>by
   obtain⟨h1,h2⟩:=SJ.mp p;have h3:=(SJ.mp h1).1;rw[A]at h3;have b:=mem_rngL.mp h3;exact SJ.mpr ⟨h1,Li (Q o b.1 b.2).2 (SG h2)⟩
  unfold reaB at a;rw[SA,SK]at a;obtain⟨J,a⟩:=a;by_cases e:s=y.m
  . rw[SY e,SA,Sz]at a;have B:=i3 a.1;have Y:anoB h w Sj z y.m (ms.getD 0 0)=true:=J _ (B ▸ SO.mpr rfl |> λq=>by rw[B];simp);refine⟨ms,?_,?_⟩
    . unfold reaM;rw[SY e,B,SL];exact⟨_,SJ.mpr ⟨i _ Y,a.2⟩,rfl⟩
    . unfold reaB;rw[SA,SK,SY e,SA,Sz];exact⟨J,a⟩
  . rw[SS e,SA,SA,Sz,Tg,Tf,rcB_no]at a;obtain⟨l2,I,nr⟩:=a;have B:=zK l2;have Y:anoB h w Sj z y.m (ms.getD 0 0)=true:=J _ (by rw[B];simp);have N:anoB h w Sj z y.m (ms.getD 1 0)=true:=J _ (by rw[B];simp);have i1:=i _ Y;have i2:=i _ N
    have hr:∀ x∈thrL y.cs Sj y.m z,0<=x/\x<h*w:=λx u=>by
     have h3:=(SJ.mp (SJ.mp u).1).1;rw[A]at h3;exact mem_rngL.mp h3
    have P:(sureA y.cs Sj y.m z).getD 0 0∈sureA y.cs Sj y.m z:=aT (Vu i1);generalize hq:(sureA y.cs Sj y.m z).getD 0 0=q0 at P
    have go:∀ o∈sureA y.cs Sj y.m z,¬ RC h w (thrL y.cs Sj y.m z) q0 o->∃ d∈reaM h w y.cs y.m Sj z s,reaB h w y.cs y.m Sj z s d=true:=λo p L=>by
     refine⟨[q0,o],?_,?_⟩
     . unfold reaM;rw[SS e,hq,SL];exact⟨o,SJ.mpr ⟨p,rcB_no.mpr L⟩,rfl⟩
     . unfold reaB;rw[SA,SK,SS e];refine⟨λx u=>?_,?_⟩
       . rcases SU.mp u with rfl | u
         . exact j _ P
         . rw[SO.mp u];exact j _ p
       . have n2:q0≠o:=λe'=>L (e' ▸ .start (Z _ P));show(decide (2=2)&&(!decide (q0=o)&&!rcB h w (thrL y.cs Sj y.m z) q0 o))=true;rw[SE n2,rcB_no.mpr L];rfl
    by_cases c1:RC h w (thrL y.cs Sj y.m z) q0 (ms.getD 0 0)
    . refine go _ i2 λc2=>nr ((c1.symm (by have:=F.w0;lia) hr).trans c2)
    . exact go _ i1 c1
 | count=>refine nil #[1] #[1] #[1] #[1] #[1] #[1] ?_
          have q:cntB y.cs y.n y.m Sj z s ms=true:=by
           have:=a;unfold strA bX at this;simp only[lineK,nbrK,UA,UQ,TM,l,fL]at this;exact this
          unfold cntB at q;rw[SA]at q;exact SG q.1
 | step=>refine nil #[1] #[1] #[1] #[1] #[1] #[1] ?_
         have q:stepB y.cs Sj z s ms=true:=by
          have:=a;unfold strA bX at this;simp only[lineK,nbrK,UA,l,fL]at this;exact this
         unfold stepB at q;rw[SA]at q;exact SG q.1
 | sum=>refine nil #[1] #[1] #[1] #[1] #[1] #[1] ?_
        have q:sumB y.cs y.n Sj z s ms=true:=by
         have:=a;unfold strA bX at this;simp only[lineK,nbrK,UA,UQ,TM,l,fL]at this;exact this
        unfold sumB at q;rw[SA]at q;exact SG q.1
 | ways=>refine nil #[1] #[1] #[1] #[1] #[1] #[1] ?_
         have q:waysB y.k h w y.cs y.n y.m Sj z s ms=true:=by
          have:=a;unfold strA bX at this;simp only[lineK,nbrK,UA,UQ,TM,l,fL]at this;exact this
         unfold waysB at q;rw[SA]at q;exact SG q.1
section
variable{c:WY}{h w g:Int}{Sl:List RR}{cl Sj:∅}{t:TK}{r z s:Int}{ms:∅}{ks:List TK}
theorem EX:∀{l:∅} {nb:∅ × List Tho},(l.foldl (fbS h w g Sl cl t r z) nb).2=[]->(∀ s∈l,faF h w g Sl cl nb.1 t r z s=none)/\l.foldl (fbS h w g Sl cl t r z) nb=nb
 | [],nb,_=>⟨(λs d=>nomatch d),rfl⟩
 | s::l,nb,e=>by
  rw[Ti]at e ⊢;obtain⟨a,b⟩:=EX e;rw[b]at e
  have:faF h w g Sl cl nb.1 t r z s=none:=by
   unfold fbS at e
   split at e
   . assumption
   . simp at e
  have c:fbS h w g Sl cl t r z nb s=nb:=by unfold fbS;rw[this]
  rw[c]at a b;rw[c];exact⟨λx f=>(SU.mp f).elim (λe=>e ▸ this) (a x),b⟩
theorem GO:∀{l:∅} {nb:∅ × List Tho},∃ q,(l.foldl (fbS h w g Sl cl t r z) nb).2=nb.2++q
 | [],nb=>⟨[],by simp⟩
 | s::l,nb=>by
  obtain⟨q,e⟩:=GO (l:=l) (nb:=fbS h w g Sl cl t r z nb s);rw[Ti,e];unfold fbS
  split
  . exact⟨q,rfl⟩
  . exact⟨_,TJ ..⟩
theorem GP:∀{zs:∅} {nb:∅ × List Tho},∃ q,fbL h w g Sl cl t r zs nb=nb.2++q
 | [],nb=>⟨[],by simp[fbL]⟩
 | z::zs,nb=>by
  obtain⟨q,e⟩:=GO (h:=h) (w:=w) (g:=g) (Sl:=Sl) (cl:=cl) (t:=t) (r:=r) (z:=z) (l:=sgL (nb.1.getD z.toNat 0)) (nb:=nb);unfold fbL
  split
  . exact⟨q,e⟩
  . obtain⟨a,e2⟩:=GP (zs:=zs) (nb:=fbC h w g Sl cl t r nb z);exact⟨q++a,by rw[e2];unfold fbC;rw[e,TJ]⟩
theorem GQ:∀{zs:∅} {nb:∅ × List Tho},0∉nb.1->fbL h w g Sl cl t r zs nb=[]->∀ z∈zs,∀ s∈sgL (nb.1.getD z.toNat 0),faF h w g Sl cl nb.1 t r z s=none
 | [],nb,_,_,z,hz=>nomatch hz
 | z::zs,nb,n0,e,x,c=>by
  have e2:(fbC h w g Sl cl t r nb z).2=[]:=by
   unfold fbL at e
   split at e
   . exact e
   . obtain⟨q,d⟩:=GP (h:=h) (w:=w) (g:=g) (Sl:=Sl) (cl:=cl) (t:=t) (r:=r) (zs:=zs) (nb:=fbC h w g Sl cl t r nb z);rw[d]at e;exact(List.append_eq_nil_iff.mp e).1
  obtain⟨a,b⟩:=EX e2;have f:fbC h w g Sl cl t r nb z=nb:=b;rcases SU.mp c with rfl | c
  . exact a
  . unfold fbL at e;rw[f,SS n0]at e;exact GQ n0 e x c
theorem GR:∀{rs:∅},ffR h w g Sl cl Sj t rs=[]->∀ r∈rs,fbF h w g Sl cl Sj t r=[]
 | [],_,r,hr=>nomatch hr
 | r::rs,e,x,a=>by
  unfold ffR at e
  split at e
  . rename_i q
    rcases SU.mp a with rfl | a
    . exact UU.mp q
    . exact GR e x a
  . rename_i q
    rw[e]at q;exact absurd rfl q
theorem GS:∀{ts:List TK},ffT h w g Sl cl Sj ts=[]->∀ t∈ts,ffR h w g Sl cl Sj t (rnF Sl t)=[]
 | [],_,t,ht=>nomatch ht
 | t::ts,e,x,a=>by
  unfold ffT at e
  split at e
  . rename_i q
    rcases SU.mp a with rfl | a
    . exact UU.mp q
    . exact GS e x a
  . rename_i q
    rw[e]at q;exact absurd rfl q
theorem J0(R:b9 c h w g Sl)(X:MkP g (h*w).toNat Sj)(n:0∉Sj)(e:ffF h w g Sl cl Sj ks=[])(u:t∈ks)(a:alwA h w g Sl cl Sj t r z s ms=true):stB (Sj.getD z.toNat 0) s=false:=by
 cases x:stB (Sj.getD z.toNat 0) s with
 | false=>rfl
 | true=>
  unfold alwA at a;rw[SA]at a;obtain⟨f,q⟩:=a;obtain⟨j,v,B⟩:=compA R X n f q;obtain⟨C,A,s0,s1,i⟩:=bQ f;have p:z.toNat<Sj.length:=by rw[X.len];lia
  have b:=X.mm _ (aT p);have o:t∈allT.filter λt=>decide (t∈ks):=SJ.mpr ⟨by cases t <;> decide,SB u⟩;have h1:=GS e t o
  have m:r∈rnF Sl t/\z∈celF h w Sl t r:=by
   unfold rnF celF;by_cases d:t=.clue
   . rw[SY d,SY d];unfold hitB at i
     split at i
     . cases i
     . first | rw[SY d]at i | skip
       exact⟨by rw[SG i];simp,mem_rngL.mpr ⟨C,A⟩⟩
   . obtain⟨r0,y,l,k,D⟩:=dZ d i;rw[SS d,SS d,l];refine⟨SL.mpr ⟨r.toNat,SJ.mpr ⟨SQ.mpr (SD.mp l).1,?_⟩,by lia⟩,srt_mem.mpr D⟩;rw[l];exact k
  have h2:=GR h1 r m.1;have h3:=GQ (nb:=(Sj,[])) n h2 z m.2 s ((cp b.1 s).mpr x);unfold faF at h3;have:=Wf.mp h3 j v;exact absurd B this
theorem lessA{b:∅}(R:b9 c h w g Sl)(X:bG Sj b)(j:b.length=Sj.length)(a:alwA h w g Sl cl Sj t r z s ms=true):alwA h w g Sl cl b t r z s ms=true:=by
 by_cases i:K30 t
 . have e:∀ m,alwA h w g Sl cl m t r z s ms=uY h w g Sl cl m t r z s ms:=λm=>by
    unfold alwA uY strA Eu;rcases i with (rfl | rfl | rfl | rfl) | (rfl | rfl | rfl) <;> rfl
   rw[e]at a ⊢;exact NO R X i a
 . have d:K39 t:=by
    unfold K39;cases t <;> first | (exact absurd (.inl (by unfold K28;decide)) i) | (exact absurd (.inr (by unfold HC;decide)) i) | decide
   unfold alwA at a ⊢;rw[SA]at a ⊢;obtain⟨f,q⟩:=a;refine⟨f,?_⟩;obtain⟨x,u,s0,s1,l⟩:=bQ f;have v:=R.F.g1
   have e:∀ m,strA h w g Sl cl m t r z s ms=bX h w Sl m t r z s ms:=λm=>by
    unfold strA;rcases d with rfl | rfl | rfl | rfl <;> rfl
   rw[e]at q ⊢;obtain⟨r0,y,n,k,p⟩:=dZ (OD d) l;unfold bX at q ⊢;rw[n]at q ⊢;exact N4 d (λo _=>X o.toNat) j s0 #[4] q
end
theorem Lj(n:Nat)(m:Int):(List.replicate n [V.int m]).flatten=(List.replicate n m).map V.int:=by
 induction n with
 | zero=>rfl
 | succ n a=>rw[Uy,U6,a];rfl
def Ba(K:Frag):Sp:=#[3,∃ a h w g,vs=[.ref a]/\IsFl H a h w g/\FlOk h w g/\∀ l H',Same H H'->H l=none->H' l=↥((List.replicate (h*w).toNat (2^g.toNat-1)).map V.int)->Q (.ref l) H']
def Bb(K:Frag):TS:=#[":jd'hua,}+ba0cc,~bba0c"]
variable{K:Frag}{vs:List V}{H:Hp}{Q:VK}{E:XK}
theorem MN(h:Ba K vs H Q E):Bb K (eD9 Q) (start ["floor"] vs) H:=by
 obtain⟨a,h,w,g,rfl,c,F,k⟩:=h;obtain⟨h0,h1,n,m,i,j,e⟩:=F;have b:0<=h*w:=Ul #[4] #[4];exists Bb;refine⟨a,h,w,g,rfl,c,j,e,lnR rfl,λp f=>?_⟩;have s1:Same H (upd H p (.lst [V.int (2^g.toNat-1)])):=(SF H).laid f;refine⟨a,h,w,g,rfl,s1 _ _ c,h0,h1,?_⟩;refine DK aj b #[4] (by show(1:Nat)<=1;decide) λl d=>?_;rw[Lj];exact k l _ (s1.laid d) (s1.free d) aj
def setB(ms:∅):Bool:=ms.all λm=>decide (((sgL m).length:Int)=1)
def jg(K:Frag):Sp:=#[3,∃ p ms,vs=[.ref p]/\H p=↥(ms.map V.int)/\ms.length<=900/\(∀ m∈ms,Builtin.Int.intBits m<=900)/\∀ H',Same H H'->Q (.bl (setB ms)) H']
def nh(K:Frag):TS:=#[":jqZav&-- sb0i#1 CdrbqAa,-ba1ccef#1 c"]
theorem CI(h:jg K vs H Q E):nh K (eD9 Q) (start ["masks"] vs) H:=by
 obtain⟨p,ms,rfl,b,r,n,k⟩:=h;exists nh;refine⟨⟨_,ST b⟩,?_⟩;refine bK (xs:=ms.map V.int) (λ_=>true) (λi=>.bl (decide (((sgL (ms.getD i 0)).length:Int)=1))) (by rw[Sx];exact r) (ST b) ?_ ?_ ?_
 . intro i x H1 R d s1 k1;exact k1 _ (SF _)
 . intro i x H1 f d o s1 k1;obtain⟨m,c,rfl⟩:=aL d;show tOp (cEq K) _ _ [none,⇑m] H1 f;exists⟨m,rfl,n m (SH c),λl s g j a=>?_⟩;symm;rw[aZ a];symm;have q:=k1 _ g;rw[bJ c]at q;rw[Sx];exact q
 . intro l H1 j s1 a;rw[aY,Sx,i7 ms (λm=>V.bl (decide (((sgL m).length:Int)=1)))]at a;refine j2 (bs:=ms.map λm=>decide (((sgL m).length:Int)=1)) (by rw[a,Te];rfl) ?_
   have e:(ms.map λm=>decide (((sgL m).length:Int)=1)).all id=setB ms:=by
    unfold setB;rw[Ur];rfl
   rw[e];exact k _ s1
def sbI(m:Int):Int:=if ((sgL m).length:Int)=1 then(sgL m).getD 0 0 else 0
def tQ(K:Frag):Sp:=#[3,∃ m:Int,vs=[.int m]/\Builtin.Int.intBits m<=900/\∀ H',Same H H'->Q (.int (sbI m)) H']
def tR(K:Frag):TS:=#[":gl,-ba0ci#1 j~amdrbqAa1cef#1 dk1ef#0 ef#0 "]
theorem HP(h:tQ K vs H Q E):tR K (eD9 Q) (start ["mask","signs"] vs) H:=by
 obtain⟨m,rfl,c,k⟩:=h;exists tR;refine⟨m,rfl,c,λl H1 s1 d b=>?_⟩;symm;rw[aZ b];symm;rw[Sx];have q:=k _ s1;unfold sbI at q;by_cases a:((sgL m).length:Int)=1
 . rw[SY a]at q;rw[SB a];refine iteT ?_;exact ixI b #[1] #[4] q
 . rw[SS a]at q;rw[SE a];exact iteF q
def ni(K:Frag):Sp:=#[3,∃(p:Addr) (ms:∅),vs=[.ref p]/\H p=↥(ms.map V.int)/\ms.length<=900/\(∀ m∈ms,Builtin.Int.intBits m<=900)/\∀ l H',Same H H'->H l=none->H' l=↥((ms.map sbI).map V.int)->Q (.ref l) H']
def nk(K:Frag):TS:=#[":jv&-- sb0i#1 C,}-ba1c"]
theorem CJ(h:ni K vs H Q E):nk K (eD9 Q) (start ["masks"] vs) H:=by
 obtain⟨p,ms,rfl,a,i,f,k⟩:=h;exists nk;refine⟨⟨_,ST a⟩,?_⟩;refine ba (xs:=ms) (λ_=>true) sbI i (ST a) ?_ ?_ ?_
 . intro x H1 R b s1 k1;exact k1 _ (SF _)
 . intro x H1 d b g s1 k1;show tCall _ _ _ _ [none,⇑x] H1 d;exists⟨x,rfl,f x b,k1⟩
 . intro l H1 e s1 c;rw[aY]at c;exact k l H1 s1 e c
abbrev fuL(h w g:Int):∅:=List.replicate (h*w).toNat (2^g.toNat-1)
variable{h w g:Int}
def p6(c:1<=g)(b:g<=6):MkP g (h*w).toNat (fuL h w g):=⟨U1,λm a=>by
 rw[(We.mp a).2];have e:g=1\/g=2\/g=3\/g=4\/g=5\/g=6:=by omega
 rcases e with rfl | rfl | rfl | rfl | rfl | rfl <;> decide⟩
def StP(Q:VK)(H:Hp)(h w g:Int)(Sl:List RR)(cl:∅)(ks:List TK):Prop:=∀(N:Addr) (a:∅) (Ss:List Tho) (H':Hp),Same H H'->H N=none->H' N=↥(a.map V.int)->Wlk h w g Sl cl ks (fuL h w g) Ss a->(0∈a\/ffF h w g Sl cl a ks=[])->ThR h w g Sl cl ks (fuL h w g) Ss a->Q (.ref N) H'
def jh(K:Frag)(c:WY)(d:WZ):Sp:=#[3,∃ P L G a h w g Sl cl ks,vs=[.ref P,.ref a]/\IsPz H c d P L G h w g Sl cl/\KdK K H a ks/\StP Q H h w g Sl cl ks]
def nn(K:Frag)(c:WY)(d:WZ):TS:=#[":jdk,}/bhna0a,}:batnF~j~kbhn0cca1cef#0 "]
variable{c:WY}{d:WZ}
theorem CK(h:jh K c d vs H Q E):nn K c d (eD9 Q) (start ["puzzle","kinds"] vs) H:=by
 obtain⟨P,L,G,r,h,w,g,Sl,cl,ks,rfl,a,l,q⟩:=h;obtain⟨I,p,rs,h1,h2,h3⟩:=a.ex;have F:=a.R.F;exists nn;refine methE (k:=.Puzzle) rfl a.ok h1 (by rfl) ?_;exists⟨P,L,G,h,w,g,Sl,cl,rfl,a,λp s=>?_⟩;exists⟨p,h,w,g,rfl,s,F,λA H1 s1 J i=>?_⟩;have X:=p6 (h:=h) (w:=w) F.g0 F.g1;exists⟨P,L,G,A,r,h,w,g,Sl,cl,_,ks,rfl,⟨a.same s1,i,X.len,X.mm⟩,l.same s1,λT N B y Ms b Ss f j u m x D z t e C n W o R=>?_⟩;exists ixT t (v:=V.ref N) rfl ?_;exact q N b Ss f (s1.trans j) (s1.free m) e W o R
noncomputable def stlB (h w g:Int) (Sl:List RR) (cl a:∅):Bool:=setB a&&metB h w g Sl cl (a.map sbI)
def nV(K:Frag)(c:WY)(d:WZ):Sp:=#[3,∃ P L G b h w g Sl cl ks,vs=[.ref P,.ref b]/\IsPz H c d P L G h w g Sl cl/\KdK K H b ks/\∀(a:∅) (Ss:List Tho) (H':Hp),Same H H'->Wlk h w g Sl cl ks (fuL h w g) Ss a->(0∈a\/ffF h w g Sl cl a ks=[])->ThR h w g Sl cl ks (fuL h w g) Ss a->Q (.bl (stlB h w g Sl cl a)) H']
def tS(K:Frag)(c:WY)(d:WZ):TS:=#[":gl,'Mbhna0a1ci#2 jN,'Nba2ctnF'F'Gbhn0a,};ba2cc"]
theorem HQ(h:nV K c d vs H Q E):tS K c d (eD9 Q) (start ["puzzle","kinds","masks"] vs) H:=by
 obtain⟨P,L,G,I,h,w,g,Sl,cl,ks,rfl,l,A,q⟩:=h;have F:=l.R.F;have n:=F.g0;have o:=F.g1;have J:=F.m;exists tS;refine⟨P,L,G,I,h,w,g,Sl,cl,ks,rfl,l,A,λN a Ss H1 s1 T r W D R=>?_⟩;have X:=(W.okM n o (p6 (h:=h) (w:=w) n o)).1;have C:=dP n o;have Z:=X.len
 have e:∀ m∈a,Builtin.Int.intBits m<=900:=λm M=>by
  have b:=X.mm m M;have:=(dL (m:=m) b.1 #[4]).1;lia
 exists⟨N,a,rfl,r,by lia,e,λz u=>?_⟩;have f:=s1.trans u;have i:=λH' B=>q a Ss H' B W D R;unfold stlB at i
 cases s:setB a with
 | false=>
  rw[s]at i;refine⟨false,rfl,iteF ?_⟩;exact i z f
 | true=>
  rw[s]at i;refine⟨true,rfl,iteT ?_⟩;have j:=l.same f;obtain⟨Y,p,rs,h1,h2,h3⟩:=j.ex;refine methE (k:=.Puzzle) rfl l.ok h1 (by rfl) ?_;exists⟨N,a,rfl,u _ _ r,by lia,e,λy S t U O=>?_⟩;refine⟨P,L,G,y,h,w,g,Sl,cl,a.map sbI,rfl,j.same t,O,by rw[Sx];lia,λx v=>?_⟩;exact i x ((f.trans t).trans v)
def gD(K:Frag)(c:WY)(d:WZ):Sp:=#[3,∃ P L G h w g z Sl cl,vs=[.ref P,.int z]/\IsPz H c d P L G h w g Sl cl/\0<=z/\z<h*w/\∀(a e b:Addr) (H':Hp),Same H H'->H a=none->H e=none->H b=none->IsPz H' c d a e b h w g Sl (cl.set z.toNat 0)->Q (.ref a) H']
variable{cl:∅}
def Bc(C:CluesOk h w g cl)(b:0<=g)(i:Nat):CluesOk h w g (cl.set i 0):=⟨by rw[VT];exact C.1,λx a=>by
 rcases Wj a with a | rfl
 . exact C.2 x a
 . omega⟩
def kX(K:Frag)(c:WY)(d:WZ):TS:=#[":gltnF~B~Cbhn0ci#2 glef#0 'O21'PjtnF~*~+bhn0a2c"]
theorem zL(h:gD K c d vs H Q E):kX K c d (eD9 Q) (start ["puzzle","cell","clues"] vs) H:=by
 obtain⟨P,L,G,h,w,g,z,Sl,cl,rfl,a,s,A,q⟩:=h;obtain⟨y,p,rs,h1,h2,h3⟩:=a.ex;have F:=a.R.F;have x:=F.g0;have v:=a.C.1;ac_nf;unfold kX;rw[aK,bP];refine methE (k:=.Puzzle) rfl a.ok h1 (by rfl) ?_;exists⟨P,L,G,h,w,g,Sl,cl,rfl,a,λl e=>?_⟩;have s1:Same H (upd H l (.lst (cl.map V.int))):=(SF H).laid e;have e1:(upd H l (.lst (cl.map V.int))) l=↥(cl.map V.int):=aj;generalize upd H l (.lst (cl.map V.int))=H1 at*;exists LC e1 s (by rw[Sx];lia) ?_;rw[wN];have b:Same H (upd H1 l (.lst ((cl.set z.toNat 0).map V.int))):=s1.own e;have e2:(upd H1 l (.lst ((cl.set z.toNat 0).map V.int))) l=↥((cl.set z.toNat 0).map V.int):=aj;generalize upd H1 l (.lst ((cl.set z.toNat 0).map V.int))=H2 at*;exists methE (k:=.Puzzle) rfl a.ok (b _ _ h1) (by rfl) ?_;exists⟨P,L,G,l,h,w,g,Sl,cl,cl.set z.toNat 0,rfl,a.same b,e2,Bc a.C #[4] _,λm u n o i r j t f=>q m u n o (b.trans i) (b.free r) (b.free j) (b.free t) f⟩
def nilT(t:TK):Bool:=decide (t=.clue)||(decide (t=.count)||(decide (t=.step)||(decide (t=.sum)||decide (t=.ways))))
def rpT(t:TK):Bool:=decide (t=.reach)||decide (t=.pair)
def mr1(t:TK)(n:Nat)(a:Nat):List ∅:=[(a:Int)]::if rpT t then(List.range n).map λ(b:Nat)=>[(a:Int),(b:Int)] else []
def lmF(t:TK)(n:Nat)(g:Int):List ∅:=if nilT t then [[]] else if t=.place then(rngL 1 (g+1)).map (λo=>[o]) else []::(List.range n).flatMap (mr1 t n)
def rtF(R:Int)(t:TK):Int:=if t=.clue then 1 else R
def U52(ks:List TK)(R:Int)(n:Nat)(g:Int)(th:Tho):Prop:=th.t∈ks/\(0<=th.r/\th.r<rtF R th.t)/\(0<=th.z/\th.z<n)/\(1<=th.s/\th.s<=g)/\th.ms∈lmF th.t n g
variable{t:TK}{n:Nat}
theorem rF(h2:t≠.place):[]∈lmF t n g:=by
 unfold lmF
 split
 . simp
 . first | (rw[SS h2];simp) | simp
theorem zM{o:Int}(h1:nilT t=false)(h2:t≠.place)(b:0<=o)(a:o<n):[o]∈lmF t n g:=by
 unfold lmF;rw[h1,SS SR,SS h2];refine SM _ (Uq.mpr ⟨o.toNat,SQ.mpr #[4],?_⟩);unfold mr1;rw[show((o.toNat:Nat):Int)=o by lia];exact SN
theorem J1{a b:Int}(h1:nilT t=false)(h2:t≠.place)(h3:rpT t=true)(e:0<=a)(f:a<n)(c:0<=b)(d:b<n):[a,b]∈lmF t n g:=by
 unfold lmF;rw[h1,SS SR,SS h2];refine SM _ (Uq.mpr ⟨a.toNat,SQ.mpr #[4],?_⟩);unfold mr1;rw[h3,SY rfl,show((a.toNat:Nat):Int)=a by lia];exact SM _ (SL.mpr ⟨b.toNat,SQ.mpr #[4],by rw[show((b.toNat:Nat):Int)=b by lia]⟩)
variable{Sl:List RR}
theorem N6{Sj:∅}{r z s:Int}{ms:∅}(R:b9 c h w g Sl)(f:formB h w g Sl t r z s=true)(d:strA h w g Sl cl Sj t r z s ms=true):ms∈lmF t (h*w).toNat g:=by
 obtain⟨H,M,s0,s1,J⟩:=bQ f;have F:=R.F;by_cases v:t=.clue
 . subst v;have:clueB cl z s ms=true:=d;unfold clueB at this;rw[SA]at this;rw[SG this.1];exact rF #[1]
 obtain⟨r0,y,a,E,Q⟩:=dZ v J;have O:=R.ok y (SH a);have inr:∀ o∈y.cs,0<=o/\o < ((h*w).toNat:Nat):=λo A=>(Vk O F).2 o A
 cases t with
 | clue=>exact absurd rfl v
 | only=>
  have q:onlyB y.cs Sj z s ms=true:=by
   have:=d;unfold strA cj at this;simp only[lineK,UA,a]at this;exact this
  unfold onlyB at q;simp only[SA,Sz]at q;rw[i3 q.1];have b:=inr _ (SJ.mp q.2.1).1;exact zM rfl #[1] b.1 b.2
 | place=>
  have q:gM g y.cs Sj z s ms=true:=by
   have:=d;unfold strA cj at this;simp only[lineK,UA,a]at this;exact this
  unfold gM at q;simp only[SA,Sz,Tg,Tf]at q;rw[i3 q.2.1];unfold lmF;rw[SS #[1],SY rfl];exact SL.mpr ⟨_,rng1_mem.mpr q.2.2.2.1,rfl⟩
 | pair=>
  have q:pairB y.cs Sj z s ms=true:=by
   have:=d;unfold strA cj at this;simp only[lineK,UA,a]at this;exact this
  unfold pairB ordB at q;simp only[SA,Sz]at q;obtain⟨⟨N,L,K,P⟩,I⟩:=q;rw[zK N];have D:=inr _ (SJ.mp L).1;have u:=inr _ (SJ.mp K).1;exact J1 rfl #[1] rfl D.1 D.2 u.1 u.2
 | square=>
  have q:squB h w y.m Sj z s ms=true:=by
   have:=d;unfold strA dz at this;simp only[lineK,nbrK,UQ,TM,a,kI]at this;exact this
  unfold squB at q;simp only[SA,Sz,Tg,Tf]at q;rw[i3 q.2.1];have x:=q.2.2.1;unfold rosL at x
  cases e:(squL h w).find? (rosP (ms.getD 0 0) z) with
  | none=>rw[e]at x;exact absurd rfl x
  | some T=>
   have B:=WH e;unfold rosP at B;rw[SA,Sz]at B;obtain⟨i,S,v,rfl⟩:=oi (UF e);rw[← B.1];exact zM rfl #[1] (by show 0<=((i:Nat):Int);lia) (by show((i:Nat):Int)<_;lia)
 | turn=>
  have q:turnB h w y.m Sj z s ms=true:=by
   have:=d;unfold strA dz at this;simp only[lineK,nbrK,UQ,TM,a,kI]at this;exact this
  unfold turnB at q;by_cases e:ms=[]
  . rw[e];exact rF #[1]
  . rw[SS e]at q;simp only[SA,Sz]at q;rw[i3 q.1];have b:=(rq F H M).2 _ q.2.1;exact zM rfl #[1] b.1 #[4]
 | reach=>
  have q:reaB h w y.cs y.m Sj z s ms=true:=by
   have:=d;unfold strA dz at this;simp only[lineK,nbrK,UQ,TM,a,kI]at this;exact this
  unfold reaB at q;rw[SA,SK]at q;obtain⟨G,q⟩:=q
  have j:∀ o∈ms,0<=o/\o < ((h*w).toNat:Nat):=λo A=>by
   have:=G o A;unfold anoB at this;simp only[SA,Sz]at this;lia
  have C:ms.length=1\/ms.length=2:=by
   split at q
   . rw[SA,Sz]at q;exact .inl q.1
   . rw[SA,Sz]at q;exact .inr q.1
  rcases C with l | l
  . have p:=i3 l;have b:=j (ms.getD 0 0) (by rw[p];simp);rw[p];exact zM rfl #[1] b.1 b.2
  . have p:=zK l;have b:=j (ms.getD 0 0) (by rw[p];simp);have u:=j (ms.getD 1 0) (by rw[p];simp);rw[p];exact J1 rfl #[1] rfl b.1 b.2 u.1 u.2
 | count=>
  have q:cntB y.cs y.n y.m Sj z s ms=true:=by
   have:=d;unfold strA bX at this;simp only[lineK,nbrK,UA,UQ,TM,a,fL]at this;exact this
  unfold cntB at q;rw[SA]at q;rw[SG q.1];exact rF #[1]
 | step=>
  have q:stepB y.cs Sj z s ms=true:=by
   have:=d;unfold strA bX at this;simp only[lineK,nbrK,UA,a,fL]at this;exact this
  unfold stepB at q;rw[SA]at q;rw[SG q.1];exact rF #[1]
 | sum=>
  have q:sumB y.cs y.n Sj z s ms=true:=by
   have:=d;unfold strA bX at this;simp only[lineK,nbrK,UA,UQ,TM,a,fL]at this;exact this
  unfold sumB at q;rw[SA]at q;rw[SG q.1];exact rF #[1]
 | ways=>
  have q:waysB y.k h w y.cs y.n y.m Sj z s ms=true:=by
   have:=d;unfold strA bX at this;simp only[lineK,nbrK,UA,UQ,TM,a,fL]at this;exact this
  unfold waysB at q;rw[SA]at q;rw[SG q.1];exact rF #[1]
section
variable{c:WY}{h w g:Int}{Sl:List RR}{cl:∅}{ks:List TK}
theorem N7{m:∅}{th:Tho}(R:b9 c h w g Sl)(e:th.t∈ks)(a:alwA h w g Sl cl m th.t th.r th.z th.s th.ms=true):U52 ks Sl.length (h*w).toNat g th:=by
 unfold alwA at a;rw[SA]at a;obtain⟨f,q⟩:=a;obtain⟨i,k,s0,s1,b⟩:=bQ f;refine⟨e,?_,⟨i,by lia⟩,⟨s0,s1⟩,N6 R f q⟩;unfold rtF;by_cases d:th.t=.clue
 . rw[SY d];unfold hitB at b
   split at b
   . cases b
   . first | rw[SY d]at b | skip
     rw[SG b];decide
 . obtain⟨r0,y,j,_⟩:=dZ d b;have:=(SD.mp j).1;rw[SS d];lia
theorem F1{n:Nat}{L N:∅}{z s:Int}(p:1<=g)(r:g<=6)(q:MkP g n L)(v:0<=z)(u:z<n)(s0:1<=s)(j:s<=6)(Y:bG L N)(l:stB (N.getD z.toNat 0) s=false):bG (stL L z s) N:=by
 intro k;have o:=dP p r;rcases Vc k L.length with a | a
 . rw[u7 a];by_cases e:(k:Int)=z
   . rw[SY e];have b:=q.mm _ (aT a);have t:=rB (s:=s) b.1 #[4] s0 j;have S:=Y k;refine⟨S.a0,S.a1,t.1.1,by lia,λx c=>?_⟩;have i:k=z.toNat:=by lia
     have d:=S.st x c;by_cases h:x=s
     . rw[h,i,l]at c;cases c
     . have f:=rC (g:=6) (m:=N.getD k 0) #[1] #[1] S.a0 (by simpa using S.a1) ((cp S.a0 x).mpr c);rw[t.2.1 x f.1 f.2 h];exact d
   . rw[SS e];exact Y k
 . have e1:(stL L z s).getD k 0=0:=by rw[List.getD,S0 (by rw[A4];exact a)];rfl
   have e2:L.getD k 0=0:=by rw[List.getD,S0 a];rfl
   have S:=Y k;rw[e2]at S;rw[e1];exact S
theorem EY{L:∅}(R:b9 c h w g Sl)(f:MkP g (h*w).toNat L)(b:∀ th,U52 ks Sl.length (h*w).toNat g th->stB (L.getD th.z.toNat 0) th.s=true->alwA h w g Sl cl L th.t th.r th.z th.s th.ms=true->False):
  ∀{Ss:List Tho} {M N:∅},MkP g (h*w).toNat M->bG M L->Wlk h w g Sl cl ks M Ss N->bG N L
 | [],M,N,_,Y,W=>by cases (show M=N from W);exact Y
 | th::r,M,N,XM,Y,W=>by
  obtain⟨n,k,m,j,st,a⟩:=W.1;have d:=R.F.g0;have i:=R.F.g1;have l:=lessA R Y (by rw[f.len,XM.len]) a;refine EY R f b (XM.stL d i j.1 #[4]) (F1 d i XM m.1 #[4] j.1 #[4] Y ?_) W.2
  cases e:stB (L.getD th.z.toNat 0) th.s with
  | false=>rfl
  | true=>exact(b th (N7 R k a) e l).elim
end
def CLe(a cl:∅):Prop:=∀ k:Nat,a.getD k 0=0\/a.getD k 0=cl.getD k 0
theorem f9{i k:Nat}:(cl.set i 0).getD k 0=if i=k then 0 else cl.getD k 0:=by
 rw[List.getD,List.getElem?_set];by_cases e:i=k
 . rw[SY e,SY e]
   split <;> rfl
 . rw[SS e,SS e];rfl
def CLe.set{a b:∅}(x:CLe a b)(i:Nat):CLe (a.set i 0) (b.set i 0):=λk=>by
 rw[f9,f9]
 split
 . exact .inl rfl
 . exact x k
def CLe.drop(a:∅)(i:Nat):CLe (a.set i 0) a:=λk=>by
 rw[f9]
 split
 . exact .inl rfl
 . exact .inr rfl
def nX{a:Int}(b:0<=a)(c:a<64):Sub30 a a:=⟨b,c,b,c,λ_ h=>h⟩
variable{m:∅}
def F2(f:1<=g)(c:g<=6)(X:MkP g n m):bG m m:=λk=>by
 have d:=dP f c;rcases Vc k m.length with a | a
 . have b:=X.mm _ (aT a);exact nX b.1 #[0]
 . have e:m.getD k 0=0:=by rw[List.getD,S0 a];rfl
   rw[e];exact nX #[1] #[1]
def EZ{a b c:∅}(x:bG a b)(y:bG b c):bG a c:=λk=>⟨(y k).a0,(y k).a1,(x k).b0,(x k).b1,λs h=>(x k).st s ((y k).st s h)⟩
def J3{z s:Int}(l:1<=g)(o:g<=6)(X:MkP g n m)(s0:1<=s)(i:s<=6):bG m (stL m z s):=λk=>by
 have j:=dP l o;rcases Vc k m.length with c | c
 . have b:=X.mm _ (aT c);rw[u7 c]
   split
   . have t:=rB (s:=s) b.1 #[0] s0 i;refine⟨t.1.1,by omega,b.1,by omega,λx a=>?_⟩
     cases d:stB (m.getD k 0) s with
     | false=>
      have e:woI (m.getD k 0) s=m.getD k 0:=by unfold woI;rw[SS (by rw[d];decide)]
      rw[e]at a;exact a
     | true=>
      by_cases h:x=s
      . rw[h];exact d
      . have f:=rC (g:=6) (m:=woI (m.getD k 0) s) #[1] #[1] t.1.1 (by show _ < (64:Int);omega) ((cp t.1.1 x).mpr a);rw[t.2.1 x f.1 f.2 h]at a;exact a
   . exact nX b.1 #[0]
 . have e1:(stL m z s).getD k 0=0:=by rw[List.getD,S0 (by rw[A4];exact c)];rfl
   have e2:m.getD k 0=0:=by rw[List.getD,S0 c];rfl
   rw[e1,e2];exact nX #[1] #[1]
theorem BX{h w g:Int}{Sl:List RR}{cl:∅}{ks:List TK}{n:Nat}(b:1<=g)(a:g<=6):∀{Ss:List Tho} {m m':∅},MkP g n m->Wlk h w g Sl cl ks m Ss m'->bG m m'
 | [],m,m',X,W=>by cases (show m=m' from W);exact F2 b a X
 | th::r,m,m',X,W=>by
  obtain⟨_,_,_,c,_,_⟩:=W.1;exact EZ (J3 b a X c.1 #[4]) (BX b a (X.stL b a c.1 #[4]) W.2)
section
variable{c:WY}{h w g:Int}{Sl:List RR}{cl cl':∅}{ks:List TK}
theorem Lm{Sj:∅}{t:TK}{r z s:Int}{ms:∅}(L:CLe cl' cl)(a:alwA h w g Sl cl' Sj t r z s ms=true):alwA h w g Sl cl Sj t r z s ms=true:=by
 unfold alwA at a ⊢;rw[SA]at a ⊢;refine⟨a.1,?_⟩;have q:=a.2;by_cases c:t=.clue
 . subst c;have b:clueB cl' z s ms=true:=q;show clueB cl z s ms=true;unfold clueB at b ⊢;simp only[SA,Tg,Sz,Tf]at b ⊢;rcases L z.toNat with e | e
   . exact absurd e b.2.1
   . rw[← e];exact b
 . have e:strA h w g Sl cl Sj t r z s ms=strA h w g Sl cl' Sj t r z s ms:=by
    unfold strA cj;cases t <;> first | rfl | exact absurd rfl c
   rw[e];exact q
theorem ye{fl:∅}(A:∀{m:∅},MkP g (h*w).toNat m->(∀ k,k<fl.length->stB (m.getD k 0) (fl.getD k 0)=true)->AnsA h w g Sl cl m fl)(d:1<=g)(f:g<=6)(c:fl.length=(h*w).toNat)(j:∀ x∈fl,1<=x/\x<=g):∀{Ss:List Tho} {m m':∅},MkP g (h*w).toNat m->(∀ k,k<fl.length->stB (m.getD k 0) (fl.getD k 0)=true)->Wlk h w g Sl cl ks m Ss m'->∀ k,k<fl.length->stB (m'.getD k 0) (fl.getD k 0)=true
 | [],m,m',X,st,W=>by cases (show m=m' from W);exact st
 | th::r,m,m',X,st,W=>by
  obtain⟨_,_,t,o,_,a⟩:=W.1;have p:=dP d f;refine ye A d f c j (X.stL d f o.1 #[4]) (λk i=>?_) W.2;have l:k<m.length:=by rw[X.len];lia
  rw[u7 l]
  split
  . rename_i e
    have b:=X.mm _ (aT l);have n:=N0 (A X st) a;have q:=j _ (aT (ms:=fl) i);have e2:th.z.toNat=k:=by lia
    rw[e2]at n;rw[(rB (s:=th.s) b.1 #[4] o.1 #[4]).2.1 _ q.1 #[4] n];exact st k i
  . exact st k i
theorem E2(L:CLe cl' cl):∀{Ss:List Tho} {m m':∅},Wlk h w g Sl cl' ks m Ss m'->Wlk h w g Sl cl ks m Ss m'
 | [],_,_,W=>W
 | _::_,_,_,W=>⟨⟨W.1.1,W.1.2.1,W.1.2.2.1,W.1.2.2.2.1,W.1.2.2.2.2.1,Lm L W.1.2.2.2.2.2⟩,E2 L W.2⟩
theorem GT{x:Int}(b:2<=g)(c:g<=3)(d:1<=x)(a:x<=g):stB (2^g.toNat-1) x=true:=by
 have e:(g=2\/g=3)/\(x=1\/x=2\/x=3):=by lia
 rcases e with ⟨rfl | rfl,rfl | rfl | rfl⟩
 . decide+kernel
 . decide+kernel
 . lia
 . decide+kernel
 . decide+kernel
 . decide+kernel
theorem N8{xs:∅}{y:Int}(d:xs.Nodup)(h:y∈xs)(c:∀ x∈xs,x=y):xs=[y]:=by
 cases xs with
 | nil=>cases h
 | cons a r=>
  have f:=c a (.head _);subst f
  cases r with
  | nil=>rfl
  | cons b r=>
   have e:=c b (.tail _ (.head _));rw[e]at d;simp at d
abbrev g8(fl cl:∅):Prop:=∀ k,k<fl.length->cl.getD k 0=0\/cl.getD k 0=fl.getD k 0
theorem wk{fl a:∅}{Ss:List Tho}(D:dS c h w g fl Sl)(i:g8 fl cl)(W:Wlk h w g Sl cl ks (fuL h w g) Ss a):∀ k,k<fl.length->stB (a.getD k 0) (fl.getD k 0)=true:=by
 have f:=D.g2;have j:=D.g3;have n:=dP (g:=g) #[4] #[4];have X:=p6 (h:=h) (w:=w) (g:=g) #[4] #[4];refine ye (λ{m} X l=>⟨D.F,D.fll,X.len,λy o=>?_,D.sg,l,i,D.R.ok,D.ho⟩) #[4] #[4] D.fll D.sg X (λk d=>?_) W
 . have:=X.mm y o;lia
 . have b:=D.sg _ (aT (ms:=fl) d)
   have e:(fuL h w g).getD k 0=2^g.toNat-1:=by
    rw[List.getD,Vq,SY (by rw[← D.fll];exact d)];rfl
   rw[e];exact GT f j b.1 b.2
def u9{fl a:∅}{Ss:List Tho}(D:dS c h w g fl Sl)(d:g8 fl cl)(W:Wlk h w g Sl cl ks (fuL h w g) Ss a):0∉a:=λh0=>by
 have f:=D.g2;have i:=D.g3;have X:=(W.okM #[0] #[0] (p6 (h:=h) (w:=w) (g:=g) #[0] #[0])).1;obtain⟨k,b,e⟩:=Vh h0;have:=wk D d W k (by rw[D.fll,← X.len];exact b);rw[List.getD,Sy b,e]at this;rw[show(some (0:Int)).getD 0=0 from rfl,K6]at this;cases this
theorem N9{fl d f:∅}{Ss p:List Tho}(D:dS c h w g fl Sl)(L:CLe cl' cl)(H:g8 fl cl)(F:cl.length=(h*w).toNat)(W:Wlk h w g Sl cl ks (fuL h w g) Ss d)(Q:0∈d\/ffF h w g Sl cl d ks=[])(K:Wlk h w g Sl cl' ks (fuL h w g) p f)(s':stlB h w g Sl cl' f=true):stlB h w g Sl cl d=true:=by
 have g2:=D.g2;have g3:=D.g3;have l:1<=g:=by lia
 have t:g<=6:=by lia
 have P:=dP l t;have C:=p6 (h:=h) (w:=w) l t;have X:=(W.okM l t C).1;have M:=(K.okM l t C).1;have O:=wk D H W;have N:=u9 D H W;have E:=Q.resolve_left N;have Y:bG f d:=EY (ks:=ks) D.R X (λth u U a=>by have:=J0 D.R X N E u.1 a;rw[U]at this;cases this) C (BX l t C W) (E2 L K);unfold stlB at s' ⊢;rw[SA]at s' ⊢;have I:=s'.1;unfold setB at I;rw[SK]at I
 have q:∀ k (z:k<d.length),sgL (d.getD k 0)=[fl.getD k 0]:=λk z=>by
  have s:k<f.length:=by rw[M.len,← X.len];exact z
  have A:k<fl.length:=by rw[D.fll,← X.len];exact z
  have b:=X.mm _ (aT z);have T:=M.mm _ (aT s);have B:=SG (I _ (aT s))
  obtain⟨y,ey⟩:∃ y,sgL (f.getD k 0)=[y]:=by
   cases e:sgL (f.getD k 0) with
   | nil=>rw[e]at B;simp at B
   | cons a r=>
    cases r with
    | nil=>exact⟨a,rfl⟩
    | cons a2 r=>rw[e]at B;simp at B;lia
  have n:∀ x∈sgL (d.getD k 0),x=y:=λx v=>by
   have:=(cp T.1 x).mpr ((Y k).st x ((cp b.1 x).mp v));rw[ey]at this;exact SO.mp this
  have J:=(cp b.1 _).mpr (O k A);rw[N8 (rz _) J λx v=>(n x v).trans (n _ J).symm]
 have Z:d.map sbI=fl:=by
  refine T5 λi=>?_;rcases Vc i d.length with j | j
  . have A:i<fl.length:=by rw[D.fll,← X.len];exact j
    have o:=q i j;rw[SI,Sy j,Sy A];rw[List.getD,Sy j,List.getD,Sy A]at o;have G:sgL d[i]=[fl[i]]:=o;show some (sbI d[i])=some fl[i];unfold sbI;rw[G];rfl
  . rw[S0 (by rw[Sx];exact j),S0 (by rw[D.fll,← X.len];exact j)]
 refine⟨?_,?_⟩
 . unfold setB;rw[SK];intro m hm;obtain⟨i,j,e⟩:=Vh hm;have o:=q i j;rw[List.getD,Sy j]at o;have G:sgL d[i]=_:=o;rw[← e,G];rfl
 . rw[Z];unfold metB filB cluB rowsB;rw[SA,SA,SA];refine⟨⟨SB D.fll,SK.mpr λx v=>?_⟩,SK.mpr λi j=>?_,SK.mpr λr S=>D.ho r S⟩
   . have:=D.sg x v;rw[SB this.1,SB this.2];rfl
   . have:=SQ.mp j;rcases H i (by rw[D.fll,← F];exact this) with e | e
     . rw[SB e];rfl
     . rw[SB e,WX]
end
section
variable{c:WY}{h w g:Int}{Sl:List RR}{cl cl':∅}{ks:List TK}
theorem LJ(R:b9 c h w g Sl):∀(n:Nat) {m:∅},btA m<=n->MkP g (h*w).toNat m->∃(Ss:List Tho) (x:∅),ThR h w g Sl cl ks m Ss x/\Wlk h w g Sl cl ks m Ss x/\(0∈x\/ffF h w g Sl cl x ks=[])
 | n,m,hn,X=>by
  have f:=R.F.g0;have j:=R.F.g1;by_cases e:0∈m\/ffF h w g Sl cl m ks=[]
  . exact⟨[],m,.stop e,rfl,e⟩
  . have h0:0∉m:=λq=>e (.inl q);have a:ffF h w g Sl cl m ks≠[]:=λq=>e (.inr q);obtain⟨m',W⟩:=EF (cl:=cl) (ks:=ks) R X h0;have i:=W.run;subst i;have b:=W.okM f j X;have o:=V1.mpr a;have l:=b.2
    match n,hn with
    | 0,hn=>lia
    | n+1,hn=>
     obtain⟨Ss,x,t,d,k⟩:=LJ R n (m:=runA m (ffF h w g Sl cl m ks)) #[4] b.1;exact⟨_,x,.go h0 a t,W.trans d,k⟩
open Classical in
noncomputable def stF (h w g:Int) (Sl:List RR) (cl:∅) (ks:List TK):∅:=if q:∃ x,∃ Ss,ThR h w g Sl cl ks (fuL h w g) Ss x then q.choose else []
theorem zN{Ss:List Tho}{x:∅}(t:ThR h w g Sl cl ks (fuL h w g) Ss x):x=stF h w g Sl cl ks:=by
 have q:∃ x,∃ Ss,ThR h w g Sl cl ks (fuL h w g) Ss x:=⟨x,Ss,t⟩;unfold stF;rw[dif_pos q];obtain⟨a,b⟩:=q.choose_spec;exact(t.det b).2
theorem rG(R:b9 c h w g Sl):∃ Ss,ThR h w g Sl cl ks (fuL h w g) Ss (stF h w g Sl cl ks)/\Wlk h w g Sl cl ks (fuL h w g) Ss (stF h w g Sl cl ks)/\(0∈stF h w g Sl cl ks\/ffF h w g Sl cl (stF h w g Sl cl ks) ks=[]):=by
 obtain⟨Ss,x,t,W,a⟩:=LJ (cl:=cl) (ks:=ks) R _ (SZ _) (p6 (h:=h) (w:=w) R.F.g0 R.F.g1);have e:=zN t;rw[← e];exact⟨Ss,t,W,a⟩
noncomputable def setF (h w g:Int) (Sl:List RR) (ks:List TK) (cl:∅):Bool:=stlB h w g Sl cl (stF h w g Sl cl ks)
theorem Lo{fl:∅}(D:dS c h w g fl Sl)(L:CLe cl' cl)(d:g8 fl cl)(a:cl.length=(h*w).toNat)(s':setF h w g Sl ks cl'=true):setF h w g Sl ks cl=true:=by
 obtain⟨Ss,_,W,f⟩:=rG (cl:=cl) (ks:=ks) D.R;obtain⟨b,_,e,_⟩:=rG (cl:=cl') (ks:=ks) D.R;exact N9 D L d a W f e s'
noncomputable def stpL (h w g:Int) (Sl:List RR) (ks:List TK) (cl:∅) (z:Int):∅:=if 0<cl.getD z.toNat 0/\setF h w g Sl ks (cl.set z.toNat 0)=true then cl.set z.toNat 0 else cl
noncomputable def stpP (h w g:Int) (Sl:List RR) (ks:List TK) (a:∅ × ∅) (z:Int):∅ × ∅:=if a.1.getD z.toNat 0≠0/\z∉a.2 then(if setF h w g Sl ks (a.1.set z.toNat 0)=true then(a.1.set z.toNat 0,a.2) else(a.1,a.2++[z])) else a
structure Tk58(h w g:Int)(Sl:List RR)(ks:List TK)(fl O:∅)(a:∅ × ∅):Prop where
 cu:g8 fl a.1
 cn:∀ x∈a.1,0<=x
 len:a.1.length=(h*w).toNat
 nd:a.2.Nodup
 kp:∀ z∈a.2,a.1.getD z.toNat 0≠0/\setF h w g Sl ks (a.1.set z.toNat 0)=false
 sub:∀ z∈a.2,z∈O
 all:∀ z∈O,a.1.getD z.toNat 0≠0->z∈a.2
def E3{fl:∅}(x:g8 fl cl)(i:Nat):g8 fl (cl.set i 0):=λk a=>by
 rw[f9]
 split
 . exact .inl rfl
 . exact x k a
theorem Tk58.step{fl O:∅}{a:∅ × ∅}{z:Int}(D:dS c h w g fl Sl)(T:Tk58 h w g Sl ks fl O a)(o:0<=z)(p:z<h*w)(l:∀ y∈O,0<=y):Tk58 h w g Sl ks fl (O++[z]) (stpP h w g Sl ks a z)/\(stpP h w g Sl ks a z).1=stpL h w g Sl ks a.1 z:=by
 have r:0<=a.1.getD z.toNat 0:=T.cn _ (aT (by rw[T.len];lia));unfold stpP stpL;by_cases e:a.1.getD z.toNat 0=0
 . rw[SS (λq=>q.1 e),SS (λq=>by rw[e]at q;exact absurd q.1 #[1])]
   exact⟨⟨T.cu,T.cn,T.len,T.nd,T.kp,λy b=>TZ _ (T.sub y b),λy b n=>by
    rcases SX.mp b with b | b
    . exact T.all y b n
    . rw[SO.mp b]at n;exact absurd e n⟩,rfl⟩
 . by_cases k:z∈a.2
   . rw[SS (λq=>q.2 k),SS (λq=>by rw[(T.kp z k).2]at q;exact absurd q.2 #[1])]
     exact⟨⟨T.cu,T.cn,T.len,T.nd,T.kp,λy b=>TZ _ (T.sub y b),λy b n=>by
      rcases SX.mp b with b | b
      . exact T.all y b n
      . rw[SO.mp b];exact k⟩,rfl⟩
   . rw[SY ⟨e,k⟩]
     cases q:setF h w g Sl ks (a.1.set z.toNat 0) with
     | true=>
      rw[SY rfl,SY ⟨by lia,rfl⟩];refine⟨⟨E3 T.cu _,λx d=>?_,by rw[VT];exact T.len,T.nd,λy b=>?_,λy b=>TZ _ (T.sub y b),λy b n=>?_⟩,rfl⟩
      . rcases Wj d with d | rfl
        . exact T.cn x d
        . exact Wn _
      . have j:=T.kp y b
        have i:z.toNat≠y.toNat:=λe2=>k (by
         have:=l y (T.sub y b);rw[show z=y by lia];exact b)
        refine⟨?_,?_⟩
        . show(a.1.set z.toNat 0).getD y.toNat 0≠0;rw[f9,SS i];exact j.1
        . cases m:setF h w g Sl ks ((a.1.set z.toNat 0).set y.toNat 0) with
          | false=>rfl
          | true=>
           have:=Lo D ((CLe.drop a.1 z.toNat).set y.toNat) (E3 T.cu _) (by rw[VT];exact T.len) m;rw[j.2]at this;cases this
      . have f:(a.1.set z.toNat 0).getD y.toNat 0≠0:=n;rw[f9]at f
        split at f
        . exact absurd rfl f
        . rename_i i
          rcases SX.mp b with b | b
          . exact T.all y b f
          . exact absurd (by rw[SO.mp b]) i
     | false=>
      rw[SS SR,SS (λq=>absurd q.2 SR)];refine⟨⟨T.cu,T.cn,T.len,?_,λy b=>?_,λy b=>?_,λy b n=>?_⟩,rfl⟩
      . exact Uk.mpr ⟨T.nd,by simp,λx d y b e2=>k (by rw[SO.mp b]at e2;rw[← e2];exact d)⟩
      . rcases SX.mp b with b | b
        . exact T.kp y b
        . rw[SO.mp b];exact⟨e,q⟩
      . rcases SX.mp b with b | b
        . exact TZ _ (T.sub y b)
        . exact Tu _ b
      . rcases SX.mp b with b | b
        . exact TZ _ (T.all y b n)
        . exact Tu _ b
end
theorem Ob(a n:Int):(rngL a n).Pairwise (· < ·):=by
 unfold rngL;rw[Wp];exact List.pairwise_lt_range.imp λh=>by lia
structure IsTk(H:Hp)(T C Rl:Addr)(ts Ms:List Addr)(cl:∅)(rs:List (Int × ∅)):Prop where
 top:H T=some (.tup [.ref C,.ref Rl])
 C:H C=↥(cl.map V.int)
 R:H Rl=↥(ts.map V.ref)
 l1:ts.length=rs.length
 l2:Ms.length=rs.length
 at_:∀(i:Nat) (t M:Addr) (r:Int × ∅),ts[i]? =some t->Ms[i]? =some M->rs[i]? =some r->H t=some (.tup [.int r.1,.ref M])/\H M=↥(r.2.map V.int)
def IsTk.same{H':Hp}{T C c:Addr}{ts Ms:List Addr}{rs:List (Int × ∅)}(x:IsTk H T C c ts Ms cl rs)(s:Same H H'):IsTk H' T C c ts Ms cl rs:=
 ⟨s _ _ x.top,s _ _ x.C,s _ _ x.R,x.l1,x.l2,λi t M r a b e=>let q:=x.at_ i t M r a b e;⟨s _ _ q.1,s _ _ q.2⟩⟩
noncomputable def dA (h w g:Int) (Sl:List RR) (ks:List TK) (cl O:∅):∅:=O.foldl (stpL h w g Sl ks) cl
noncomputable def c7 (h w g:Int) (Sl:List RR) (ks:List TK) (cl O:∅):List (Int × ∅):=((rngL 0 (h*w)).filter λz=>decide (z∈O)&&decide (0 < (dA h w g Sl ks cl O).getD z.toNat 0)).map λz=>(z,stF h w g Sl ((dA h w g Sl ks cl O).set z.toNat 0) ks)
def TkP(Q:VK)(H:Hp)(cl:∅)(rs:List (Int × ∅)):Prop:=∀(T C a:Addr) (ts Ms:List Addr) (H':Hp),Same H H'->H T=none->H C=none->H a=none->(∀ t∈ts,H t=none)->(∀ M∈Ms,H M=none)->IsTk H' T C a ts Ms cl rs->Q (.ref T) H'
def tT(K:Frag)(c:WY)(d:WZ):Sp:=#[3,∃ P L G a b h w g Sl cl fl O ks,vs=[.ref P,.ref a,.ref b]/\IsPz H c d P L G h w g Sl cl/\H a=↥(O.map V.int)/\O.length<=20/\(∀ z∈O,0<=z/\z<h*w)/\KdK K H b ks/\dS c h w g fl Sl/\g8 fl cl/\
 (setF h w g Sl ks cl=false->∀ H',Same H H'->Q .non H')/\(setF h w g Sl ks cl=true->TkP Q H (dA h w g Sl ks cl O) (c7 h w g Sl ks cl O))]
theorem Be{c:WY}{h w g:Int}{Sl:List RR}{ks:List TK}{fl:∅}(D:dS c h w g fl Sl):∀(d O:∅) (a:∅ × ∅),(∀ z∈O++d,0<=z/\z<h*w)->Tk58 h w g Sl ks fl O a->Tk58 h w g Sl ks fl (O++d) (d.foldl (stpP h w g Sl ks) a)/\(d.foldl (stpP h w g Sl ks) a).1=d.foldl (stpL h w g Sl ks) a.1
 | [],O,a,_,T=>⟨by rw[Vn];exact T,rfl⟩
 | z::d,O,a,hz,T=>by
  have b:=hz z (Tu _ (.head _));have s:=T.step (z:=z) D b.1 b.2 λy e=>(hz y (TZ _ e)).1;have r:=Be D d (O++[z]) (stpP h w g Sl ks a z) (λy e=>hz y (by rw[TJ]at e;exact e)) s.1;rw[TJ]at r;refine⟨r.1,?_⟩;rw[Ti,Ti,r.2,s.2]
variable{ks:List TK}
def E4{c:WY}{fl:∅}(C:CluesOk h w g cl)(a:g8 fl cl):Tk58 h w g Sl ks fl [] (cl,[]):=
 ⟨a,λx b=>(C.2 x b).1,C.1,UT,(λ_ h=>nomatch h),(λ_ h=>nomatch h),(λ_ h=>nomatch h)⟩
theorem Lp{fl O:∅}{a:∅ × ∅}(T:Tk58 h w g Sl ks fl O a)(d:∀ z∈O,0<=z/\z<h*w):srtI a.2=(rngL 0 (h*w)).filter λz=>decide (z∈O)&&decide (0<a.1.getD z.toNat 0):=by
 refine(JP ?_ ?_).symm
 . refine(List.perm_ext_iff_of_nodup ((BG _).filter _) T.nd).mpr λz=>?_;rw[SJ,SA,Sz,Sz];constructor
   . rintro⟨_,h1,h2⟩;exact T.all z h1 #[4]
   . intro c;have b:=d z (T.sub z c);have k:=(T.kp z c).1;have p:=T.cn _ (aT (k:=z.toNat) (ms:=a.1) (by rw[T.len];lia));exact⟨mem_rngL.mpr b,T.sub z c,by lia⟩
 . exact((Ob 0 _).filter _).imp λh=>Int.le_of_lt h
def qW(K:Frag)(c:WY)(d:WZ):TS:=#[":jQatnF~B~Cbhn3cav&--23 sbq~Ja4ci#1 CQa1a,'Mbhna,'Qbhna3a1ca2ccc"]
def qX(K:Frag)(c:WY)(d:WZ):TS:=#[":gl0i#3 gluci#4 gIsb1i#5 o~dmdDbdktnF~B~Cbhn3c5ef#0 mdKbR54gl,'Qbhna3a5ci#6 oz,'Rbhna6a2cl6i#3 TGbMW4a5cp}?bhn"]
def yf(K:Frag)(c:WY)(d:WZ):TS:=#[":goPz,'Rbhna0a2cje:p}[bhn"]
theorem HR{α β:Type}{f:α->β}{l:List α}{i:Nat}{y:β}(h:(l.map f)[i]? =some y):∃ x,l[i]? =some x/\y=f x:=by
 rw[SI]at h;obtain⟨x,a,rfl⟩:=Ub.mp h;exact⟨x,a,rfl⟩
section
variable{K:Frag}{c:WY}{d:WZ}{H0 H:Hp}{Q:VK}{h w g:Int}{Sl:List RR}{ks:List TK}
theorem F3{P L G F Kp:Addr}{cl b:∅}{v0 v1 v5 v6:Option V}(s0:Same H0 H)(pz:IsPz H c d P L G h w g Sl cl)(hK:KdK K H F ks)(eK:H Kp=↥(b.map V.int))(kn:b.length<64)(kz:∀ z∈b,0<=z/\z<h*w)(q:TkP Q H0 cl ((srtI b).map λz=>(z,stF h w g Sl (cl.set z.toNat 0) ks))):
  qW K c d (eD9 Q) [v0,v1,↑F,↑P,↑Kp,v5,v6] H:=by
 obtain⟨dx,p,rs,h1,h2,h3⟩:=pz.ex;unfold qW;exists methE (k:=.Puzzle) rfl pz.ok h1 (by rfl) ?_;exists⟨P,L,G,h,w,g,Sl,cl,rfl,pz,λC hC=>?_⟩;obtain⟨H1,U,s1,eC⟩:=aU (.lst (cl.map V.int)) hC;rw[U];exists zx (s1 _ _ eK) kn λS hS=>?_;obtain⟨H2,U,s2,eS⟩:=aU (.lst ((srtI b).map V.int)) hS;rw[U];have s:=s1.trans s2;have sz:∀ z∈srtI b,0<=z/\z<h*w:=λz A=>kz z (srt_mem.mp A);have sl:(srtI b).length<64:=by rw[rA];exact kn
 generalize srtI b=so at*;refine⟨S,rfl,⟨_,ST eS⟩,?_⟩
 refine pC (xs:=so.map V.int) (λl i σ H'=>(σ=[none,none,↑F,↑P]\/∃ cv,σ=[none,cv,↑F,↑P])/\Same H2 H'/\∃ ts Ms:List Addr,H' l=↥(ts.map V.ref)/\ts.length=i/\Ms.length=i/\(∀ t∈ts,H2 t=none/\t≠l)/\(∀ M∈Ms,H2 M=none/\M≠l)/\∀(j:Nat) (t M:Addr) (z:Int),ts[j]? =some t->Ms[j]? =some M->so[j]? =some z->H' t=some (.tup [.int z,.ref M])/\H' M=↥((stF h w g Sl (cl.set z.toNat 0) ks).map V.int))
  (λl J=>⟨.inl rfl,(SF H2).laid J,[],[],by rw[aj];rfl,rfl,rfl,(λ_ h=>nomatch h),(λ_ h=>nomatch h),λj t M z e=>by simp at e⟩) (λl i σ H' _ _ p=>ST (p.2.1 _ _ eS)) ?_ ?_
 . rintro l i x σ O J hx ⟨hσ,v,ts,Ms,E,X,Y,I,fM,B⟩;obtain⟨z,A,rfl⟩:=aL hx;have bz:=sz z (SH A);have hi:i<so.length:=(SD.mp A).1
   have eσ:σ.set 1 ⇑z=[none,⇑z,↑F,↑P]:=by
    rcases hσ with rfl | ⟨cv,rfl⟩ <;> rfl
   rw[be,eσ];show tTrue _ _ _;rw[b7];rw[SY rfl];symm;have m:=s.trans v;refine⟨P,L,G,h,w,g,z,Sl,cl,rfl,pz.same m,bz.1,bz.2,λP2 L2 G2 H4 f hP _ _ ad=>?_⟩;have ac:=m.trans f;refine⟨P2,L2,G2,F,h,w,g,Sl,cl.set z.toNat 0,ks,rfl,ad,hK.same ac,λN af Ss H5 s5 hN eN W en R=>?_⟩;rw[zN R]at eN;refine⟨lnR rfl,λT u=>?_⟩;obtain⟨H6,U,s6,eT⟩:=aU (.tup [V.int z,V.ref N]) u;rw[U];have n:=f.trans (s5.trans s6);have ab:=n _ _ E;have ae:O l≠none:=λe=>by rw[E]at e;cases e
   have nT:T≠l:=λe=>by rw[e,(f.trans s5) _ _ E]at u;cases u
   have nN:N≠l:=λe=>by rw[e,f _ _ E]at hN;cases hN
   refine⟨_,ab,by rw[Sx];exact aH #[4],.inr ⟨_,rfl⟩,(v.trans n).own J,ts++[T],Ms++[N],by rw[aj,TV];rfl,by simp[X],by simp[Y],λt o=>?_,λM D=>?_,λj t M y e1 e2 Z=>?_⟩
   . rcases SX.mp o with o | o
     . exact I t o
     . rw[SO.mp o];exact⟨(v.trans (f.trans s5)).free u,nT⟩
   . rcases SX.mp D with D | D
     . exact fM M D
     . rw[SO.mp D];exact⟨(v.trans f).free hN,nN⟩
   . have o:=I;rcases Vc j i with qj | qj
     . rw[Tn #[4]]at e1 e2;have a:=B j t M y e1 e2 Z;refine⟨by rw[ap (I t (SH e1)).2];exact n _ _ a.1,by rw[ap (fM M (SH e2)).2];exact n _ _ a.2⟩
     . have hj:j<ts.length+1:=by have:=(SD.mp e1).1;simpa using this
       obtain rfl:j=i:=by lia
       rw[Tp #[4],X,Nat.sub_self]at e1;rw[Tp #[4],Y,Nat.sub_self]at e2;rw[A]at Z;cases e1;cases e2;cases Z;exact⟨by rw[ap nT];exact eT,by rw[ap nN];exact s6 _ _ eN⟩
 . rintro l σ O J ⟨_,v,ts,Ms,E,X,Y,I,fM,B⟩;rw[Sx]at X Y;have m:=s.trans v;exists⟨lnR rfl,λT u=>?_⟩;have f:Same O (upd O T (.tup [V.ref C,V.ref l])):=(SF O).laid u;have f1:=s0.trans s;refine q T C l ts Ms _ ((s0.trans m).trans f) ((s0.trans m).free u) (s0.free hC) (f1.free J) (λt o=>f1.free (I t o).1) (λM D=>f1.free (fM M D).1) ⟨aj,(s2.trans (v.trans f)) _ _ eC,f _ _ E,by rw[Sx];exact X,by rw[Sx];exact Y,λj t M r e1 e2 Z=>?_⟩;obtain⟨z,A,rfl⟩:=HR Z;have a:=B j t M z e1 e2 A;exact⟨f _ _ a.1,f _ _ a.2⟩
theorem F4{P L G Oa Y:Addr}{cl fl O:∅}(M:IsPz H c d P L G h w g Sl cl)(eO:H Oa=↥(O.map V.int))(on:O.length<=20)(S:∀ z∈O,0<=z/\z<h*w)(hK:KdK K H Y ks)(D:dS c h w g fl Sl)(cu:g8 fl cl)(s0:Same H0 H)(q:TkP Q H0 (dA h w g Sl ks cl O) (c7 h w g Sl ks cl O)):
  qX K c d (eD9 Q) [↑P,↑Oa,↑Y,none,none,none,none] H:=by
 unfold qX;exists⟨aX #[1],λA m=>?_⟩;obtain⟨H1,z9,s1,eK⟩:∃ z,upd H A (.lst [])=z/\Same H z/\z A=↥(([]:∅).map V.int):=aU _ m;rw[z9];refine⟨⟨_,ST (s1 _ _ eO)⟩,?_⟩;have T0:=E4 (c:=c) (Sl:=Sl) (ks:=ks) M.C cu
 refine bg (K:=K) (xs:=O.map V.int) (λi σ H'=>∃(t r u:Addr) (v5 v6:Option V) (a:∅) (f:∅),σ=[↑P,↑Oa,↑Y,↑t,↑A,v5,v6]/\Same H H'/\IsPz H' c d t r u h w g Sl f/\(A≠r/\A≠u)/\H' A=↥(a.map V.int)/\a.length<=i/\(f,a)=(O.take i).foldl (stpP h w g Sl ks) (cl,[]))
  ⟨P,L,G,_,_,[],cl,rfl,s1,M.same s1,⟨(λe=>by rw[e,(M.ex.choose_spec.choose_spec.choose_spec.2.2).top]at m;cases m),(λe=>by rw[e,M.gv]at m;cases m)⟩,eK,SZ _,rfl⟩ (λi σ H' _ ⟨_,_,_,_,_,_,_,_,s,_⟩=>ST (s _ _ eO)) ?_ ?_
 . rintro i v σ H2 hv ⟨t,r,u,v5,v6,a,f,rfl,N,j,B,e2,kl,Z⟩;obtain⟨z,I,rfl⟩:=aL hv;have hi:i<O.length:=(SD.mp I).1;have bz:=S z (SH I);have et:O.take (i+1)=O.take i++[z]:=by rw[T6,I];rfl
   have nx:(O.take (i+1)).foldl (stpP h w g Sl ks) (cl,[])=stpP h w g Sl ks (f,a) z:=by rw[et,TX,← Z];rfl
   obtain⟨dx,p,rs,h1,h2,h3⟩:=j.ex;have nl:=j.C.1;symm;rw[aF];exists methE (k:=.Puzzle) rfl M.ok h1 (by rfl) ?_;exists⟨t,r,u,h,w,g,Sl,f,rfl,j,λl hl=>?_⟩;obtain⟨H3,z9,o,e3⟩:=aU (.lst (f.map V.int)) hl;rw[z9];have y:=N.trans o;exists ixI e3 bz.1 #[4] ?_;symm;by_cases U:f.getD z.toNat 0=0
   . rw[SB U];exists⟨t,r,u,_,_,a,f,rfl,y,j.same o,B,o _ _ e2,by lia,?_⟩;rw[nx];unfold stpP;rw[SS (λq=>q.1 U)]
   . rw[SE U];symm;rw[jY (o _ _ e2)];by_cases ck:z∈a
     . rw[SB ck];refine⟨false,rfl,?_⟩;exists⟨t,r,u,_,_,a,f,rfl,y,j.same o,B,o _ _ e2,by lia,?_⟩;rw[nx];unfold stpP;rw[SS (λq=>q.2 ck)]
     . rw[SE ck];refine⟨true,rfl,?_⟩;exists⟨t,r,u,h,w,g,z,Sl,f,rfl,j.same o,bz.1,bz.2,λP2 L2 G2 H4 s4 hP E F J=>?_⟩;symm;rw[aF];symm;have x:=y.trans s4;have ac:=o.trans s4;refine⟨P2,L2,G2,Y,h,w,g,Sl,f.set z.toNat 0,ks,rfl,J,hK.same x,λad Ss H5 X W en R=>?_⟩;rw[zN R];have n:=ac.trans X
       have st:stpP h w g Sl ks (f,a) z=if setF h w g Sl ks (f.set z.toNat 0)=true then(f.set z.toNat 0,a) else(f,a++[z]):=by
        unfold stpP;rw[SY ⟨U,ck⟩]
       rw[st]at nx;show ∃ b,V.bl (setF h w g Sl ks (f.set z.toNat 0))=V.bl b/\_
       cases hs:setF h w g Sl ks (f.set z.toNat 0) with
       | true=>
        rw[hs,SY rfl]at nx;refine⟨true,rfl,?_⟩;exists⟨P2,L2,G2,_,_,a,f.set z.toNat 0,rfl,x.trans X,J.same X,⟨(λe=>by rw[← e,o _ _ e2]at E;cases E),(λe=>by rw[← e,o _ _ e2]at F;cases F)⟩,n _ _ e2,by lia,nx.symm⟩
       | false=>
        rw[hs,SS SR]at nx;refine⟨false,rfl,?_⟩;exists⟨br (n _ _ e2),?_⟩;rw[fV (n _ _ e2)];refine⟨by rw[Sx];exact aH #[4],t,r,u,_,_,a++[z],f,rfl,(x.trans X).own m,?_,B,by rw[aj];simp,by simp;lia,nx.symm⟩;exact(j.same n).lst (n _ _ e2) B.1 B.2
 . rintro σ H2 ⟨t,r,u,v5,v6,a,f,rfl,N,j,B,e2,kl,Z⟩;rw[Sx,TH]at Z;rw[Sx]at kl;have T:=Be D O [] (cl,[]) S T0;rw[VQ,← Z]at T;have ab:=T.1.sub;refine F3 (s0.trans N) j (hK.same N) e2 #[4] (λz I=>S z (ab z I)) ?_;have e1:f=dA h w g Sl ks cl O:=T.2;rw[Lp T.1 S];unfold c7 at q;rw[← e1]at q;exact q
end
theorem Lq(h:tT K c d vs H Q E):yf K c d (eD9 Q) (start ["puzzle","order","kinds","now","kept","cell","fewer"] vs) H:=by
 obtain⟨P,L,G,q,l,h,w,g,Sl,cl,fl,O,ks,rfl,i,o,k,m,e,D,j,n,a⟩:=h;ac_nf;unfold yf;rw[aK,aF];exists⟨P,L,G,l,h,w,g,Sl,cl,ks,rfl,i,e,λp Ss H1 s1 W r R=>?_⟩;rw[zN R];show ∃ b,V.bl (setF h w g Sl ks cl)=V.bl b/\_
 cases f:setF h w g Sl ks cl with
 | false=>
  refine⟨false,rfl,?_⟩;exists n f H1 s1
 | true=>
  refine⟨true,rfl,?_⟩;exists F4 (i.same s1) (s1 _ _ o) k m (e.same s1) D j s1 (a f)
theorem E5{b:Bool}{A B:Prop}(e:b=true)(h:A):if b=true then A else B:=by rw[e];exact iteT h
theorem E6{b:Bool}{A B:Prop}(e:b=false)(h:B):if b=true then A else B:=by rw[e];exact iteF h
def BY(T:Addr):decide (V.ref T=V.non)=false:=SE (λh=>by cases h)
structure Z5 where
 P:Program
 w:World
 K:Frag
 mg:Str->Option Value
 base:Heap
structure Bt3(Z:Z5):Prop extends Bt2 Z.mg where
 ns:∀{x:Str} {v:Value},nsIn Z.K mainGlobals x=some (some v)->Z.mg x=some v
def Nn(K:Frag)(b:Str):Prop:=nsIn K mainGlobals b=some none
def Zn(K:Frag):Prop:=Nn K "len"/\Nn K "abs"/\Nn K "min"/\Nn K "max"/\Nn K "sorted"/\Nn K "any"/\Nn K "isinstance"/\Nn K "list"/\Nn K "int"/\Nn K "bool"/\Nn K "str"/\Nn K "tuple"/\Nn K "reversed"/\Nn K "set"/\Nn K "range"/\Nn K "zip"/\Nn K "all"/\Nn K "sum"/\Nn K "enumerate"
theorem Oc{Z:Z5}{h:Heap}(X:Z.K.In h)(G:h.Ns mainGlobals Z.mg)(z:Zn Z.K):Bt3 Z:=by
 obtain⟨a,b,c,d,e,f,g,i,j,k,l,m,n,o,p,q,r,s,t⟩:=z;have N:∀{b:Str},Nn Z.K b->Z.mg b=none:=λh=>PySem.W.mg_none_of X G h;exact⟨⟨⟨N a,N b,N c,N d,N e,N f,N g,N i,N j,N k,N l,N m,N n,N o,N p,N q⟩,N r,N s,N t⟩,λh=>PySem.W.mg_of X G h⟩
structure De(K:Frag)(x:Str)(st:Stmt):Prop where
 ex:∃(f:Addr) (fd:FuncData),nsIn K mainGlobals x=some ↑f/\Fun K x x st f fd
structure Me(K:Frag)(x qual:Str)(st:Stmt)(f:Addr):Prop where
 ex:∃ fd:FuncData,Fun K x qual st f fd/\isFn K (.ref f)=true
structure ClsP(K:Frag)(x:Str)(A f:Addr):Prop where
 q:nsIn K mainGlobals x=some ↑A
 m1:PySem.W.makesIn K A=true
 m2:findIn K (.ref A) "__init__"=some ↑f
 m4:keepIn K (.ref A)=true
 cl:Cls K A
def mkC(a d c b e f g h:Addr):WY:=⟨λk=>match k with | .Rule=>a | .Unlike=>a | .Sum=>d | .Rising=>c | .Seen=>b | .Count=>e | .Joined=>f | .NoSquare=>g | .Ring=>h,λk=>match k with | .Rule=>false | _=>true⟩
def mk1(c:WY)(k:RK):WY:=⟨c.A,match k with | .Joined=>(λi=>match i with | .Joined=>true | _=>false) | .Ring=>(λi=>match i with | .Ring=>true | _=>false) | _=>λ_=>false⟩
def mkD(y:Addr):WZ:=⟨λ_=>y,λ_=>true⟩
theorem rH{c:WY}{k i:RK}(h:(mk1 c k).ok i=true):i=k:=by cases k <;> cases i <;> first | rfl | cases h
def At8(K:Frag)(m:Str)(v:Option Value)(c d b a e f g h:Addr):Prop:=findIn K (.ref c) m=some v/\findIn K (.ref d) m=some v/\findIn K (.ref b) m=some v/\findIn K (.ref a) m=some v/\findIn K (.ref e) m=some v/\findIn K (.ref f) m=some v/\findIn K (.ref g) m=some v/\findIn K (.ref h) m=some v
def C8(K:Frag)(c d b a e f g h:Addr):Prop:=Cls K c/\Cls K d/\Cls K b/\Cls K a/\Cls K e/\Cls K f/\Cls K g/\Cls K h
section
variable{Z:Z5}{K:Frag}{x1 x2 x3 x4 x5 x6 x7 x8 f:Addr}{m:Str}{v:Option Value}
theorem at8(h:At8 K m v x1 x2 x3 x4 x5 x6 x7 x8)(k:RK):findIn K (.ref ((mkC x1 x2 x3 x4 x5 x6 x7 x8).A k)) m=some v:=by
 obtain⟨a,b,c,d,e,f,g,i⟩:=h;cases k <;> assumption
theorem c8(h:C8 K x1 x2 x3 x4 x5 x6 x7 x8)(k:RK):Cls K ((mkC x1 x2 x3 x4 x5 x6 x7 x8).A k):=by
 obtain⟨a,b,c,d,e,f,g,i⟩:=h;cases k <;> assumption
def fk8(C:C8 K x1 x2 x3 x4 x5 x6 x7 x8)(h:At8 K m none x1 x2 x3 x4 x5 x6 x7 x8):FldK K (mkC x1 x2 x3 x4 x5 x6 x7 x8) m:=⟨λk _=>⟨c8 C k,at8 h k⟩⟩
def fk1{c:WY}{k:RK}(a:c.ok k=true)(F:FldK K c m):FldK K (mk1 c k) m:=⟨λi b=>by cases rH b;exact F.ex k a⟩
variable{N ps:List Str}{k k':Nat}{sp sp':Sp}{t:TS}{x qual:Str}{st:Stmt}
abbrev Hb(Z:Z5)(N:List Str)(qual:Str)(st:Stmt)(f:Addr)(k:Nat)(t:TS):Prop:=∀{b:Value} {A:Around} {a:List Env} {s:Shared} {H:Hp} {E:XK},Room k (A.deeper (envOfC qual (aQ st) s.heap.objs.size f b))->(A.deeper (envOfC qual (aQ st) s.heap.objs.size f b)).units+64<cLine->N.Nodup->PSs (cxOf CX0 Z.P Z.w Z.K Z.mg Z.base N qual (aQ st) f b A a s H E).nox (bu st) t
abbrev Rk(N:List Str)(sp:Sp)(t:TS):Prop:=∀{vs H Q E},sp vs H Q E->t (eD9 Q) (start N vs) H
abbrev Ln(ps:List Str)(sp:Sp):Prop:=∀{vs H Q E},sp vs H Q E->vs.length=ps.length
abbrev Bd(x qual:Str)(st:Stmt)(ps:List Str):Prop:=∀(f a d:Value) (c:Option Addr) (g e:Value) (b:List Value),b.length=ps.length->bindArgs (fnOf x qual (bS st) (bu st) (aQ st) .none f a d c g e) ⟨b,[]⟩=pure (ps.zip b)
def okf{f:Addr}{d:FuncData}(F:Fun Z.K x qual st f d)(S:jM N ps (aQ st))(g:Rk N sp t)(e:Hb Z N qual st f k t)(a:Ln ps sp):FnOk Z.P Z.w Z.K Z.mg Z.base CX0 (k+1) f d ps sp:=F.ok S (λ_ _ _ _ h=>a h) λi A b s H vs Q E c h=>⟨t,e c c.units S.nd,g h⟩
local macro_rules | `(tactic| walk_at "l")=>`(tactic| (intro vs H Q E h; (repeat obtain ⟨_,h⟩:=h); subst_vars; rfl))
theorem yg{α:Type}{us:List α}{n:Nat}(e:us.length=n+1):∃ u t,t.length=n/\us=u::t:=by
 cases us with
 | nil=>cases e
 | cons u t=>exact⟨u,t,Nat.succ.inj e,rfl⟩
theorem bd1{b:Str}(h:∀ g a i d j ct c,bindArgs (fnOf x qual (bS st) (bu st) (aQ st) .none g a i d j ct) ⟨[c],[]⟩=pure ([b].zip [c]):=by intros;rfl):Bd x qual st [b]:=by
 intro _ _ _ _ _ _ _ e;(iterate 1 (obtain⟨_,_,f,rfl⟩:=yg e;clear e;have e:=f;clear f));cases TQ e;exact h ..
theorem bd2{b c:Str}(h:∀ j a k i l ct g d,bindArgs (fnOf x qual (bS st) (bu st) (aQ st) .none j a k i l ct) ⟨[g,d],[]⟩=pure ([b,c].zip [g,d]):=by intros;rfl):Bd x qual st [b,c]:=by
 intro _ _ _ _ _ _ _ e;(iterate 2 (obtain⟨_,_,f,rfl⟩:=yg e;clear e;have e:=f;clear f));cases TQ e;exact h ..
theorem bd3{b c i:Str}(h:∀ l a m k n ct g d j,bindArgs (fnOf x qual (bS st) (bu st) (aQ st) .none l a m k n ct) ⟨[g,d,j],[]⟩=pure ([b,c,i].zip [g,d,j]):=by intros;rfl):Bd x qual st [b,c,i]:=by
 intro _ _ _ _ _ _ _ e;(iterate 3 (obtain⟨_,_,f,rfl⟩:=yg e;clear e;have e:=f;clear f));cases TQ e;exact h ..
theorem bd4{b c j g:Str}(h:∀ o a n m p ct i d k l,bindArgs (fnOf x qual (bS st) (bu st) (aQ st) .none o a n m p ct) ⟨[i,d,k,l],[]⟩=pure ([b,c,j,g].zip [i,d,k,l]):=by intros;rfl):Bd x qual st [b,c,j,g]:=by
 intro _ _ _ _ _ _ _ e;(iterate 4 (obtain⟨_,_,f,rfl⟩:=yg e;clear e;have e:=f;clear f));cases TQ e;exact h ..
theorem bd5{c d k i b:Str}(h:∀ q a p o r ct j g l m n,bindArgs (fnOf x qual (bS st) (bu st) (aQ st) .none q a p o r ct) ⟨[j,g,l,m,n],[]⟩=pure ([c,d,k,i,b].zip [j,g,l,m,n]):=by intros;rfl):Bd x qual st [c,d,k,i,b]:=by
 intro _ _ _ _ _ _ _ e;(iterate 5 (obtain⟨_,_,f,rfl⟩:=yg e;clear e;have e:=f;clear f));cases TQ e;exact h ..
theorem bd6{c d m k b j:Str}(h:∀ s a r q t ct l g n o p i,bindArgs (fnOf x qual (bS st) (bu st) (aQ st) .none s a r q t ct) ⟨[l,g,n,o,p,i],[]⟩=pure ([c,d,m,k,b,j].zip [l,g,n,o,p,i]):=by intros;rfl):Bd x qual st [c,d,m,k,b,j]:=by
 intro _ _ _ _ _ _ _ e;(iterate 6 (obtain⟨_,_,f,rfl⟩:=yg e;clear e;have e:=f;clear f));cases TQ e;exact h ..
local macro_rules | `(tactic| ac_rfl)=>`(tactic| exact ⟨rfl,rfl,rfl,by decide+kernel,rfl,by decide+kernel,by decide+kernel⟩)
def okc(B:Bt3 Z)(D:De Z.K x st)(e:Rk N sp t)(b:Bd x x st ps)(g:∀{f},Hb Z N x st f k t)(S:jM N ps (aQ st):=by ac_rfl)(c:Ln ps sp:=by walk_at "l"):Cal Z.P Z.w Z.K Z.mg Z.base (k+1) x ps sp:=
 let ⟨f,d,a,F⟩:=D.ex
 ⟨f,d,okf F S e g c,B.ns a,F.kp,F.binds b⟩
structure Mo(Z:Z5)(k:Nat)(f:Addr)(ps:List Str)(sp:Sp):Prop where
 ex:∃ fd:FuncData,FnOk Z.P Z.w Z.K Z.mg Z.base CX0 k f fd ps sp/\Binds Z.K fd ps []/\isFn Z.K (.ref f)=true/\keepIn Z.K (.ref f)=true
def okm(D:Me Z.K x qual st f)(d:Rk N sp t)(b:Bd x qual st ps)(e:Hb Z N qual st f k t)(S:jM N ps (aQ st):=by ac_rfl)(a:Ln ps sp:=by walk_at "l"):Mo Z (k+1) f ps sp:=
 let ⟨c,F,n⟩:=D.ex
 ⟨c,okf F S d e a,F.binds b,n,F.kp⟩
theorem Mo.at{C:Addr}(T:Mo Z k f ps sp)(cl:Cls Z.K C)(a:findIn Z.K (.ref C) m=some ↑f)(d:∀ vs H Q E,sp' vs H Q E->sp vs H Q E)(e:k<=k':=by decide):∃(f:Addr) (c:FuncData),Cls Z.K C/\Meth Z.K C m f/\FnOk Z.P Z.w Z.K Z.mg Z.base CX0 k' f c ps sp'/\Binds Z.K c ps []:=
 let ⟨c,F,b,n,g⟩:=T.ex
 ⟨f,c,cl,⟨a,n,g⟩,(F.mono e).imp d,b⟩
def Mo.mke{C:Addr}(T:Mo Z k f ps sp)(B:Bt3 Z)(c:ClsP Z.K x C f):KCal Z.P Z.w Z.K Z.mg Z.base k x C ps sp:=
 let ⟨a,F,b,n,_⟩:=T.ex
 ⟨f,a,⟨c.m1,c.m2,n,c.m4⟩,F,B.ns c.q,b⟩
def De.of{K:Frag}{f:Addr}{b:FuncData}(a:nsIn K mainGlobals x=some ↑f)(F:Fun K x x st f b):De K x st:=⟨f,b,a,F⟩
def Me.of{K:Frag}{f:Addr}{a:FuncData}(F:Fun K x qual st f a)(n:isFn K (.ref f)=true):Me K x qual st f:=⟨a,F,n⟩
structure GT0(K:Frag)(x:Str)(ws:List Str):Prop where
 ex:∃(p:Addr) (o:Obj) (So:Array Value) (n:Nat),nsIn K mainGlobals x=some ↑p/\K.lookup p=some o/\o.cls=.type "tuple"/\o.data=.seq So n/\So.size<=sizeLine/\Vals (ws.map V.str) So.toList
def GT0.mk'{K:Frag}{f:List Str}{p:Addr}{o:Obj}{So:Array Value}{n:Nat}(a:nsIn K mainGlobals x=some ↑p)(b:K.lookup p=some o)(c:o.cls=.type "tuple")(d:o.data=.seq So n)(e:So.size<=sizeLine)(v:Vals (f.map V.str) So.toList):GT0 K x f:=⟨p,o,So,n,a,b,c,d,e,v⟩
def GT0.of{b:List Str}(g:GT0 Z.K x b)(B:Bt3 Z):GTup Z.K Z.mg x b:=let ⟨p,o,i,n,a,r⟩:=g.ex;⟨p,o,i,n,B.ns a,r⟩
structure GD0(w:World)(K:Frag)(x:Str)(D:List (Str × List Str)):Prop where
 ex:∃(p:Addr) (o:Obj) (es:Array DictEntry) (ep:Nat),nsIn K mainGlobals x=some ↑p/\K.lookup p=some o/\o.ExactDict/\o.data=.dict es ep/\DRows w K es.toList D/\(D.map λx=>x.1).Nodup
def GD0.of{D:List (Str × List Str)}(g:GD0 Z.w Z.K x D)(B:Bt3 Z):GDict Z.w Z.K Z.mg x D:=let ⟨p,o,i,n,a,r⟩:=g.ex;⟨p,o,i,n,B.ns a,r⟩
end
section
variable{X:Cx}{a b e:Expr}{ta tb te:TE}{pos pos' p:Pos}{x:Str}{es:List Expr}{t:TA}{ps:List Str}{sp:Sp}{k n:Nat}
theorem kcal(C:Cal X.prog X.w X.K X.mg X.base k x ps sp)(c:Room n X.A)(d:PA X (e::es) t)(h:k<=n:=by decide)(g:Gl X x:=by exact rfl)(b:(x==("__debug__":Str))=false:=by decide)(f:starEach (e::es) X.env=(false,eval e X.env)::starEach es X.env:=by rfl)(a:(backTo pos (starEach es X.env)).any (·.1)=false:=by rfl):PE X (.Call (.Name x p) (e::es) [] pos) (tCall sp [] E0 t):=Nj C c h g d b f a
theorem kix(d:X.A.units+64<cLine)(f:PE X a ta)(e:PE X b tb)(c:AE b:=by exact λ_ _=>rfl):PE X (.Subscript a b pos) (tOp cIx ta tb):=Dg (Nh d) f e c
theorem kset(i:Nat)(a:X.N.Nodup)(b:PE X e te)(g:X.N[i]? =some x:=by exact rfl)(f:Loc X.env.scope x:=by exact Or.inl rfl)(c:swapsWith e (some (.Name x pos')) pos.line X.env=pure false:=by rfl)(d:X.fn x=true\/X.env.scope.names.lookup x=some .local:=by first | exact .inl rfl | exact .inr rfl | assumption):PS X (.Assign [.Name x pos'] e pos) (tAsg te (gName i)):=cE a g f b c d
end
theorem HS {M:Model} {A:Around} {E:Value->Shared->Prop} {s:Shared} {β:Type} (n:Nat) (f:Nat->β->Sem (ForInStep β)) (I:Nat->β->Shared->Prop) (Q:β->Shared->Prop)
  (turn:∀ i b s,i<n->I i b s->wpAny M A (f i b) (λr s'=>match r with | .yield d=>I (i+1) d s' | .done d=>Q d s') E s) (fin:∀ b s,I n b s->Q b s) (b:β) (h:I 0 b s):wpAny M A (forIn [:n] b f) Q E s:=by
 rw[Std.Legacy.Range.forIn_eq_forIn_range'];simp only[Std.Legacy.Range.size,Nat.sub_zero,Nat.add_sub_cancel,Nat.div_one];refine wpAny_forIn_list _ (λa b s'=>∃ i,a=List.range' i (n-i)/\i<=n/\I i b s') _ ?_ ?_ _ _ ⟨0,by simp,TF _,h⟩
 . rintro x a b s' ⟨i,c,k,j⟩
   have g:i<n:=by
    rcases Vc i n with h | h
    . exact h
    . rw[Nat.sub_eq_zero_of_le h]at c;simp at c
   obtain⟨rfl,hrest⟩:x=i/\a=List.range' (i+1) (n - (i+1)):=by
    have e:n-i=(n - (i+1))+1:=by lia
    rw[e,List.range'_succ]at c;injection c with h1 h2;exact⟨h1,h2⟩
   refine T4 (turn x b s' g j) (λr l c=>?_) λ_ _ h=>h
   cases r with
   | done d=>exact c
   | yield d=>exact⟨x+1,hrest,g,c⟩
 . rintro b s' ⟨i,c,k,j⟩
   have:n-i=0:=by
    have:=congrArg List.length c
    simpa using this.symm
   obtain rfl:i=n:=by lia
   exact fin _ _ j
def F5 (l:Addr) (a:Array Value) (n:Nat) (t:Option Addr) (D:Array (Option Value)) (x:Value) (e:Value->Bool) (j:Nat) (G:j<a.size)
  (C:e a[j]=true) (k:∀ m (H:m<a.size),m<j->e a[m]=false):
  Meets (Builtin.«tuple.index» ⟨[.ref l,x],[]⟩)
   (λA R s=>s.heap.get? l=some {cls:=.type "tuple",dict:=t,data:=.seq a n,slots:=D}/\(∀ y,y∈a->SeqAt.EqAt A.in1 s y x (e y))/\R (.ok (.ret (.int j s.toks))) {s with toks:=s.toks+1}):=
 .of_wp λf w A R s h=>by
  obtain⟨v,g,d,F,E⟩:=s;obtain⟨u,B,h⟩:=h
  wp_walk using AutoSeq1.wpAny_loadPart' u,HS _ _ (λi (b:Option _ × Unit) o=>b.1=none/\i<=j/\o=⟨v,g,d,F,E⟩) _
  case turn=>
   rintro i b o r ⟨z,p,rfl⟩;have c:i<a.size:=by rw[Nat.min_self]at r;exact r
   rw[UE c];refine To (B _ (Array.getElem_mem c) f w _ _ ?_);rcases Vc i j with q | q
   . rw[k i c q]
     wp_walk
     exact⟨rfl,q,rfl⟩
   . obtain rfl:i=j:=by omega
     rw[C]
     wp_walk
     exact⟨_,rfl,h⟩
  case fin=>
   rintro b o ⟨z,p,rfl⟩;rw[Nat.min_self]at p;omega
  case h=>
   exact⟨rfl,TF _,rfl⟩
def rJ(K:Frag):V->List V->Hp->VK->Prop
 | .ref p,[y],H,Q=>∃(a:List PyData) (d:PyData) (j:Nat),DV K H (.ref p) (.tuple a)/\DV K H y d/\PyData.canLayAll0 a=true/\PyData.canLay0 d=true/\min (PyData.depthAll a) d.depth<=62/\
   (∃ e,a[j]? =some e/\PyData.eqv e d=true)/\(∀ m e,m<j->a[m]? =some e->PyData.eqv e d=false)/\Q (.int j) H
 | _,_,_,_=>False
section
variable{X:Cx}
theorem HU(P:X.A.units+64<cLine):MtR X "tuple.index" (rJ X.K):=by
 intro U s σ H x vs v S Q I l M h;unfold rJ at h
 split at h
 . rename_i p y
   obtain⟨z,d,j,E,J,w,G,B,⟨e,t,C⟩,i,q⟩:=h;cases l;obtain⟨u,rfl,N⟩:=dN M;obtain⟨as,D⟩:=E.reads I rfl;obtain⟨R,l⟩:=J.reads I N
   cases D with
   | @tuple _ o f n _ _ h1 h2 h3 h4=>
    obtain⟨T,O,L,k⟩:=o;dsimp only at h2 h3;subst h2 h3;have a:=SeqAt.readsAll_map z _ _ w h4
    have b:∀(m:Nat) (g:m<f.size),z[m]? =some (SeqAt.readOf s.heap f[m]):=λm g=>by
     rw[← a,SI,Vw,UE g];rfl
    have c:j<f.size:=by
     have:=(SD.mp t).1;rw[← a,Sx,UM]at this;exact this
    refine UK F.slot_tuple_index ⟨_,h1,rfl⟩ F.entry_tuple_index (F.args_tuple_index_2 _ _) (F5 p f n O k u (λy=>PyData.eqv (SeqAt.readOf s.heap y) d) j c ?_ ?_) ⟨h1,SeqAt.items_eqAt h4 l w G ?_,⟨.int j,H,I.tok _,⟨_,rfl⟩,q⟩⟩
    . have:=b j c;rw[t]at this;cases this;exact C
    . intro m g r;exact i m _ r (b m g)
    . lia
 . exact h.elim
structure GTd(K:Frag)(mg:Str->Option Value)(x:Str)(ws:List Str):Prop where
 ex:∃(q:Addr) (o:Obj) (So:Array Value) (n:Nat),mg x=↑q/\o.dict=none/\K.lookup q=some o/\o.cls=.type "tuple"/\o.data=.seq So n/\So.size<=sizeLine/\Vals (ws.map V.str) So.toList
def HV(K:Frag)(a:List Str)(te:TE):TE:=λσ H Q=>∀ q,(∀ H',SqT K H' q (a.map V.str))->te σ H λy H1=>rJ K (.ref q) [y] H1 Q
def Od{K:Frag}{a:List Str}{te:TE}{σ:St}{H:Hp}{Q:VK}:HV K a te σ H Q=∀ q,(∀ H',SqT K H' q (a.map V.str))->te σ H λy H1=>rJ K (.ref q) [y] H1 Q:=rfl
theorem MO {x:Str} {j:List Str} {e:Expr} {te:TE} {p c a:Pos} (G:GTd X.K X.mg x j) (u:X.A.units+64<cLine) (l:PE X e te) (w:Gl X x:=by exact rfl) (i:(x==("__debug__":Str))=false:=by decide)
  (f:attributeBase (.Name x p) "index" X.env (eval (.Name x p) X.env)=eval (.Name x p) X.env:=by rfl)
  (g:((backTo a (starEach [e] X.env)).all (λx=>!x.1)&&(backToKw a (keywordEach [] X.env)).all (λx=>x.1.isSome)
   &&decide ([e].length+([]:List Keyword).length+(if ([]:List Keyword).isEmpty then 0 else 1)<30))=true:=by rfl)
  (d:(c.endLine==a.line)=true:=by rfl) (k:starEach [e] X.env=(false,eval e X.env)::starEach [] X.env:=by rfl) (b:(backTo a (starEach [] X.env)).any (·.1)=false:=by rfl):
  PE X (.Call (.Attribute (.Name x p) "index" c) [e] [] a) (HV X.K j te):=by
 obtain⟨q,o,r,n,h1,t,h2⟩:=G.ex;intro m s σ H Q I h;exact bC PySem.F.plainAttrs_tuple PySem.F.slot_tuple_index PySem.F.type_tuple_index (HU u) (cG (v:=V.ref q) w h1 rfl i) (ab l ad k) f g d k b m s σ H Q I ⟨.inr (.inl ⟨rfl,o,h2.1,h2.2.1,t⟩),h q λ_=>.inr ⟨o,r,n,h2⟩⟩
structure GTd0(K:Frag)(x:Str)(ws:List Str):Prop where
 ex:∃(q:Addr) (o:Obj) (So:Array Value) (n:Nat),nsIn K mainGlobals x=some ↑q/\o.dict=none/\K.lookup q=some o/\o.cls=.type "tuple"/\o.data=.seq So n/\So.size<=sizeLine/\Vals (ws.map V.str) So.toList
def GTd0.mk'{K:Frag}{x:Str}{f:List Str}{p:Addr}{o:Obj}{So:Array Value}{n:Nat}(a:nsIn K mainGlobals x=some ↑p)(b:K.lookup p=some o)(z:o.dict=none)(c:o.cls=.type "tuple")(d:o.data=.seq So n)(e:So.size<=sizeLine)(v:Vals (f.map V.str) So.toList):GTd0 K x f:=⟨p,o,So,n,a,z,b,c,d,e,v⟩
def GTd0.of{Z:Z5}{x:Str}{b:List Str}(g:GTd0 Z.K x b)(B:Bt3 Z):GTd Z.K Z.mg x b:=let ⟨p,o,i,n,a,r⟩:=g.ex;⟨p,o,i,n,B.ns a,r⟩
end
def MP:∀ x∈gt_KINDS,PyData.strOk x=true:=λx a=>by
 rw[nU]at a;obtain⟨t,_,rfl⟩:=SL.mp a;exact Hm (by cases t <;> decide)
variable{K:Frag}{H:Hp}{Q:VK}
theorem J4{q:Addr}{a:List Str}{w:Str}(k:SqT K H q (a.map V.str))(g:w∈a)(j:∀ x∈a,PyData.strOk x=true)(h:Q (.int (a.findIdx (· ==w):Nat)) H):rJ K (.ref q) [.str w] H Q:=by
 have b:a.findIdx (· ==w)<a.length:=Um ⟨w,g,by simp⟩;refine⟨a.map PyData.str,.str w,a.findIdx (· ==w),.tup k (.strs a),.str w,rf λd l=>by obtain⟨x,n,rfl⟩:=SL.mp l;rw[PyData.canLay0];exact j x n,by rw[PyData.canLay0];exact j w g,?_,⟨.str a[a.findIdx (· ==w)],?_,?_⟩,λm e c i=>?_,h⟩
 . rw[show(PyData.str w).depth=0 by simp[PyData.depth]];lia
 . rw[SI,Sy b];rfl
 . have:=VN (w:=b);rw[pH,Sz]
   simpa using this
 . have f:m<a.length:=by lia
   rw[SI,Sy f]at i;cases i;have:=WB c;rw[pH,Tf]
   simpa using this
theorem F6(ks:List TK)(b c:Option Int):∃ a:List TK,cutV ((ks.map txk).map V.str) b c=(a.map txk).map V.str/\a.length<=ks.length:=by
 refine⟨(ks.drop (HT.sIx ((ks.map txk).map V.str).length 0 b)).take (HT.sIx ((ks.map txk).map V.str).length ((ks.map txk).map V.str).length c-HT.sIx ((ks.map txk).map V.str).length 0 b),?_,?_⟩
 . unfold cutV;rw[← Vj,← U0,← Vj,← U0]
 . rw[Tx,UP];lia
def HW{k:Nat}{ix:List (Option Nat)}{b:TE}{g:TG}{c:TT}{te:TE}{D:Ends}{σ:St}:sComp k ix (iTup K b) g c te D σ H=b σ H λx H1=>∃ a,x=.ref a/\(∃ xs,SqT K H1 a xs)/\CompR (Itt K a) g c te (λl H'=>D.nx (σ.set k ↑l) H') (subσ ix σ) H1:=rfl
def kY(K:Frag):Sp:=#[3,∃(a:Addr) (ns:∅) (b:Int),vs=[.ref a,.int b]/\SqL K H a (ns.map V.int)/\ns.length<=63/\0<=b/\b<=900/\∀(l:Addr) (ks:List TK) (H':Hp),Same H H'->H l=none->KdL H' l ks->ks.length<=40->Q (.ref l) H']
def g9(K:Frag):TS:=#[":jdw}]3]^3~p*dLd~o2ef#12 ef#3 "]
def hJ(K:Frag):TS:=#[":gomd>dLd~o2ef#3 ef#4 ef#0 TGbMW3aexy`0cp}^b",s!"clue"]
def mH(K:Frag):TS:=#[":g~e#3 &--10 ~Nb'ib~Zi#1 md>dL,~qba3adwdw2ef#1 _ab~Z1cef#3 ef#0 1_bb"]
def kZ(K:Frag):TS:=#[":gl,~qba0a1ci#2 gomdrbdL2ef#3 ef#0 jq_cba'ib~Zcp_db"]
section
variable{K:Frag}{H H0:Hp}{Q:VK}
theorem mI{S:Addr}{j v1:Option V}{n:Int}{ks:List TK}(s0:Same H0 H)(e:KdL H S ks)(o:ks.length<=12)(q:∀(l:Addr) (ks:List TK) (H':Hp),Same H0 H'->H0 l=none->KdL H' l ks->ks.length<=40->Q (.ref l) H'):
  g9 K (eD9 Q) [j,v1,⇑n,↑S] H:=by
 unfold g9;exists⟨S,_,rfl,e,λp h1=>?_⟩;obtain⟨H1,c,s1,e1⟩:=aU (.lst ((ks.map txk).map V.str).reverse) h1;rw[c];refine⟨⟨by lia,by lia⟩,by lia,?_⟩;obtain⟨a,h,k⟩:=F6 ks none (some (n/12%3));refine sW (s1 _ _ e) λm h2=>?_;rw[h];obtain⟨d,c,b,e2⟩:=aU (.lst ((a.map txk).map V.str)) h2;rw[c];refine LA (b _ _ e1) e2 (by simp;lia) λf h3=>?_
 have i:((ks.map txk).map V.str).reverse++(a.map txk).map V.str=((ks.reverse++a).map txk).map V.str:=by
  rw[TV,TV,List.map_reverse,List.map_reverse]
 rw[i];have g:Same d (upd d f (.lst (((ks.reverse++a).map txk).map V.str))):=(SF d).laid h3;exact q f (ks.reverse++a) _ (((s0.trans s1).trans b).trans g) (((s0.trans s1).trans b).free h3) aj (by simp;lia)
theorem va{S:Addr}{e v1:Option V}{n:Int}{ks:List TK}(s0:Same H0 H)(d:H0 S=none)(a:KdL H S ks)(f:ks.length<=11)(q:∀(l:Addr) (ks:List TK) (H':Hp),Same H0 H'->H0 l=none->KdL H' l ks->ks.length<=40->Q (.ref l) H'):
  hJ K (eD9 Q) [e,v1,⇑n,↑S] H:=by
 unfold hJ;rw[aK,aF];exists⟨⟨by lia,by lia⟩,by lia,?_⟩;by_cases c:0<n/3%4
 . refine E5 (SB c) ?_;exists⟨br a,?_⟩;rw[fV a]
   have b:(ks.map txk).map V.str++[V.str (tx s!"clue")]=((ks++[TK.clue]).map txk).map V.str:=by
    rw[TV,TV];rfl
   rw[b];refine⟨by simp;exact aH #[4],mI (s0.own d) (ks:=ks++[TK.clue]) aj (by simp;lia) q⟩
 . refine E6 (SE c) ?_;exists mI s0 a #[4] q
end
variable{vs:List V}{E:XK}
theorem zP(h:kY K vs H Q E):kZ K (eD9 Q) (start ["_law_script","_law_at","_law_number","_law_some"] vs) H:=by
 obtain⟨a,ns,b,rfl,g,d,k,r,q⟩:=h;exists kZ;refine⟨a,ns,b,rfl,g,d,k,by lia,?_⟩;symm;rw[aF];exists⟨by lia,?_⟩;by_cases c:dJ ns b%3=0
 . refine E5 (SB c) ?_;symm;rw[K3];intro u e;rw[nU]at e;exact⟨u,_,rfl,.inr e,λl i=>q l allT _ ((SF H).laid i) i aj #[1]⟩
 . refine E6 (SE c) ?_;symm;unfold mH;rw[aK,HW,K3];intro u e;refine⟨u,rfl,⟨_,e⟩,?_⟩;have t:gt_KINDS.length=11:=by decide+kernel
   refine BS (xs:=gt_KINDS) (λx=>decide (0<dJ ns (b+1+(gt_KINDS.findIdx (· ==x):Nat))%3)) #[4] e ?_ ?_ ?_
   . intro x H1 R f s1 k1;have o:gt_KINDS.findIdx (· ==x)<gt_KINDS.length:=Um ⟨x,f,by simp⟩;show tTest _ [none,some (.str x),⇑b,↑a] H1 R;symm;rw[Od];intro v m;exists J4 (m _) f MP ?_;refine⟨a,ns,_,rfl,s1.seq g,d,by lia,by lia,?_⟩;exists⟨by lia,?_⟩;exact k1 _ (SF _)
   . intro x H1 p f s s1 k1;exact k1 _ (SF _)
   . intro S H1 n s1 j;rw[nU,Ux]at j;exact va s1 n j (SW (SV _ _) #[1]) q
def zer(cl:∅):∅:=List.replicate cl.length 0
def tU(K:Frag)(c:WY)(d:WZ):Sp:=#[3,∃ P L G h w g a Sl cl,vs=[.ref P,.int a]/\IsPz H c d P L G h w g Sl cl/\freeP g cl<=1024/\0<=a/\
 ∀(l:Addr) (e:List Addr) (H':Hp),Same H H'->H l=none->IsLL H' l e (rp h w g Sl cl (zer cl) a.toNat)->l∉e->(∀ b∈e,H b=none)->Q (.ref l) H']
def tV(K:Frag)(c:WY)(d:WZ):TS:=#[":j,_ebhna0ad'huaef#0 c,~bbatnF~j~kbhn0cca1c"]
variable{c:WY}{d:WZ}
theorem HX(h:tU K c d vs H Q E):tV K c d (eD9 Q) (start ["puzzle","most"] vs) H:=by
 obtain⟨P,L,G,h,w,g,f,Sl,cl,rfl,x,e,m0,q⟩:=h;obtain⟨W,Y,rs,h1,h2,h3⟩:=x.ex;obtain⟨I,O,X,U,B,S,T⟩:=id x.R.F;have i:0<=h*w:=Ul #[4] #[4];exists tV;refine⟨lnR rfl,λZ D=>?_⟩;obtain⟨H1,v,s1,z⟩:=aU (.lst [V.int 0]) D;rw[v];refine methE (k:=.Puzzle) rfl x.ok (s1 _ _ h1) (by rfl) ?_;exists⟨P,L,G,h,w,g,Sl,cl,rfl,x.same s1,λp A=>?_⟩;exists⟨p,h,w,g,rfl,A,I,O,?_⟩;exists DK z #[4] #[4] (by show(1:Nat)<=1;decide) λN u=>?_;have o:Same H1 (upd H1 N (.lst (List.replicate (h*w).toNat [V.int 0]).flatten)):=(SF H1).laid u
 have j:(upd H1 N (.lst (List.replicate (h*w).toNat [V.int 0]).flatten)) N=↥((zer cl).map V.int):=by
  rw[aj];unfold zer;rw[x.C.len,Wc];simp
 generalize upd H1 N (.lst (List.replicate (h*w).toNat [V.int 0]).flatten)=H2 at*;have a:=s1.trans o;refine⟨P,L,G,N,h,w,g,f,Sl,cl,zer cl,rfl,x.same a,j,by unfold zer;simp,e,m0,λl n t m r y M s=>?_⟩;exact q l n t (a.trans m) (a.free r) y M λb J=>a.free (s b J)
def vb(R:Int->∅->Prop):∅->List ∅->Prop
 | [],[]=>True
 | x::f,ss::r=>R x ss/\vb R f r
 | _,_=>False
theorem E7{R:Int->∅->Prop}:∀{f:∅} {sss:List ∅},vb R f sss↔f.length=sss.length/\∀(i:Nat) x ss,f[i]? =some x->sss[i]? =some ss->R x ss
 | [],[]=>by simp[vb]
 | [],_::_=>by simp[vb]
 | _::_,[]=>by simp[vb]
 | x::f,ss::r=>by
  rw[vb,E7 (f:=f) (sss:=r)];constructor
  . rintro⟨h1,h2,h3⟩;refine⟨by simp[h2],λi y s e1 e2=>?_⟩
    match i,e1,e2 with
    | 0,e1,e2=>simp at e1 e2;subst e1 e2;exact h1
    | i+1,e1,e2=>exact h3 i y s (by simpa using e1) (by simpa using e2)
  . rintro⟨h1,h2⟩;exact⟨h2 0 x ss rfl rfl,by simpa using h1,λi y s e1 e2=>h2 (i+1) y s (by simpa using e1) (by simpa using e2)⟩
variable{f:∅}
theorem mem_extL{fs:List ∅}{ss:∅}:f∈extL fs ss↔∃ a∈fs,∃ s∈ss,f=a++[s]:=by
 unfold extL;rw[Uq];constructor
 . rintro⟨a,c,h⟩;obtain⟨s,b,rfl⟩:=SL.mp h;exact⟨a,c,s,b,rfl⟩
 . rintro⟨a,c,s,b,rfl⟩;exact⟨a,c,SL.mpr ⟨s,b,rfl⟩⟩
theorem E8:∀(sss fs:List ∅) (f:∅),f∈sss.foldl extL fs↔∃ a∈fs,∃ t,f=a++t/\vb (λx ss=>x∈ss) t sss
 | [],fs,f=>by
  constructor
  . intro h;exact⟨f,h,[],by simp,trivial⟩
  . rintro⟨a,d,t,rfl,c⟩
    cases t with
    | nil=>simpa using d
    | cons x t=>exact c.elim
 | ss::r,fs,f=>by
  rw[Ti,E8 r];constructor
  . rintro⟨b,g,t,rfl,c⟩;obtain⟨a,d,s,e,rfl⟩:=mem_extL.mp g;exact⟨a,d,s::t,by simp,e,c⟩
  . rintro⟨a,d,t,rfl,c⟩
    cases t with
    | nil=>exact c.elim
    | cons x t=>exact⟨a++[x],mem_extL.mpr ⟨a,d,x,c.1,rfl⟩,t,by simp,c.2⟩
variable{sss:List ∅}
theorem J5:f∈cg sss↔vb (λx ss=>x∈ss) f sss:=by
 unfold cg;rw[E8];constructor
 . rintro⟨a,c,t,rfl,b⟩;rw[SO.mp c];exact b
 . intro h;exact⟨[],by simp,f,rfl,h⟩
theorem zQ{ss:∅}(d:ss.Nodup):∀{fs:List ∅},fs.Nodup->(extL fs ss).Nodup
 | [],_=>UT
 | f::r,h=>by
  obtain⟨h1,h2⟩:=Ty.mp h;rw[show f::r=[f]++r from rfl,Ek,xS];refine Uk.mpr ⟨?_,zQ d h2,?_⟩
  . refine Wp.mpr (List.Pairwise.imp (λ{a b} c e=>c ?_) d);have:=(List.append_inj' e rfl).2
    simpa using this
  . rintro a i b j rfl;obtain⟨s,_,rfl⟩:=SL.mp i;obtain⟨g,k,l,_,e⟩:=mem_extL.mp j;have:=(List.append_inj' e rfl).1;exact h1 (this ▸ k)
theorem F7(h:∀ ss∈sss,ss.Nodup):(cg sss).Nodup:=by
 unfold cg
 have:∀(sss a:List ∅),(∀ ss∈sss,ss.Nodup)->a.Nodup->(sss.foldl extL a).Nodup:=by
  intro sss
  induction sss with
  | nil=>intro a _ h;exact h
  | cons ss r c=>intro a h1 h2;exact c _ (λx b=>h1 x (SM _ b)) (zQ (h1 ss SN) h2)
 exact this sss [[]] h (by simp)
theorem HY(g:Int):(rngL 1 (g+1)).Nodup:=by
 unfold rngL;refine Wp.mpr (List.Pairwise.imp (λ{a b} c e=>c ?_) VD);lia
variable{g:Int}
theorem signsFrom_mem{n x:Int}:x∈bR g n↔1<=x/\x<=g:=by
 unfold bR;rw[SX,or_comm,← SX,Ue,rng1_mem]
theorem zR(g n:Int):(bR g n).Nodup:=by
 unfold bR;refine(List.Perm.nodup_iff (List.perm_append_comm)).mpr ?_;rw[Ue];exact HY g
variable{ns:∅}
theorem GU{cl:∅}{i:Nat}{z:Int}(a:cl[i]? =some z):(trysL g cl ns)[i]? =some (if z=0 then bR g (ns.getD i 0) else [z]):=by
 have b:=(SD.mp a).1;unfold trysL;rw[SI,Tz b];show some (if cl.getD i 0=0 then bR g (ns.getD i 0) else [cl.getD i 0])=_;rw[bJ a]
theorem trys_mem{cl:∅}:f∈cg (trysL g cl ns)↔f.length=cl.length/\∀(i:Nat) x z,f[i]? =some x->cl[i]? =some z->(z=0->1<=x/\x<=g)/\(z≠0->x=z):=by
 rw[J5,E7,xV];refine and_congr_right λj=>⟨λh i x z c e=>?_,λh i x ss c b=>?_⟩
 . have:=h i x _ c (GU e)
   split at this
   . rename_i h0
     exact⟨λ_=>signsFrom_mem.mp this,λa=>absurd h0 a⟩
   . rename_i h0
     exact⟨λa=>absurd a h0,λ_=>SO.mp this⟩
 . have k:=(SD.mp c).1;have d:cl[i]? =some (cl[i]'#[4]):=Sy _;have h2:=h i x _ c d;rw[GU d]at b;cases b
   split
   . rename_i h0
     exact signsFrom_mem.mpr (h2.1 h0)
   . rename_i h0
     exact SO.mpr (h2.2 h0)
theorem HZ{cl:∅}:(cg (trysL g cl ns)).Nodup:=by
 refine F7 λss a=>?_;unfold trysL at a;obtain⟨i,_,rfl⟩:=SL.mp a
 split
 . exact zR _ _
 . simp
section
variable{c:WY}{h w g:Int}{Sl:List RR}{cl fl:∅}{ks:List TK}
theorem Do(D:dS c h w g fl Sl)(d:g8 fl cl)(a:cl.length=(h*w).toNat):metB h w g Sl cl fl=true:=by
 unfold metB filB cluB rowsB;rw[SA,SA,SA];refine⟨⟨SB D.fll,SK.mpr λx f=>?_⟩,SK.mpr λi j=>?_,SK.mpr λr b=>D.ho r b⟩
 . have:=D.sg x f;rw[SB this.1,SB this.2];rfl
 . have:=SQ.mp j;rcases d i (by rw[D.fll,← a];exact this) with e | e
   . rw[SB e];rfl
   . rw[SB e,WX]
theorem E9{f:∅}(D:dS c h w g fl Sl)(u:CluesOk h w g cl)(A:metB h w g Sl cl f=true):f.length=(h*w).toNat/\∀ k,k<f.length->stB ((stF h w g Sl cl ks).getD k 0) (f.getD k 0)=true:=by
 have p:=D.g2;have r:=D.g3;have i:1<=g:=by lia
 have j:g<=6:=by lia
 have t:=dP i j;unfold metB at A;rw[SA,SA]at A;obtain⟨v,q,o⟩:=A;obtain⟨a,d⟩:=xP v;obtain⟨Ss,_,W,_⟩:=rG (cl:=cl) (ks:=ks) D.R;refine⟨a,ye (λ{m} M s=>⟨D.F,a,M.len,λx b=>⟨(M.mm x b).1,by have:=(M.mm x b).2;lia⟩,d,s,λk l=>?_,D.R.ok,λx b=>SK.mp o x b⟩) i j a d (p6 i j) (λk l=>?_) W⟩
 . have:=SK.mp q k (SQ.mpr (by rw[u.1];lia));rw[TD,Sz,Sz]at this;exact this
 . have n:=d _ (aT (ms:=f) l)
   have e:(fuL h w g).getD k 0=2^g.toNat-1:=by
    rw[List.getD,Vq,SY (by rw[← a];exact l)];rfl
   rw[e];exact GT p r n.1 n.2
theorem Ia(D:dS c h w g fl Sl):MkP g (h*w).toNat (stF h w g Sl cl ks):=by
 obtain⟨Ss,_,W,_⟩:=rG (cl:=cl) (ks:=ks) D.R;exact(W.okM D.R.F.g0 D.R.F.g1 (p6 D.R.F.g0 D.R.F.g1)).1
theorem Ib{m x:Int}(l:decide (((sgL m).length:Int)=1)=true)(m0:0<=m)(st:stB m x=true):sgL m=[x]:=by
 have d:=SG l;have c:=(cp m0 x).mpr st
 cases e:sgL m with
 | nil=>rw[e]at c;cases c
 | cons a r=>
  cases r with
  | nil=>rw[e]at c;rw[SO.mp c]
  | cons b r=>rw[e]at d;simp at d;lia
theorem OI{f:∅}(D:dS c h w g fl Sl)(d:CluesOk h w g cl)(j:g8 fl cl)(s:setB (stF h w g Sl cl ks)=true)(A:metB h w g Sl cl f=true):f=fl:=by
 have X:=Ia (cl:=cl) (ks:=ks) D;have a:=E9 (ks:=ks) D d A;have b:=E9 (ks:=ks) D d (Do D j d.1);have m:=D.fll;unfold setB at s;rw[SK]at s;refine Vb #[4] λk h1 h2=>?_;have i:k < (stF h w g Sl cl ks).length:=by rw[X.len];lia
 have l:=s _ (aT i);have m0:=(X.mm _ (aT i)).1;have e1:=Ib l m0 (a.2 k h1);have e2:=Ib l m0 (b.2 k h2);rw[e1]at e2;have e:=List.head_eq_of_cons_eq e2;rw[List.getD,Sy h1,List.getD,Sy h2]at e;exact e
theorem LK(D:dS c h w g fl Sl)(a:CluesOk h w g cl)(f:g8 fl cl)(s:setB (stF h w g Sl cl ks)=true):setF h w g Sl ks cl=true:=by
 have X:=Ia (cl:=cl) (ks:=ks) D;have b:=E9 (ks:=ks) D a (Do D f a.1);have d:=D.fll;unfold setF stlB;rw[s,S7]
 have i:(stF h w g Sl cl ks).map sbI=fl:=by
  refine Vb (by rw[Sx,X.len,d]) λk h1 h2=>?_;have e:k < (stF h w g Sl cl ks).length:=by rw[X.len];lia
  unfold setB at s;rw[SK]at s;have e2:=Ib (s _ (aT e)) (X.mm _ (aT e)).1 (b.2 k h2);rw[List.getD,Sy e,List.getD,Sy h2]at e2;rw[List.getElem_map];have j:sgL (stF h w g Sl cl ks)[k]=[fl[k]]:=e2;unfold sbI;rw[j];rfl
 rw[i];exact Do D f a.1
theorem OJ(s:setF h w g Sl ks cl=true):setB (stF h w g Sl cl ks)=true:=by
 unfold setF stlB at s;rw[SA]at s;exact s.1
theorem J6{α:Type}{xs:List α}{y:α}(d:xs.Nodup)(h:y∈xs)(c:∀ x∈xs,x=y):xs=[y]:=by
 cases xs with
 | nil=>cases h
 | cons a r=>
  have f:=c a (.head _);subst f
  cases r with
  | nil=>rfl
  | cons b r=>
   have e:=c b (.tail _ (.head _));rw[e]at d;simp at d
theorem OK{f:∅}(C:CluesOk h w g cl)(a:metB h w g Sl cl f=true):f∈(cg (trysL g cl (zer cl))).filter (metB h w g Sl cl):=by
 refine SJ.mpr ⟨trys_mem.mpr ?_,a⟩;unfold metB at a;rw[SA,SA]at a;obtain⟨h1,h2,_⟩:=a;obtain⟨d,j⟩:=xP h1;refine⟨by rw[d,C.len],λi x z c b=>?_⟩;have k:=(SD.mp b).1;have e:=j x (SH c);unfold cluB at h2;have:=SK.mp h2 i (SQ.mpr k);rw[TD,Sz,Sz,bJ b,bJ c]at this;exact⟨λ_=>e,λh0=>(this.resolve_left h0).symm⟩
theorem OL(D:dS c h w g fl Sl)(a:CluesOk h w g cl)(b:g8 fl cl)(s:setF h w g Sl ks cl=true):rp h w g Sl cl (zer cl) 2=[fl]:=by
 have e:=J6 (List.Pairwise.filter (metB h w g Sl cl) (HZ (g:=g) (cl:=cl) (ns:=zer cl))) (OK a (Do D b a.1)) λx d=>OI D a b (OJ s) (SJ.mp d).2;unfold rp;rw[e];rfl
theorem Oe(k:h*w<=6)(i:2<=g)(b:g<=3)(e:CluesOk h w g cl):freeP g cl<=1024:=by
 have l:=e.len;have j:cl.length<=6:=by lia
 have q:∀(xs:∅) (n:Int),0<=n->xs.foldl (λn c=>if c=0 then n*g else n) n<=n*3^xs.length:=by
  intro xs
  induction xs with
  | nil=>intro n _;simp
  | cons x xs d=>
   intro n a;have p:(0:Int)<=3^xs.length:=Int.pow_nonneg #[1];rw[Ti,S2];have m:n*g<=n*3:=UW b a;have f:0<=n*g:=Ul a #[4];refine WW (d (if x=0 then n*g else n) (by split <;> lia)) ?_;rw[Int.pow_succ,Int.mul_comm ((3:Int)^xs.length) 3,← Int.mul_assoc];refine Int.mul_le_mul_of_nonneg_right ?_ p
   split <;> lia
 refine WW (q cl 1 #[1]) ?_;generalize cl.length=n at*;have:n=0\/n=1\/n=2\/n=3\/n=4\/n=5\/n=6:=by lia
 rcases this with rfl | rfl | rfl | rfl | rfl | rfl | rfl <;> decide
theorem J7(D:dS c h w g fl Sl)(y:TK.clue∈ks):setF h w g Sl ks fl=true:=by
 have C:=D.g2;have E:=D.g3;have n:=D.fll;have B:CluesOk h w g fl:=⟨n,λx i=>by have:=D.sg x i;lia⟩;have l:g8 fl fl:=λk _=>.inr rfl;have X:=Ia (cl:=fl) (ks:=ks) D;obtain⟨Ss,_,W,A⟩:=rG (cl:=fl) (ks:=ks) D.R;have s:=u9 D l W;have u:=wk D l W;refine LK D B l ?_;unfold setB;rw[SK];intro m p;obtain⟨k,j,rfl⟩:=Vh p;have f:k<fl.length:=by rw[X.len]at j;lia
 have b:=X.mm _ p;have t:=u k f;rw[List.getD,Sy j]at t;have o:stB (stF h w g Sl fl ks)[k] (fl.getD k 0)=true:=t
 have e:sgL (stF h w g Sl fl ks)[k]=[fl.getD k 0]:=by
  refine J6 (rz _) ((cp b.1 _).mpr o) λx i=>?_;have z:=(cp b.1 x).mp i;refine UG λv=>?_;have r:=rC (g:=g) #[4] #[4] b.1 b.2 i
  have a:alwA h w g Sl fl (stF h w g Sl fl ks) .clue 0 (k:Int) x []=true:=by
   unfold alwA formB;simp only[SA,Sz];refine⟨⟨⟨by lia,by lia⟩,⟨r.1,r.2⟩,rfl⟩,?_⟩;show clueB fl k x []=true;unfold clueB;rw[TC];simp only[SA,Sz,Tg,Tf];have:=D.sg _ (aT (ms:=fl) f);exact⟨trivial,by lia,λq=>v q.symm⟩
  have:=J0 D.R X s (A.resolve_left s) y a;rw[TC,List.getD,Sy j]at this;have d:stB (stF h w g Sl fl ks)[k] x=false:=this;rw[z]at d;cases d
 rw[e];rfl
end
section
variable{c:WY}{h w g:Int}{Sl:List RR}{fl:∅}{ks:List TK}
theorem Fa:∀(O cl:∅),setF h w g Sl ks cl=true->setF h w g Sl ks (dA h w g Sl ks cl O)=true
 | [],_,s=>s
 | z::O,cl,s=>by
  show setF h w g Sl ks (dA h w g Sl ks (stpL h w g Sl ks cl z) O)=true;refine Fa O _ ?_;unfold stpL
  split
  . rename_i q;exact q.2
  . exact s
theorem Fc{k:Nat}:∀(O cl:∅),(∀ z∈O,z.toNat≠k)->(dA h w g Sl ks cl O).getD k 0=cl.getD k 0
 | [],_,_=>rfl
 | z::O,cl,n=>by
  show(dA h w g Sl ks (stpL h w g Sl ks cl z) O).getD k 0=_;rw[Fc O _ λy a=>n y (.tail _ a)];unfold stpL
  split
  . rw[f9,SS (n z (.head _))]
  . rfl
structure yh(h w g:Int)(Sl:List RR)(ks:List TK)(fl O cl:∅):Prop where
 cu:g8 fl cl
 Cc:CluesOk h w g cl
 set_:setF h w g Sl ks cl=true
 no:∀ z∈O,0<cl.getD z.toNat 0->setF h w g Sl ks (cl.set z.toNat 0)=false
 out:∀ k:Nat,(∀ z∈O,z.toNat≠k)->cl.getD k 0=fl.getD k 0
theorem Of{O:∅}(D:dS c h w g fl Sl)(m:TK.clue∈ks)(j:∀ z∈O,0<=z/\z<h*w):yh h w g Sl ks fl O (dA h w g Sl ks fl O):=by
 have f:CluesOk h w g fl:=⟨D.fll,λx d=>by have:=D.sg x d;have:=D.g2;lia⟩;have T:=Be D O [] (fl,[]) j (E4 (c:=c) (Sl:=Sl) (ks:=ks) f λk _=>.inr rfl);rw[VQ]at T;have e:(O.foldl (stpP h w g Sl ks) (fl,[])).1=dA h w g Sl ks fl O:=T.2;have b:=T.1;refine⟨e ▸ b.cu,⟨e ▸ b.len,λx d=>?_⟩,Fa O fl (J7 D m),λz r p=>?_,λk n=>Fc O fl n⟩
 . rw[← e]at d;have a:=b.cn x d;obtain⟨i,o,rfl⟩:=Vh d;have s:=b.len;have l:=D.fll;have q:=b.cu i #[4];rw[List.getD,Sy o]at q;have t:(O.foldl (stpP h w g Sl ks) (fl,[])).1[i]=0\/(O.foldl (stpP h w g Sl ks) (fl,[])).1[i]=fl.getD i 0:=q;have:=D.sg _ (aT (ms:=fl) (k:=i) #[4]);have:=D.g2;lia
 . rw[← e]at p ⊢;exact(b.kp z (b.all z r #[4])).2
theorem GV{O cl:∅}(X:yh h w g Sl ks fl O cl):∀(a:∅),(∀ z∈a,z∈O)->dA h w g Sl ks cl a=cl
 | [],_=>rfl
 | z::a,s=>by
  show dA h w g Sl ks (stpL h w g Sl ks cl z) a=cl
  have e:stpL h w g Sl ks cl z=cl:=by
   unfold stpL;rw[SS];rintro⟨p,q⟩;rw[X.no z (s z (.head _)) p]at q;cases q
  rw[e];exact GV X a λy b=>s y (.tail _ b)
theorem Og{O cl:∅}{z:Int}(D:dS c h w g fl Sl)(X:yh h w g Sl ks fl O cl)(f:z∈O)(p:0<cl.getD z.toNat 0):MkP g (h*w).toNat (stF h w g Sl (cl.set z.toNat 0) ks)/\(∀ k,k<fl.length->stB ((stF h w g Sl (cl.set z.toNat 0) ks).getD k 0) (fl.getD k 0)=true)/\setB (stF h w g Sl (cl.set z.toNat 0) ks)=false/\ntF h w g Sl (cl.set z.toNat 0) (stF h w g Sl (cl.set z.toNat 0) ks) ks=none:=by
 have a:=E3 X.cu z.toNat;have i:=D.g2;have d:=Bc X.Cc #[4] z.toNat;obtain⟨Ss,_,W,e⟩:=rG (cl:=cl.set z.toNat 0) (ks:=ks) D.R;have b:=u9 D a W;refine⟨Ia D,wk D a W,?_,?_⟩
 . cases s:setB (stF h w g Sl (cl.set z.toNat 0) ks) with
   | false=>rfl
   | true=>
    have:=LK D d a s;rw[X.no z f p]at this;cases this
 . unfold ntF;rw[SS b,e.resolve_left b];rfl
end
theorem Lr{p:Addr}{i:Int}(h:H p=some (.tup (ns.map V.int))):cIn K true (.int i) (.ref p) H Q=Q (.bl (!decide (i∈ns))) H:=by
 unfold cIn;dsimp only;rw[h];dsimp only[unD,unS,bnd];rw[ou,mB];simp[flatV]
def k9(K:Frag):Sp:=#[3,∃(C f a:Addr) (cl fl O:∅),vs=[.ref C,.ref f,.ref a]/\H C=↥(cl.map V.int)/\H f=↥(fl.map V.int)/\H a=↥(O.map V.int)/\cl.length=fl.length/\fl.length<=16/\g8 fl cl/\(∀ k:Nat,k<fl.length->cl.getD k 0=0->(k:Int)∈O)/\∀ H',Same H H'->Q (.bl true) H']
def lc(K:Frag):TS:=#[":gI[aqAa1cci#3 oOmdKbRdk03Qaef#0 adk13c~dmdrbdk03ef#0 mdKbR32jeHBpjdrbqAa0cqAa1c"]
theorem zS(h:k9 K vs H Q E):lc K (eD9 Q) (start ["_law_clues","_law_answer","_law_order","_law_k"] vs) H:=by
 obtain⟨C,f,o,cl,fl,O,rfl,j,g,n,r,p,l,m,q⟩:=h;exists lc;rw[aZ g,Sx];refine⟨_,rfl,by lia,by lia,?_⟩;refine pA (λi σ H'=>∃ d:Option V,σ=[↑C,↑f,↑o,d]/\Same H H') ⟨none,rfl,SF H⟩ ?_ ?_
 . rintro i σ H1 s ⟨d,rfl,s1⟩;have b:i<fl.length:=by have:i < ((fl.length:Nat):Int).toNat:=s;lia
   rw[UB];symm;rw[aF];exists ixI (s1 _ _ j) #[4] #[4] ?_;refine ixI (s1 _ _ g) #[4] #[4] ?_;rw[TC];refine⟨lnR rfl,λU k=>?_⟩;obtain⟨H2,z9,s2,eU⟩:∃ z,upd H1 U (.tup [V.int 0,V.int (fl.getD i 0)])=z/\Same H1 z/\z U=some (.tup (([0,fl.getD i 0]:∅).map V.int)):=aU _ k;rw[z9];have a:=s1.trans s2;rw[Lr eU]
   have e1:cl.getD i 0∈([0,fl.getD i 0]:∅):=by
    rcases l i b with e | e
    . rw[e];exact .head _
    . rw[e];exact .tail _ (.head _)
   rw[SB e1];refine⟨false,rfl,?_⟩;exists ixI (a _ _ j) #[4] #[4] ?_;rw[TC];symm;by_cases c:cl.getD i 0=0
   . rw[SB c];symm;rw[jY (a _ _ n),SB (m i b c)];refine⟨false,rfl,?_⟩;exists⟨_,rfl,a⟩
   . rw[SE c];exists⟨_,rfl,a⟩
 . rintro σ H1 ⟨d,rfl,s1⟩;symm;rw[aZ (s1 _ _ j),aZ (s1 _ _ g),Sx,Sx,r];exists q _ s1
def lf(K:Frag)(c:WY)(d:WZ):Sp:=#[3,∃(P L G f C b M:Addr) (h w g z:Int) (Sl:List RR) (a cl fl ms:∅) (ks:List TK),vs=[.ref P,.ref f,.ref C,.ref b,.int z,.ref M]/\IsPz H c d P L G h w g Sl a/\H f=↥(fl.map V.int)/\H C=↥(cl.map V.int)/\KdL H b ks/\H M=↥(ms.map V.int)/\CluesOk h w g cl/\0<=z/\z<h*w/\fl.length=(h*w).toNat/\MkP g (h*w).toNat ms/\(∀ k,k<fl.length->stB (ms.getD k 0) (fl.getD k 0)=true)/\setB ms=false/\ntF h w g Sl (cl.set z.toNat 0) ms ks=none/\∀ H',Same H H'->Q (.bl true) H']
def hV(K:Frag)(c:WY)(d:WZ):TS:=#[":gI[aqAa1cci#8 oPz,~tbadk58adk18cjeHBpjN~],'Nba5cd~:,_fbhna7aqYa5ca3ce:"]
def lg(K:Frag)(c:WY)(d:WZ):TS:=#[":glqYa2ci#6 glef#0 'O64'PgltnF~*~+bhn0a6ci#7 _gbhn"]
theorem zT(h:lf K c d vs H Q E):lg K c d (eD9 Q) (start ["_law_puzzle","_law_answer","_law_clues","_law_kinds_here","_law_cell","_law_masks","_law_fewer","_law_less","_law_k"] vs) H:=by
 obtain⟨P,L,G,f,C,I,M,h,w,g,z,Sl,y,cl,fl,ms,ks,rfl,s,J,eC,eK,u,O,z0,z1,fn,X,Z,ns,nt,q⟩:=h;obtain⟨dx,p,rs,h1,h2,h3⟩:=s.ex;have F:=s.R.F;have g0:=F.g0;have g6:=F.g1;have ac:=F.m;have hl:=O.1;have xl:=X.len;have ab:=dP g0 g6;ac_nf;unfold lg;generalize hW:hV K c d=W at*;exists iW eC λl r=>?_;have s1:Same H (upd H l (.lst (cl.map V.int))):=(SF H).laid r;have e1:(upd H l (.lst (cl.map V.int))) l=↥(cl.map V.int):=aj;generalize upd H l (.lst (cl.map V.int))=H1 at*;exists LC e1 z0 (by rw[Sx];lia) ?_;rw[wN];have x:Same H (upd H1 l (.lst ((cl.set z.toNat 0).map V.int))):=s1.own r;have e2:(upd H1 l (.lst ((cl.set z.toNat 0).map V.int))) l=↥((cl.set z.toNat 0).map V.int):=aj;generalize upd H1 l (.lst ((cl.set z.toNat 0).map V.int))=H2 at*;exists methE (k:=.Puzzle) rfl s.ok (x _ _ h1) (by rfl) ?_;exists⟨P,L,G,l,h,w,g,Sl,y,cl.set z.toNat 0,rfl,s.same x,e2,Bc O #[4] _,λS L' G' B s3 hP hL hG t=>?_⟩;subst hW;have n:=x.trans s3;unfold hV;symm;rw[aZ (n _ _ J),Sx];refine⟨_,rfl,by lia,by lia,?_⟩;refine pA (λi σ H'=>∃ v8:Option V,σ=[↑P,↑f,↑C,↑I,⇑z,↑M,↑l,↑S,v8]/\Same B H') ⟨none,rfl,SF B⟩ ?_ ?_
 . rintro i σ Y hi ⟨v8,rfl,o⟩;have A:i<fl.length:=by have:i < ((fl.length:Nat):Int).toNat:=hi;lia
   have a:=n.trans o;rw[UB];symm;rw[aF];exists ixI (a _ _ u) #[4] #[4] ?_;refine ixI (a _ _ J) #[4] #[4] ?_;rw[TC];refine⟨_,_,rfl,?_⟩;rw[Z i A];refine⟨true,rfl,?_⟩;exists⟨_,rfl,o⟩
 . rintro σ Y ⟨v8,rfl,o⟩;have a:=n.trans o;exists⟨M,ms,rfl,a _ _ u,by lia,λm hm=>?_,λH5 D=>?_⟩
   . have b:=X.mm m hm;have:=(dL (m:=m) b.1 #[4]).1;lia
   . rw[ns];refine⟨false,rfl,?_⟩;symm;have j:=a.trans D;refine iW (j _ _ u) λN hN=>?_;obtain⟨H6,z9,v,U⟩:=aU (.lst (ms.map V.int)) hN;rw[z9];exists⟨S,L',G',N,I,h,w,g,Sl,cl.set z.toNat 0,ms,ks,rfl,⟨t.same (o.trans (D.trans v)),U,xl,X.mm⟩,.inl ((j.trans v) _ _ eK),λ_ H7 s7=>?_,λth T M' H7 e=>by rw[nt]at e;cases e⟩;exists q _ ((j.trans v).trans s7)
def J8(K:Frag)(c:WY)(d:WZ):Sp:=#[3,∃(a:Addr) (ns:∅),vs=[.ref a]/\SqL K H a (ns.map V.int)/\ns.length<=63/\(∀ k,k≠.Rule->c.ok k=true)/\d.ok .Puzzle=true/\∀ H',Q (.bl true) H']
def Bf(K:Frag):Sp:=#[3,∃(a:Addr) (ns:∅),vs=[.ref a]/\SqL K H a (ns.map V.int)/\ns.length<=63/\∀ H',Q (.bl true) H']
def nY(K:Frag)(c:WY)(d:WZ):TS:=#[":g~e#12 &--7 sb,'jba0aef#540 aqAa3caqAa3cci#1 mdKbB121gl,'SbhnatnF~*~+bhn5a9ca|ca6ci#13 jNd'I|de:drbdk|def#0 9"]
def nZ(K:Frag)(c:WY)(d:WZ):TS:=#[":gIsbdk8ef#1 ~hb#2 Si#10 Si#11 ~ioOmdDbqAa|bcqAa3cPz,_hbhna5a3a9a6a|aa|bcjeHBp_ibhn"]
def n9(K:Frag)(c:WY)(d:WZ):TS:=#[":gomdDbv&-- sbdk8ef#1 i#1 Cdk1ef#0 v&--97 [aqAa3cci#1 ~dmdKbB13md>dk21ef#0 1jeHBp_jbhn"]
def p7(K:Frag)(c:WY)(d:WZ):TS:=#[":glqYadk8ef#0 ci#9 gomdDb,_kbhnatnF~*~+bhn5a9caef#2 cua3cjeHBp_lbhn"]
def p8(K:Frag)(c:WY)(d:WZ):TS:=#[":gl,'Sbhna5aqYa7caqYa6cci#8 goOmd~:8e:Pz,_mbadk8ef#0 a3a7cjeHBp_nbhn"]
def p9(K:Frag)(c:WY)(d:WZ):TS:=#[":gl,'jba0aef#520 aqAa3caqAa3cci#7 gomdrbdL4ef#3 ef#1 l]^7*dLd~o4ef#3 qAa7c~pi#7 p_obhn"]
def vc(K:Frag)(c:WY)(d:WZ):TS:=#[":gl,~qba0aef#401 ci#4 gl;'s't'ubhn=?a1a2a3ci#5 gldw,_pba0aef#500 cuaexy`0ci#6 _qbhn",s!"clue"]
def Fd(K:Frag)(c:WY)(d:WZ):TS:=#[":gl,_rbha0c~hb#3 Si#1 Si#2 Si#3 ~i_sbhn"]
structure Lw59(K:Frag)(H:Hp)(c:WY)(d:WZ)(a P L G f Kd Oa:Addr)(h w g:Int)(Sl:List RR)(ns fl O:∅)(ks:List TK):Prop where
 pS:SqL K H a (ns.map V.int)
 pn:ns.length<=63
 pP:IsPz H c d P L G h w g Sl fl
 pf:H f=↥(fl.map V.int)
 pK:KdL H Kd ks
 pO:H Oa=↥(O.map V.int)
 on:O.length<=16
 oz:∀ z∈O,0<=z/\z<h*w
 D:dS c h w g fl Sl
 hc:TK.clue∈ks
section
variable{K:Frag}{c:WY}{d:WZ}{H H':Hp}{Q:VK}{a P L G f Kd Oa:Addr}{h w g:Int}{Sl:List RR}{ns fl O cl:∅}{ks:List TK}
def Lw59.same(x:Lw59 K H c d a P L G f Kd Oa h w g Sl ns fl O ks)(s:Same H H'):Lw59 K H' c d a P L G f Kd Oa h w g Sl ns fl O ks:=⟨s.seq x.pS,x.pn,x.pP.same s,s _ _ x.pf,s _ _ x.pK,s _ _ x.pO,x.on,x.oz,x.D,x.hc⟩
theorem Ic{C:Addr}{v1 v2 W v8 B F E o:Option V}(X:Lw59 K H c d a P L G f Kd Oa h w g Sl ns fl O ks)(Y:yh h w g Sl ks fl O cl)(N:H C=↥(cl.map V.int))(q:∀ H',Q (.bl true) H'):
  nY K c d (eD9 Q) [↑a,v1,v2,↑f,W,↑P,↑Kd,↑Oa,v8,↑C,B,F,E,o] H:=by
 have fn:=X.D.fll;have m6:=X.D.m6;have m1:=X.D.m1;unfold nY;symm;rw[aZ X.pf,Sx];symm;rw[aZ X.pf,Sx];refine⟨a,ns,540,_,_,rfl,X.pS,X.pn,by decide,by decide,by lia,by lia,by lia,λl H1 cs s1 hl M nd lt ln=>?_⟩;refine⟨l,rfl,⟨_,ST M⟩,?_⟩;refine ba (xs:=cs.map λ(n:Nat)=>(n:Int)) (λy=>decide (y∈O)) (λy=>y) (by rw[Sx];lia) (ST M) ?_ ?_ ?_
 . intro y r R u j k2;show tTest _ [none,⇑y,↑Oa] r R;symm;rw[sS ((s1.trans j) _ _ X.pO)];exact⟨_,rfl,k2 _ (SF _)⟩
 . intro y r Q2 u hb j k2;exact k2 _ (SF _)
 . intro l2 r U j A;have b:=s1.trans j;have x:=X.same b
   have I:∀ z∈(((cs.map λ(n:Nat)=>(n:Int)).filter λy=>decide (y∈O)).map λy=>y),z∈O:=λz t=>by
    obtain⟨y,u,rfl⟩:=SL.mp t;exact SG (SJ.mp u).2
   have lo:(((cs.map λ(n:Nat)=>(n:Int)).filter λy=>decide (y∈O)).map λy=>y).length<=20:=by
    rw[Sx];refine SW (SV _ _) ?_;rw[Sx];lia
   generalize (((cs.map λ(n:Nat)=>(n:Int)).filter λy=>decide (y∈O)).map λy=>y)=O' at*;obtain⟨dx,p,rs,h1,h2,h3⟩:=x.pP.ex;exists methE (k:=.Puzzle) rfl x.pP.ok h1 (by rfl) ?_;exists⟨P,L,G,C,h,w,g,Sl,fl,cl,rfl,x.pP,b _ _ N,Y.Cc,λP' L' G' H3 J hP hL hG m=>?_⟩;have i:=b.trans J;refine⟨P',L',G',l2,Kd,h,w,g,Sl,cl,fl,O',ks,rfl,m,J _ _ A,lo,λz t=>X.oz z (I z t),.inl (i _ _ X.pK),X.D,Y.cu,λe=>?_,λe T Z Rl ts Ms H4 S hT hC hR ht hM s=>?_⟩
   . rw[Y.set_]at e;cases e
   . rw[GV Y O' I]at s;symm;rw[BY];exists ixT s.top (v:=V.ref Z) rfl ?_;refine wc s.C ((i.trans S) _ _ N) ?_;rw[SB rfl];exact q _
theorem J9{r:Int × ∅}(c:r∈c7 h w g Sl ks fl O):r.1∈O/\0<=r.1/\r.1<h*w/\0 < (dA h w g Sl ks fl O).getD r.1.toNat 0/\r.2=stF h w g Sl ((dA h w g Sl ks fl O).set r.1.toNat 0) ks:=by
 unfold c7 at c;obtain⟨z,d,rfl⟩:=SL.mp c;have a:=SJ.mp d;rw[SA,Sz,Sz]at a;have b:=mem_rngL.mp a.1;exact⟨a.2.1,b.1,b.2,a.2.2,rfl⟩
theorem Id{C T C0 B:Addr}{ts Ms:List Addr}{v1 v2 E e j p n:Option V}(X:Lw59 K H c d a P L G f Kd Oa h w g Sl ns fl O ks)(o:cl=dA h w g Sl ks fl O)(Y:yh h w g Sl ks fl O cl)(I:H C=↥(cl.map V.int))(l:IsTk H T C0 B ts Ms cl (c7 h w g Sl ks fl O))(q:∀ H',Q (.bl true) H'):
  nZ K c d (eD9 Q) [↑a,v1,v2,↑f,E,↑P,↑Kd,↑Oa,↑T,↑C,e,j,p,n] H:=by
 have U:=X.D.fll;have l1:=l.l1;have l2:=l.l2;unfold nZ;generalize hW:nY K c d=W at*;exists ixT l.top (v:=V.ref B) rfl ?_;refine⟨B,rfl,⟨_,ST l.R⟩,?_⟩;refine bg (K:=K) (xs:=ts.map V.ref) (λi σ H'=>∃ e j:Option V,σ=[↑a,v1,v2,↑f,E,↑P,↑Kd,↑Oa,↑T,↑C,e,j,p,n]/\Same H H') ⟨_,_,rfl,SF _⟩ (λi σ H' _ ⟨_,_,_,s⟩=>ST (s _ _ l.R)) ?_ ?_
 . rintro i v σ N hv ⟨e,j,rfl,k⟩;obtain⟨t,J,rfl⟩:=bf hv;have hi:i<ts.length:=(SD.mp J).1;have hM:Ms[i]? =some (Ms[i]'#[4]):=Sy #[4];have F:(c7 h w g Sl ks fl O)[i]? =some ((c7 h w g Sl ks fl O)[i]'#[4]):=Sy #[4];have b:=J9 (SH F);obtain⟨e1,e2⟩:=l.at_ i t _ _ J hM F;generalize Ms[i]'#[4]=M at*;generalize (c7 h w g Sl ks fl O)[i]'#[4]=r at*;obtain⟨z,ms⟩:=r;obtain⟨zO,S,z1,zp,em⟩:=b;have u:z∈O:=zO;have x:0<cl.getD z.toNat 0:=by rw[o];exact zp
   have A:ms=stF h w g Sl (cl.set z.toNat 0) ks:=by rw[o];exact em
   have m:=Og X.D Y u x;rw[← A]at m;have ml:=m.1.len;refine DO (k _ _ e1) rfl ?_;rw[KG];dsimp only[List.set_cons_succ,List.set_cons_zero];rw[aF];symm;rw[aZ (k _ _ e2),aZ (k _ _ X.pf),Sx,Sx];have en:(ms.length:Int)=(fl.length:Int):=by lia
   rw[en];symm;have y:=X.same k;refine⟨P,L,G,f,C,Kd,M,h,w,g,z,Sl,fl,cl,fl,ms,ks,rfl,y.pP,y.pf,k _ _ I,y.pK,k _ _ e2,Y.Cc,S,z1,U,m.1,m.2.1,m.2.2.1,m.2.2.2,λH3 Z=>?_⟩;refine⟨true,rfl,?_⟩;exists⟨_,_,rfl,k.trans Z⟩
 . rintro σ N ⟨e,j,rfl,k⟩;subst hW;exact Ic (X.same k) Y (k _ _ I) q
theorem OO(hw:0<=h*w)(b:fl.length=(h*w).toNat)(a:cl=dA h w g Sl ks fl O):(((List.range ((fl.length:Nat):Int).toNat).filter λ(i:Nat)=>decide ((i:Int)∈O)&&decide (0<cl.getD i 0)).map λ(i:Nat)=>(i:Int))=(c7 h w g Sl ks fl O).map Prod.fst:=by
 unfold c7 rngL;rw[Te,Ux,Te,TC,b,← a,Int.sub_zero];have e1:∀ i:Nat,(0:Int)+(i:Int)=i:=λi=>UB _;refine congr (congrArg List.map (funext λi=>?_)) (congrArg (λp=>List.filter p _) (funext λi=>?_))
 . show(i:Int)=0+(i:Int);lia
 . show _=(decide ((0:Int)+(i:Int)∈O)&&decide (0<cl.getD ((0:Int)+(i:Int)).toNat 0));rw[e1,TC]
theorem Ie{C T C0 y:Addr}{ts Ms:List Addr}{v1 v2 U u A z p:Option V}(X:Lw59 K H c d a P L G f Kd Oa h w g Sl ns fl O ks)(n:cl=dA h w g Sl ks fl O)(Y:yh h w g Sl ks fl O cl)(I:H C=↥(cl.map V.int))(j:IsTk H T C0 y ts Ms cl (c7 h w g Sl ks fl O))(q:∀ H',Q (.bl true) H'):
  n9 K c d (eD9 Q) [↑a,v1,v2,↑f,U,↑P,↑Kd,↑Oa,↑T,↑C,u,A,z,p] H:=by
 have S:=X.D.fll;have m6:=X.D.m6;have m1:=X.D.m1;have cn:=Y.Cc.1;have l1:=j.l1;have l2:=j.l2
 have rl:(c7 h w g Sl ks fl O).length<=6:=by
  unfold c7;rw[Sx];refine SW (SV _ _) ?_;rw[dI];lia
 unfold n9;rw[aK,aF];generalize Z:nZ K c d=W at*;exists ixT j.top (v:=V.ref y) rfl ?_;refine⟨y,rfl,⟨_,ST j.R⟩,?_⟩;refine bK (xs:=ts.map V.ref) (λ_=>true) (λi=>V.int (((c7 h w g Sl ks fl O).map Prod.fst).getD i 0)) (by rw[Sx];lia) (ST j.R) ?_ ?_ ?_
 . intro i x H1 R M s1 k1;exact k1 _ (SF _)
 . intro i x H1 N M hb s1 k1;obtain⟨t,J,rfl⟩:=bf M;have s:i<ts.length:=(SD.mp J).1;have hM:Ms[i]? =some (Ms[i]'#[4]):=Sy #[4];have F:(c7 h w g Sl ks fl O)[i]? =some ((c7 h w g Sl ks fl O)[i]'#[4]):=Sy #[4];obtain⟨e1,e2⟩:=j.at_ i t _ _ J hM F;show tOp cIx _ _ [none,↑t] H1 N;exists ixT (s1 _ _ e1) (v:=V.int ((c7 h w g Sl ks fl O)[i]'#[4]).1) rfl ?_;have B:=k1 _ (SF _);rw[List.getD,SI,F]at B;exact B
 . intro l H1 hl s1 E;rw[aY,Sx,l1,← Sx (f:=Prod.fst),i7 ((c7 h w g Sl ks fl O).map Prod.fst) V.int]at E;symm;rw[aZ (s1 _ _ X.pf),Sx];refine⟨_,rfl,by lia,by lia,?_⟩;refine qA (λ(i:Nat)=>decide ((i:Int)∈O)&&decide (0<cl.getD i 0)) (λ(i:Nat)=>(i:Int)) #[4] ?_ ?_ ?_
   . intro i o R s k k2;have ac:i<fl.length:=by have:i < ((fl.length:Nat):Int).toNat:=s;lia
     show tAnd _ _ [none,⇑(0+(i:Int)),↑C,↑Oa] o R;rw[UB];have b:=s1.trans k;have r:=k2 _ (SF _);symm;rw[sS (b _ _ X.pO)];refine⟨_,rfl,?_⟩;by_cases e:(i:Int)∈O
     . rw[SB e]at r ⊢;exists ixI (b _ _ I) #[4] #[4] ?_;rw[TC];symm;exact r
     . rw[SE e]at r ⊢;exact r
   . intro i o Q2 s hb k k2;show tVar 1 [none,⇑(0+(i:Int)),↑C,↑Oa] o Q2;rw[UB];exact k2 _ (SF _)
   . intro l' o ab k m;rw[OO #[4] S n]at m;refine sV (k _ _ E) m ?_;rw[SB rfl];symm;subst Z;have b:=s1.trans k;exact Id (X.same b) n Y (b _ _ I) (j.same b) q
theorem Ka{T E Rl:Addr}{ts Ms:List Addr}{v1 v2 N M u y x n:Option V}(X:Lw59 K H c d a P L G f Kd Oa h w g Sl ns fl O ks)(t:cl=dA h w g Sl ks fl O)(Y:yh h w g Sl ks fl O cl)(r:IsTk H T E Rl ts Ms cl (c7 h w g Sl ks fl O))(q:∀ H',Q (.bl true) H'):
  p7 K c d (eD9 Q) [↑a,v1,v2,↑f,N,↑P,↑Kd,↑Oa,↑T,M,u,y,x,n] H:=by
 unfold p7;generalize R:n9 K c d=W at*;exists ixT r.top (v:=V.ref E) rfl ?_;refine iW r.C λC hC=>?_;obtain⟨H1,S,s1,I⟩:=aU (.lst (cl.map V.int)) hC;rw[S];have o:=X.same s1;obtain⟨dx,p,rs,h1,h2,h3⟩:=o.pP.ex;rw[aF];exists methE (k:=.Puzzle) rfl o.pP.ok h1 (by rfl) ?_;exists⟨P,L,G,C,h,w,g,Sl,fl,cl,rfl,o.pP,I,Y.Cc,λP' Z G' H2 A hP hL hG l=>?_⟩;refine⟨P',Z,G',h,w,g,2,Sl,cl,rfl,l,Oe X.D.m6 X.D.g2 X.D.g3 Y.Cc,by decide,λF bs i z hF B nF fb=>?_⟩;have e2:rp h w g Sl cl (zer cl) (2:Int).toNat=[fl]:=OL X.D Y.Cc Y.cu Y.set_;rw[e2]at B;refine⟨lnR rfl,λU J=>?_⟩;have s:=s1.trans (A.trans z);have m:Same i (upd i U (.lst [V.ref f])):=(SF i).laid J;have e:=s.trans m
 have xU:IsLL (upd i U (.lst [V.ref f])) U [f] [fl]:=⟨aj,rfl,λj b xs e1 e2=>by
  match j,e1,e2 with
  | 0,e1,e2=>cases e1;cases e2;exact e _ _ X.pf
  | j+1,e1,_=>simp at e1⟩
 generalize upd i U (.lst [V.ref f])=H4 at*;refine Mt (B.same m) xU ?_;rw[SB rfl];symm;subst R;exact Ie (X.same e) t Y (((A.trans z).trans m) _ _ I) (r.same e) q
theorem BZ{v1 v2 F v8 B m r p i:Option V}(X:Lw59 K H c d a P L G f Kd Oa h w g Sl ns fl O ks)(q:∀ H',Q (.bl true) H'):
  p8 K c d (eD9 Q) [↑a,v1,v2,↑f,F,↑P,↑Kd,↑Oa,v8,B,m,r,p,i] H:=by
 have A:=X.D.fll;have m6:=X.D.m6;have on:=X.on;have Y:=Of X.D X.hc X.oz;unfold p8;generalize J:p7 K c d=W at*;exists iW X.pO λM Z=>?_;obtain⟨H1,U,s1,S⟩:=aU (.lst (O.map V.int)) Z;rw[U];exists iW (s1 _ _ X.pK) λb N=>?_;have t:Same H1 (upd H1 b (.lst ((ks.map txk).map V.str))):=(SF H1).laid N;have R:KdL (upd H1 b (.lst ((ks.map txk).map V.str))) b ks:=aj;generalize upd H1 b (.lst ((ks.map txk).map V.str))=H2 at*;have y:=X.same (s1.trans t);refine⟨P,L,G,M,b,h,w,g,Sl,fl,fl,O,ks,rfl,y.pP,t _ _ S,by lia,X.oz,.inl R,X.D,λk _=>.inr rfl,λe=>?_,λe T u Rl ts Ms H3 I hT hC hR ht hM j=>?_⟩
 . rw[J7 X.D X.hc]at e;cases e
 . have l:=y.same I;dsimp only;rw[aF];symm;rw[BY];exists ixT j.top (v:=V.ref u) rfl ?_;exists⟨u,f,Oa,_,fl,O,rfl,j.C,l.pf,l.pO,by rw[Y.Cc.1,A],by lia,Y.cu,λk E e=>?_,λH4 s=>?_⟩
   . refine UG λn=>?_
     have o:=Y.out k λz x e2=>n (by
      have:=X.oz z x;rw[show(k:Int)=z by lia];exact x)
     have:=X.D.sg _ (aT (ms:=fl) E);lia
   . refine⟨true,rfl,?_⟩;symm;subst J;exact Ka (l.same s) rfl Y (j.same s) q
theorem Ig(ks:∅)(b c:Option Int):∃ a:∅,cutV (ks.map V.int) b c=a.map V.int/\a.length<=ks.length/\∀ z∈a,z∈ks:=by
 refine⟨(ks.drop (HT.sIx (ks.map V.int).length 0 b)).take (HT.sIx (ks.map V.int).length (ks.map V.int).length c-HT.sIx (ks.map V.int).length 0 b),?_,?_,λz d=>VO (VM d)⟩
 . unfold cutV;rw[← Vj,← U0]
 . rw[Tx,UP];lia
theorem Kb{n:Int}{v1 v2:Option V}(m:SqL K H a (ns.map V.int))(k:ns.length<=63)(r:IsPz H c d P L G h w g Sl fl)(i:H f=↥(fl.map V.int))(v:KdL H Kd ks)(D:dS c h w g fl Sl)(s:TK.clue∈ks)(q:∀ H',Q (.bl true) H'):
  p9 K c d (eD9 Q) [↑a,v1,v2,↑f,⇑n,↑P,↑Kd,none,none,none,none,none,none,none] H:=by
 have M:=D.fll;have Y:=D.m6;have S:=D.m1;unfold p9;generalize t:p8 K c d=W at*;symm;rw[aZ i,Sx];symm;rw[aZ i,Sx];refine⟨a,ns,520,_,_,rfl,m,k,by decide,by decide,by lia,by lia,by lia,λl H1 cs s1 N p T C U=>?_⟩
 have u:∀ z∈cs.map λ(n:Nat)=>(n:Int),0<=z/\z<h*w:=λz o=>by
  obtain⟨y,E,rfl⟩:=SL.mp o;have:=C y E;lia
 have R:(cs.map λ(n:Nat)=>(n:Int)).length=fl.length:=by rw[Sx];lia
 generalize (cs.map λ(n:Nat)=>(n:Int))=O at*;dsimp only;rw[aF];exists⟨by decide,?_⟩;by_cases e:n%3=1
 . refine E5 (SB e) ?_;symm;rw[aZ p,Sx];refine⟨⟨by lia,by lia⟩,by lia,?_⟩;obtain⟨A,I,X,F⟩:=Ig O (some (n/3 % (O.length:Int))) none;refine⟨_,rfl,sW p λZ j=>?_⟩;rw[I];obtain⟨J,B,x,e2⟩:=aU (.lst (A.map V.int)) j;rw[B];symm;subst t;have b:=s1.trans x;exact BZ ⟨b.seq m,k,r.same b,b _ _ i,b _ _ v,e2,by lia,λz o=>u z (F z o),D,s⟩ q
 . refine E6 (SE e) ?_;symm;subst t;exact BZ ⟨s1.seq m,k,r.same s1,s1 _ _ i,s1 _ _ v,p,by lia,u,D,s⟩ q
theorem Kc{p r:Addr}(m:SqL K H a (ns.map V.int))(l:ns.length<=63)(J:IsFl H p h w g)(N:H r=↥((Sl.map RR.txt).map V.str))(s:H f=↥(fl.map V.int))(Z:dS c h w g fl Sl)(A:d.ok .Puzzle=true)(q:∀ H',Q (.bl true) H'):
  vc K c d (eD9 Q) [↑a,↑p,↑r,↑f,none,none,none,none,none,none,none,none,none,none] H:=by
 have g2:=Z.g2;have D:=Z.fll;unfold vc;generalize E:p9 K c d=W at*;exists⟨a,ns,_,rfl,m,l,by decide,by decide,?_⟩;exists Jo A J N s Z.R ⟨D,λx O=>by have:=Z.sg x O;lia⟩ λP L G H1 s1 Y z hG M=>?_;exists⟨a,ns,500,rfl,s1.seq m,l,by decide,by decide,λK1 ks S o X F T=>?_⟩;have C:=s1.trans o;refine⟨lnR rfl,λU t=>?_⟩;obtain⟨b,I,n,v⟩:=aU (.lst [V.str (tx s!"clue")]) t;rw[I];refine LA (n _ _ F) v (by simp;lia) λj k=>?_
 have B:(ks.map txk).map V.str++[V.str (tx s!"clue")]=((ks++[TK.clue]).map txk).map V.str:=by
  rw[TV,TV];rfl
 rw[B];have y:Same b (upd b j (.lst (((ks++[TK.clue]).map txk).map V.str))):=(SF b).laid k;have u:KdL (upd b j (.lst (((ks++[TK.clue]).map txk).map V.str))) j (ks++[TK.clue]):=aj;generalize upd b j (.lst (((ks++[TK.clue]).map txk).map V.str))=H4 at*;have i:=o.trans (n.trans y);have e:=s1.trans i;symm;subst E;exact Kb (ks:=ks++[TK.clue]) (e.seq m) l (M.same i) (e _ _ s) u Z (by simp) q
end
theorem Oh(h:J8 K c d vs H Q E):Fd K c d (eD9 Q) (start ["_law_script","_law_floor","_law_lines","_law_answer","_law_number","_law_puzzle","_law_kinds_here","_law_order","_law_found","_law_clues","_law_cell","_law_masks","_law_other","_law_again"] vs) H:=by
 obtain⟨a,ns,rfl,i,e,m,b,q⟩:=h;exists Fd;refine⟨a,ns,rfl,i,e,m,λT p L f h w g fl Sl H1 s1 s r o n j k l Z=>?_⟩;refine DO n rfl ?_;rw[Ej];exists Kc (s1.seq i) e j k l Z b q
structure FunD(K:Frag)(x qual:Str)(st:Stmt)(f:Addr)(fd:FuncData)(ds:List Value):Prop where
 ex:∃(oc:Value) (od:Option Addr) (dT:Addr) (kV doc pm:Value) (an:Option Addr) (Sm ct:Value) (osl:Array (Option Value)),
  fd=fnOf x qual (bS st) (bu st) (aQ st) (.ref dT) kV doc pm an Sm ct/\K.lookup f=some ⟨oc,od,.func fd,osl⟩/\codeIn K Sm qual=true/\
  ∃(c:Value) (d:Option Addr) (n:Nat) (sl:Array (Option Value)),K.lookup dT=some ⟨c,d,.seq ds.toArray n,sl⟩
 kp:keepIn K (.ref f)=true
section
variable{P:Program}{w:World}{K:Frag}{mg:Str->Option Value}{base:Heap}
theorem FunD.ok {x b:Str} {st:Stmt} {f:Addr} {l:FuncData} {n:List Value} {N g:List Str} {k:Nat} {sp:Sp} (F:FunD K x b st f l n) (S:jM N g (aQ st)) (i:∀ vs H Q E,sp vs H Q E->vs.length=g.length)
  (c:∀(d:Value) (A:Around) (a:List Env) (s:Shared) (H:Hp) (vs:List V) (Q:VK) (E:XK),Room k (A.deeper (envOfC b (aQ st) s.heap.objs.size f d))->sp vs H Q E->
   ∃ t,PSs (cxOf CX0 P w K mg base N b (aQ st) f d A a s H E).nox (bu st) t/\t (eD9 Q) (start N vs) H):FnOk P w K mg base CX0 (k+1) f l g sp:=by
 obtain⟨y,D,z,B,r,C,v,d,u,m,rfl,o,e,_⟩:=F.ex;refine Lw o e S i λA a s H vs Q E p j=>?_;obtain⟨t,h,q⟩:=c d A a s H vs Q E p j;exact⟨t,h.nox,q⟩
theorem FunD.binds {x a:Str} {st:Stmt} {f:Addr} {q:FuncData} {p:List Value} {i:List Str} (F:FunD K x a st f q p)
  (h:∀(e:Addr) (l b j:Value) (g:Option Addr) (m ct:Value) (us:List Value),us.length=i.length->∃ k,bindArgs (fnOf x a (bS st) (bu st) (aQ st) (.ref e) l b j g m ct) ⟨us,[]⟩=seqItems? (.ref e) >>= k/\k (some p.toArray)=pure (i.zip us)):Binds K q i []:=by
 obtain⟨v,z,e,l,b,j,g,m,ct,t,rfl,w,r,c,d,n,y,u⟩:=F.ex;intro s us X o;rw[Vn]at o ⊢;obtain⟨k,h1,h2⟩:=h e l b j g m ct us o;exact BindsTo.of_defaults (T:=e) rfl (X _ _ u) rfl h1 h2
def MQ {x a:Str} {st:Stmt} {f g:Addr} {o:Value} {r i:Option Addr} {e:Array (Option Value)} {j b m h ct:Value} {c:Value} {d:Option Addr} {n:Nat} {q:Array (Option Value)} {p:List Value} (l:K.lookup f=some ⟨o,r,.func (fnOf x a (bS st) (bu st) (aQ st) (.ref g) j b m i h ct),e⟩)
  (s:codeIn K h a=true) (k:keepIn K (.ref f)=true) (t:K.lookup g=some ⟨c,d,.seq p.toArray n,q⟩):FunD K x a st f (fnOf x a (bS st) (bu st) (aQ st) (.ref g) j b m i h ct) p:=⟨⟨o,r,g,j,b,m,i,h,ct,e,rfl,l,s,c,d,n,q,t⟩,k⟩
end
section
variable{X:Cx}{e:Expr}{es rs:List Expr}{te:TE}{t:TA}
def jG{k}{p:Pos}(b:PE X (.Tuple rs k p) te)(a:PA X es t):PA X (.Tuple rs k p::es) (tCons te t):=ab b a
def bi{c:Const}{k}{p:Pos}(b:PE X (.Constant c k p) te)(a:PA X es t):PA X (.Constant c k p::es) (tCons te t):=ab b a
end
structure DeD(K:Frag)(x:Str)(st:Stmt):Prop where
 ex:∃(f:Addr) (fd:FuncData) (v:Value),nsIn K mainGlobals x=some ↑f/\FunD K x x st f fd [v]
def DeD.of{K:Frag}{x:Str}{st:Stmt}{f:Addr}{b:FuncData}{v:Value}(a:nsIn K mainGlobals x=some ↑f)(F:FunD K x x st f b [v]):DeD K x st:=⟨f,b,v,a,F⟩
section
variable{Z:Z5}{N ps:List Str}{k:Nat}{sp:Sp}{t:TS}{x:Str}{st:Stmt}
local macro_rules | `(tactic| walk_at "l")=>`(tactic| (intro vs H Q E h; (repeat obtain ⟨_,h⟩:=h); subst_vars; rfl))
local macro_rules | `(tactic| ac_rfl)=>`(tactic| exact ⟨rfl,rfl,rfl,by decide+kernel,rfl,by decide+kernel,by decide+kernel⟩)
abbrev Ca9(Z:Z5)(k:Nat)(x:Str)(ps:List Str)(sp:Sp):Prop:=Cal Z.P Z.w Z.K Z.mg Z.base k x ps sp
abbrev BdD(x:Str)(st:Stmt)(ps:List Str):Prop:=∀(v:Value) (c:Addr) (g a e:Value) (d:Option Addr) (h f:Value) (b:List Value),b.length=ps.length->∃ k,bindArgs (fnOf x x (bS st) (bu st) (aQ st) (.ref c) g a e d h f) ⟨b,[]⟩=seqItems? (.ref c) >>= k/\k (some [v].toArray)=pure (ps.zip b)
theorem OP{b c:Str}(h:∀ v g l a m j n ct i d,∃ k,bindArgs (fnOf x x (bS st) (bu st) (aQ st) (.ref g) l a m j n ct) ⟨[i,d],[]⟩=seqItems? (.ref g) >>= k/\k (some [v].toArray)=pure ([b,c].zip [i,d]):=by intros;exact⟨_,rfl,rfl⟩):BdD x st [b,c]:=by
 intro _ _ _ _ _ _ _ _ _ e;(iterate 2 (obtain⟨_,_,f,rfl⟩:=yg e;clear e;have e:=f;clear f));cases TQ e;exact h ..
def okcD(B:Bt3 Z)(D:DeD Z.K x st)(j:Rk N sp t)(g:BdD x st ps)(e:∀{f},Hb Z N x st f k t)(S:jM N ps (aQ st):=by ac_rfl)(b:Ln ps sp:=by walk_at "l"):Ca9 Z (k+1) x ps sp:=
 let ⟨f,i,v,a,F⟩:=D.ex
 ⟨f,i,F.ok S (λ_ _ _ _ h=>b h) λl A c s H vs Q E d h=>⟨t,e d d.units S.nd,j h⟩,B.ns a,F.kp,F.binds (g v)⟩
end
local macro_rules | `(tactic| walk_at "l")=>`(tactic| (intro vs H Q E h; (repeat obtain ⟨_,h⟩:=h); subst_vars; rfl))
local macro_rules | `(tactic| ac_rfl)=>`(tactic| exact ⟨rfl,rfl,rfl,by decide+kernel,rfl,by decide+kernel,by decide+kernel⟩)
def top(i:Nat):Stmt:=PySem.Challenge.pw_cluemaker_k59_whole_none_can_go.main.body.getD i (.Pass ⟨0,0,0,0⟩)
def mtop(i j:Nat):Stmt:=match top i with
 | .ClassDef _ _ _ a _ _ _ _ _ _ _=>a.getD j (.Pass ⟨0,0,0,0⟩)
 | s=>s
abbrev oe Z:=Ca9 Z 1 "is_whole" ["value"] (iX Z.K)
abbrev cw Z:=Ca9 Z 1 "many_cells" ["floor"] (bH Z.K)
abbrev vd Z:=Ca9 Z 1 "spot_of" ["floor","cell"] (nR Z.K)
abbrev wO Z:=Ca9 Z 1 "square_at" ["floor","corner"] (oC Z.K)
abbrev yj Z:=Ca9 Z 1 "bit_of" ["sign"] (pT Z.K)
abbrev jH Z:=Ca9 Z 1 "stands" ["mask","sign"] (fR Z.K)
abbrev jT Z:=Ca9 Z 1 "clashes" ["masks"] (f7 Z.K)
abbrev ga Z:=Ca9 Z 1 "masks_at" ["masks","cells"] (cW Z.K)
abbrev rK Z:=Ca9 Z 1 "clue_strikes" ["clues","cell","sign","more"] (kh Z.K)
abbrev lw Z:=Ca9 Z 1 "are_told_in_order" ["cells","more"] (fZ Z.K)
abbrev qY Z:=Ca9 Z 1 "with_sign" ["filling","cell","sign"] (kC Z.K)
abbrev t7 Z:=Ca9 Z 1 "place_mores" ["floor","sign"] (lQ Z.K)
abbrev wP Z:=Ca9 Z 1 "with_each" ["fillings","signs"] (oS Z.K)
abbrev ve Z:=Ca9 Z 1 "signs_from" ["floor","number"] (mY Z.K)
abbrev wQ Z:=Ca9 Z 1 "is_within" ["some","cells"] (oP Z.K)
abbrev wR Z:=Ca9 Z 1 "number_in" ["word"] (oJ Z.K)
abbrev fO Z:=Ca9 Z 1 "_law_mixed" ["_law_script","_law_k"] (bZ Z.K)
abbrev wS Z:=Ca9 Z 1 "_law_seen" ["_law_filling","_law_cells_here"] (lV Z.K)
abbrev vf Z:=Ca9 Z 1 "_law_chain" ["_law_answer","_law_cells_here","_law_strictly"] (gC Z.K)
abbrev vg Z:=Ca9 Z 1 "_law_stays" ["_law_clues","_law_answer","_law_order"] (k9 Z.K)
abbrev jI Z:=Ca9 Z 2 "is_from_one_to" ["value","most"] (cD Z.K)
abbrev lZ Z:=Ca9 Z 2 "beside" ["floor","cell"] (fP Z.K)
abbrev wT Z:=Ca9 Z 2 "is_corner" ["floor","cell"] (oA Z.K)
abbrev wU Z:=Ca9 Z 2 "full_mask" ["floor"] (oW Z.K)
abbrev vh Z:=Ca9 Z 2 "without" ["mask","sign"] (nS Z.K)
abbrev cx Z:=Ca9 Z 2 "signs_in" ["mask"] (bv Z.K)
abbrev B0 Z:=Ca9 Z 2 "is_cell" ["floor","value"] (tz Z.K)
abbrev B1 Z c:=Ca9 Z 2 "goes_by" ["kind","rule"] (tG Z.K c)
abbrev dM Z c:=Ca9 Z 2 "others" ["rule","cell"] (cf Z.K c)
abbrev og Z:=Ca9 Z 2 "many_may" ["some","sign"] (gk Z.K)
abbrev zU Z c:=Ca9 Z 2 "ahead_of" ["rule","cell"] (qK Z.K c)
abbrev Fe Z c:=Ca9 Z 2 "behind" ["rule","cell"] (uP Z.K c)
abbrev oY Z:=Ca9 Z 2 "with_each_sign" ["fillings","cell","signs"] (iH Z.K)
abbrev rL Z c d:=Ca9 Z 2 "cells_to_try" ["puzzle","kind","number"] (kP Z.K c d)
abbrev nA Z c d:=Ca9 Z 2 "refuse_too_many" ["puzzle"] (gP Z.K c d)
abbrev qb Z:=Ca9 Z 2 "every_filling" ["signs_by_cell"] (jy Z.K)
abbrev rM Z c d:=Ca9 Z 2 "signs_to_try" ["puzzle","numbers"] (kA Z.K c d)
abbrev li Z:=Ca9 Z 2 "number_within" ["word","least","most"] (fX Z.K)
abbrev oZ Z:=Ca9 Z 2 "is_filling" ["floor","filling","least"] (je Z.K)
abbrev o4 Z:=Ca9 Z 2 "_law_cells" ["_law_script","_law_at","_law_many","_law_count"] (fJ Z.K)
abbrev vi Z:=Ca9 Z 2 "_law_kinds" ["_law_script","_law_at"] (kY Z.K)
abbrev zV Z:=Ca9 Z 3 "floor_of" ["high","wide","signs"] (qE Z.K)
abbrev qc Z:=Ca9 Z 3 "squares" ["floor"] (j4 Z.K)
abbrev qd Z:=Ca9 Z 3 "reached" ["floor","cells","start"] (f8 Z.K)
abbrev Ke Z:=Ca9 Z 3 "full" ["floor"] (Ba Z.K)
abbrev gb Z:=Ca9 Z 3 "has_only" ["mask","sign"] (dB Z.K)
abbrev yn Z:=Ca9 Z 3 "struck" ["masks","cell","sign"] (pY Z.K)
abbrev o5 Z:=Ca9 Z 3 "is_settled" ["masks"] (jg Z.K)
abbrev Kf Z:=Ca9 Z 3 "ways" ["masks"] (AX Z.K)
abbrev B2 Z:=Ca9 Z 3 "sign_by" ["mask"] (tQ Z.K)
abbrev B3 Z:=Ca9 Z 3 "is_sign" ["floor","value"] (tE Z.K)
abbrev qe Z:=Ca9 Z 3 "is_no_greater" ["sign","mask"] (jw Z.K)
abbrev vj Z:=Ca9 Z 3 "is_no_less" ["sign","mask"] (mU Z.K)
abbrev rN Z c:=Ca9 Z 3 "pair_strikes" ["rule","masks","cell","sign","more"] (ko Z.K c)
abbrev t8 Z c:=Ca9 Z 3 "sum_strikes" ["rule","masks","cell","sign","more"] (lK Z.K c)
abbrev Ff Z:=Ca9 Z 3 "around" ["floor","middle","cell"] (uU Z.K)
abbrev vm Z:=Ca9 Z 3 "turn_mores" ["floor","cell"] (m7 Z.K)
abbrev vn Z c:=Ca9 Z 3 "pair_mores" ["rule","masks","cell"] (m9 Z.K c)
abbrev rO Z c d:=Ca9 Z 3 "rule_numbers" ["puzzle","kind"] (kN Z.K c d)
abbrev rP Z:=Ca9 Z 3 "first_within" ["words","least","most"] (d4 Z.K)
abbrev vo Z:=Ca9 Z 3 "told_cells" ["floor","words"] (mO Z.K)
abbrev B4 Z c:=Ca9 Z 3 "rule_by" ["floor","words","cells","amount","mark"] (tq Z.K c)
abbrev qf Z:=Ca9 Z 3 "checked_clues" ["floor","clues"] (jq Z.K)
abbrev vp Z:=Ca9 Z 4 "filling_by" ["masks"] (ni Z.K)
abbrev mj Z:=Ca9 Z 4 "many_only" ["some","sign"] (fK Z.K)
abbrev rQ Z c:=Ca9 Z 4 "only_strikes" ["rule","masks","cell","sign","more"] (kj Z.K c)
abbrev qg Z c:=Ca9 Z 4 "place_strikes" ["floor","rule","masks","cell","sign","more"] (js Z.K c)
abbrev rR Z c:=Ca9 Z 4 "step_strikes" ["rule","masks","cell","sign","more"] (kr Z.K c)
abbrev o6 Z:=Ca9 Z 4 "rest_of_square" ["floor","corner","cell"] (iA Z.K)
abbrev i4 Z:=Ca9 Z 4 "is_another_with_only" ["floor","masks","cell","other","mark"] (dQ Z.K)
abbrev vq Z c:=Ca9 Z 4 "only_mores" ["rule","masks","cell","sign"] (m3 Z.K c)
abbrev rS Z:=Ca9 Z 4 "square_mores" ["floor","cell"] (kJ Z.K)
abbrev t9 Z c:=Ca9 Z 4 "reach_mores" ["floor","rule","masks","cell","sign"] (lS Z.K c)
abbrev zW Z:=Ca9 Z 4 "cells_of" ["floor","name","words"] (qB Z.K)
abbrev qh Z:=Ca9 Z 4 "checked_floor" ["floor"] (jo Z.K)
abbrev nD Z c d:=Ca9 Z 5 "strikes_by_line" ["puzzle","masks","thought"] (gx Z.K c d)
abbrev qi Z c:=Ca9 Z 5 "count_strikes" ["rule","masks","cell","sign","more"] (ju Z.K c)
abbrev o7 Z c:=Ca9 Z 5 "square_strikes" ["floor","rule","masks","cell","sign","more"] (iC Z.K c)
abbrev qk Z c:=Ca9 Z 5 "reach_strikes" ["floor","rule","masks","cell","sign","more"] (jA Z.K c)
abbrev rT Z c:=Ca9 Z 5 "turn_strikes" ["floor","rule","masks","cell","sign","more"] (kG Z.K c)
abbrev rV Z c d:=Ca9 Z 5 "mores_to_try" ["puzzle","masks","kind","number","cell","sign"] (kL Z.K c d)
abbrev qZ Z c:=Ca9 Z 5 "read_rule" ["floor","line"] (j7 Z.K c)
abbrev rW Z c:=Ca9 Z 6 "ways_strikes" ["rule","masks","cell","sign","more"] (kD Z.K c)
abbrev lx Z c d:=Ca9 Z 6 "strikes_by_region" ["puzzle","masks","thought"] (eh Z.K c d)
abbrev vt Z c:=Ca9 Z 6 "read_rules" ["floor","lines"] (mR Z.K c)
abbrev wV Z c:=Ca9 Z 6 "_law_line" ["_law_script","_law_at","_law_floor","_law_answer"] (lX Z.K c)
abbrev ly Z c d:=Ca9 Z 7 "strikes_by_number" ["puzzle","masks","thought"] (eJ Z.K c d)
abbrev zX Z c d:=Ca9 Z 7 "found_by" ["puzzle","numbers","most"] (qN Z.K c d)
abbrev vv Z c:=Ca9 Z 7 "_law_drawn" ["_law_script"] (kU Z.K c)
abbrev B5 Z c d:=Ca9 Z 8 "strikes" ["puzzle","masks","thought"] (qR Z.K c d)
abbrev B6 Z c d:=Ca9 Z 8 "answers" ["puzzle","most"] (tU Z.K c d)
abbrev zY Z c d:=Ca9 Z 9 "first_at" ["puzzle","masks","kind","number","cell","sign"] (qT Z.K c d)
abbrev ql Z c d:=Ca9 Z 10 "found_by_rule" ["puzzle","masks","kind","number"] (jE Z.K c d)
abbrev rX Z c d:=Ca9 Z 10 "without_clue" ["puzzle","cell"] (gD Z.K c d)
abbrev np Z c d:=Ca9 Z 11 "first_found" ["puzzle","masks","kinds"] (ik Z.K c d)
abbrev rY Z c d:=Ca9 Z 12 "next_thought" ["puzzle","masks","kinds"] (kR Z.K c d)
abbrev GW Z c d:=Ca9 Z 12 "think" ["puzzle","masks","kinds"] (yc Z.K c d)
abbrev o8 Z c d:=Ca9 Z 13 "standstill" ["puzzle","kinds"] (jh Z.K c d)
abbrev vw Z c d:=Ca9 Z 13 "_law_rests" ["_law_puzzle","_law_answer","_law_clues","_law_kinds_here","_law_cell","_law_masks"] (lf Z.K c d)
abbrev B7 Z c d:=Ca9 Z 14 "settles" ["puzzle","kinds"] (nV Z.K c d)
abbrev GX Z c d:=Ca9 Z 15 "taken" ["puzzle","order","kinds"] (tT Z.K c d)
abbrev wl(Z:Z5)(c:WY)(d:WZ):Prop:=MCal Z.P Z.w Z.K Z.mg Z.base d d.ok 9 "clued" ["self","clues"] (lI Z.K c d)
abbrev oj(Z:Z5)(c:WY)(d:WZ):Prop:=MCal Z.P Z.w Z.K Z.mg Z.base d d.ok 1 "clues" ["self"] (gL Z.K c d)
abbrev wW(Z:Z5)(c:WY)(d:WZ):Prop:=MCal Z.P Z.w Z.K Z.mg Z.base d d.ok 1 "has_clues" ["self","filling"] (oR Z.K c d)
abbrev o9(Z:Z5)(c:WY):Prop:=MCal Z.P Z.w Z.K Z.mg Z.base c c.ok 3 "has_two_beside" ["self","cells","cell"] (iw Z.K c)
abbrev wm(Z:Z5)(c:WY):Prop:=MCal Z.P Z.w Z.K Z.mg Z.base c c.ok 5 "holds" ["self","filling"] (cS Z.K c)
abbrev mn(Z:Z5)(c:WY):Prop:=MCal Z.P Z.w Z.K Z.mg Z.base c c.ok 4 "is_joined" ["self","cells"] (j5 Z.K c)
abbrev Kg(Z:Z5)(c:WY):Prop:=MCal Z.P Z.w Z.K Z.mg Z.base c c.ok 1 "line" ["self"] (wf Z.K c)
abbrev GY(Z:Z5)(c:WY)(d:WZ):Prop:=MCal Z.P Z.w Z.K Z.mg Z.base d d.ok 2 "lines" ["self"] (xK Z.K c d)
abbrev jJ(Z:Z5)(c:WY):Prop:=MCal Z.P Z.w Z.K Z.mg Z.base c c.ok 1 "marked" ["self","filling"] (jS Z.K c)
abbrev Bg(Z:Z5)(c:WY)(d:WZ):Prop:=MCal Z.P Z.w Z.K Z.mg Z.base d d.ok 6 "meets" ["self","filling"] (tN Z.K c d)
abbrev Kh(Z:Z5)(c:WY):Prop:=MCal Z.P Z.w Z.K Z.mg Z.base c c.ok 1 "name" ["self"] (AK Z.K c)
abbrev yo(Z:Z5)(c:WY):Prop:=MCal Z.P Z.w Z.K Z.mg Z.base c c.ok 1 "number" ["self"] (jQ Z.K c)
abbrev im(Z:Z5)(c:WY)(d:WZ):Prop:=MCal Z.P Z.w Z.K Z.mg Z.base d d.ok 1 "place" ["self"] (d6 Z.K c d)
abbrev l0(Z:Z5)(c:WY)(d:WZ):Prop:=MCal Z.P Z.w Z.K Z.mg Z.base d d.ok 1 "rules" ["self"] (d7 Z.K c d)
abbrev rZ(Z:Z5)(c:WY):Prop:=MCal Z.P Z.w Z.K Z.mg Z.base c c.ok 1 "sign" ["self"] (jR Z.K c)
abbrev lj(Z:Z5)(c:WY):Prop:=MCal Z.P Z.w Z.K Z.mg Z.base c c.ok 1 "signs_at" ["self","filling"] (gj Z.K c)
abbrev l6(Z:Z5)(c:WY):Prop:=MCal Z.P Z.w Z.K Z.mg Z.base c c.ok 1 "spots" ["self"] (gJ Z.K c)
abbrev iS(Z:Z5)(x:Str)(C:Addr)(c:WY)(d:WZ):Prop:=KCal Z.P Z.w Z.K Z.mg Z.base 7 x C ["self","floor","lines","clues"] (ce Z.K c d)
abbrev aR(Z:Z5)(x:Str)(C:Addr)(c:WY):Prop:=KCal Z.P Z.w Z.K Z.mg Z.base 1 x C ["self","floor","words","cells","amount","mark"] (aW Z.K c)
section
variable{Z:Z5}(Bz:Bt3 Z)
include Bz
set_option maxHeartbeats 4000000
abbrev zZ:=top 11
theorem F8(D:De Z.K "is_whole" zZ):oe Z:=okc Bz D FK bd1 #[";eiQw~Qa~R~Sb0b~T.v~U{ja'g'hacU'iw~Qa~R~Sb0b~T.v~U{ka{l{mac"]
abbrev vx:=top 14
theorem CL(D:De Z.K "many_cells" vx):cw Z:=okc Bz D Cp bd1 #[";eiu~nnd0hnd0h"]
abbrev B8:=top 15
theorem Ih(D:De Z.K "spot_of" B8):vd Z:=okc Bz D Hi bd2 #[";gp#2 mnd0hei~qbu~:12bu~d12c"]
abbrev wX:=top 18
theorem Fg(D:De Z.K "square_at" wX):wO Z:=okc Bz D DW bd2 #[";gp#2 muI1nd0heizb1buI1hb2buI2hc"]
abbrev Fh:=top 22
theorem Ki(D:De Z.K "bit_of" Fh):yj Z:=okc Bz D Jq bd1 #[";gp#1 mhgMLa~Da]bu;0hct.i#2 masaep#1 mu~n1hei1"]
abbrev Fi:=top 25
theorem Kj(D:De Z.K "stands" Fi):jH Z:=okc Bz D Jp bd2 #[";eiQy~jh1klQy~j1'H'I'J'K'L0klUyvdu~du{n0u;1hhhkl"]
abbrev B9:=top 30
theorem Ii(D:De Z.K "clashes" B9):jT Z:=okc Bz D Hv bd1 #[";eiy~rdh0`0",(by with_unfolding_all rfl)]
abbrev z4:=top 42
theorem F9(D:De Z.K "masks_at" z4):ga Z:=okc Bz D FO bd2 #[";eiB.x&--0 `0Aa%aaaax1$t.i#1 @`0asa$J$nd21",[".0","cell","masks"]]
abbrev r8:=top 47
theorem z5(D:De Z.K "clue_strikes" r8):rK Z:=okc Bz D zb bd4 #[";eiQyvd3zcklQyKdnd01hklUyKdnd012kl"]
abbrev lz:=top 55
theorem tW(D:De Z.K "are_told_in_order" lz):lw Z:=okc Bz D tJ bd2 #[";gqSVoKdwGaDFb1chklVo?dnd1h0`0-o?dnd1h0`0eiTreiy/NR~E~F~Gd0bnd1hcNR~E~F~Gd0bnd1hckl",(by with_unfolding_all rfl)]
abbrev wY:=top 63
theorem Fj(D:De Z.K "with_sign" wY):qY Z:=okc Bz D En bd3 #[";eiB.x&---12 `0Aa%aaaa'ja'kb0c$~Va~kt.i#1 @`0asa~kt.i#2 @`0asa~W$J$~oovd13kl42",[".0","place","other","cell","sign"]]
abbrev ua:=top 79
theorem Bh(D:De Z.K "place_mores" ua):t7 Z:=okc Bz D AZ bd2 #[";eiB.x&--1 `0Aa%aaaa'Ma]bhbuInd0hhc$t.i#1 @`0asa$PoKd12kl$zb1c",[".0","other","sign"]]
abbrev wZ:=top 99
theorem Fk(D:De Z.K "with_each" wZ):wP Z:=okc Bz D Em bd2 #[";gp#2 mzcgMLax0t.i#3 ma*aeZNR'l'm'n2bB.x&--3 `0Aa%aaaax1$t.i#1 @`0asa$J$uI2zb1ccei2",[".0","sign","filling"]]
abbrev vy:=top 101
theorem CM(D:De Z.K "signs_from" vy):ve Z:=okc Bz D CA bd2 #[";gp#2 m{oaaa:]bhbuInd0hhcgp#3 mu~d1nd0heiuI~s~t2~l3~H~s~t2~H~l3"]
abbrev w5:=top 109
theorem Fm(D:De Z.K "is_within" w5):wQ Z:=okc Bz D Ei bd2 #[";eiw~eaa~f~gbB.x&--1 `0Aa%aaaax0$t.i#1 @`0asa$J$y~rd12`1c",[".0","cell","cells"],(by with_unfolding_all rfl)]
abbrev qm:=mtop 110 0
theorem yp{c:WY}(OX:FldK Z.K c "amount")(O1:FldK Z.K c "cells")(O9:FldK Z.K c "floor")(Pg:FldK Z.K c "mark")(Pj:FldK Z.K c "words"){f:Addr}(D:Me Z.K "__init__" "Rule.__init__" qm f):Mo Z 1 f ["self","floor","words","cells","amount","mark"] (aW Z.K c):=okm D xD bd6 #[";g~u01~;g~u0['Na'o'pb2c'qg~u0['Na'o'pb3c~?g~u04~Xe~u05'r"]
abbrev w6:=mtop 110 1
theorem Fn{c:WY}(Pj:FldK Z.K c "words"){f:Addr}(D:Me Z.K "name" "Rule.name" w6 f):Mo Z 1 f ["self"] (uF Z.K c):=okm D DX bd1 #[";eindO0'qh"]
abbrev vz:=mtop 110 2
theorem CN{c:WY}(O1:FldK Z.K c "cells"){f:Addr}(D:Me Z.K "spots" "Rule.spots" vz f):Mo Z 1 f ["self"] (tZ Z.K c):=okm D Cq bd1 #[";ei[~va:~mbO0~?c"]
abbrev ub:=mtop 110 3
theorem Bi{c:WY}(OX:FldK Z.K c "amount"){f:Addr}(D:Me Z.K "number" "Rule.number" ub f):Mo Z 1 f ["self"] (rh Z.K c):=okm D AL bd1 #[";eiO0~X"]
abbrev w9:=mtop 110 4
theorem Fo{c:WY}(Pg:FldK Z.K c "mark"){f:Addr}(D:Me Z.K "sign" "Rule.sign" w9 f):Mo Z 1 f ["self"] (uG Z.K c):=okm D DY bd1 #[";eiO0'r"]
abbrev xc:=mtop 110 5
theorem Fp{c:WY}(Pj:FldK Z.K c "words"){f:Addr}(D:Me Z.K "line" "Rule.line" xc f):Mo Z 1 f ["self"] (uH Z.K c):=okm D DZ bd1 #[";eiN'O{p{q{rHbO0'qc"]
abbrev qo:=mtop 110 8
theorem yq{c:WY}(O1:FldK Z.K c "cells"){f:Addr}(D:Me Z.K "signs_at" "Rule.signs_at" qo f):Mo Z 1 f ["self","filling"] (oI Z.K c):=okm D xE bd2 #[";eiB.x&--1 `0Aa%aaaa~[O0~?$t.i#1 @`0asa$J$nd21",[".0","cell","filling"]]
abbrev uc:=mtop 110 9
theorem l7{c:WY}(O1:FldK Z.K c "cells")(Pg:FldK Z.K c "mark"){f:Addr}(D:Me Z.K "marked" "Rule.marked" uc f):Mo Z 1 f ["self","filling"] (rj Z.K c):=okm D AV bd2 #[";eiB.x&--10 `0Aa%aaaa~[O0~?$t.i#1 @`0asa$Povdnd21O3'rkl$1",[".0","cell","filling","self"]]
abbrev xf:=top 126
theorem Fq{t_FIGURES:Tok}(Rb:Z.mg "FIGURES"=some (.str (tx s!"0123456789") t_FIGURES)){t_MOST_FIGURES:Tok}(P5:Z.mg "MOST_FIGURES"=some (.int 9 t_MOST_FIGURES))(D:De Z.K "number_in" xf):wR Z:=okc Bz D Ea bd1 #[";gqSVovd0HklVoYwGaDFb0c`0kl-S~yovdnd0hHkl~zoKd0Hklei~wrgqWEw~eaa~f~gbB.x&-- `1Aa%aaaa{s0$t.i#1 @`1asa$J$y~rd1`2`3cei~wrei['Pa'g'hb0c",(cG rfl P5 ⟨t_MOST_FIGURES,rfl⟩),[".0","figure"],(cG rfl Rb ⟨t_FIGURES,rfl⟩),(by with_unfolding_all rfl)]
abbrev sd:=mtop 139 1
theorem z6{c:WY}{d:WZ}(O3:FldK Z.K d "floor"){f:Addr}(D:Me Z.K "place" "Puzzle.place" sd f):Mo Z 1 f ["self"] (pL Z.K c d):=okm D y4 bd1 #[";eiO0~I"]
abbrev sf:=mtop 139 3
theorem z7{c:WY}{d:WZ}(Pk:FldK Z.K d "given"){f:Addr}(D:Me Z.K "clues" "Puzzle.clues" sf f):Mo Z 1 f ["self"] (pM Z.K c d):=okm D y7 bd1 #[";ei[~va:~mbO0'sc"]
abbrev sh:=mtop 139 4
theorem z8{c:WY}{d:WZ}(Pd:FldK Z.K d "laws"){f:Addr}(D:Me Z.K "rules" "Puzzle.rules" sh f):Mo Z 1 f ["self"] (pN Z.K c d):=okm D y8 bd1 #[";ei[~va:~mbO0~]c"]
abbrev mJ:=mtop 139 5
theorem uq{c:WY}{d:WZ}(Pk:FldK Z.K d "given"){f:Addr}(D:Me Z.K "has_clues" "Puzzle.has_clues" mJ f):Mo Z 1 f ["self","filling"] (lu Z.K c d):=okm D uk bd2 #[";eiw~eaa~f~gbB.x&--- `0Aa%aaaa'Qa'RbO0'sb1c$~Va~kt.i#1 @`0asa~kt.i#2 @`0asa~W$J$~Yyvd1hklUyvd12klc",[".0","clue","sign"]]
abbrev vA:=top 141
theorem CO(D:De Z.K "_law_mixed" vA):fO Z:=okc Bz D Cs bd2 #[";gp#2 muIuIu~nu~n11hu~nh1hgqoYw'taDFb0chklgp#3 mu~d{t{u0u~d1w'taDFb0c`0u{vhhep#2 muI2u~n3uIhu~:1w'taDFb0creiu~d2h",(λ_ _=>rfl)]
abbrev xg:=top 143
theorem Fr(D:De Z.K "_law_seen" xg):wS Z:=okc Bz D A6 bd2 #[";gp#2 mhgp#3 mhgMLax1t.i#4 masagp#2 muI2['Pa'g'hbyYnd043klcep#3 mw{waa{x{yb3bnd04cei2"]
abbrev vC:=top 144
theorem CP(D:De Z.K "_law_chain" vC):vf Z:=okc Bz D zF bd3 #[";gp#3 mzcgMLax1t.i#4 masag~J.k#5 masaa.x&--0 `0Aa%aaaax3$t.i#1 @`0asa$J$nd21eqSVovdwGaDFb3chklVS~yE2~zoYnd04nd5'S'Thkl-S~yWE2~zo?dnd045`1eZNR^~a~b3b4crei3",[".0","_law_one","_law_answer"],(by with_unfolding_all rfl)]
abbrev vD:=top 149
theorem CQ(D:De Z.K "_law_stays" vD):vg Z:=okc Bz D zS bd3 #[";gMLa~Da]bwGaDFb1cct.i#3 masaeqSVo?dnd03~qbhbnd13c`0-S~yovdnd03hkl~zo?d32`0eiTreiyvdwGaDFb0cwGaDFb1ckl",(by with_unfolding_all rfl)]
abbrev pb:=top 12
theorem wx(Pl:oe Z)(D:De Z.K "is_from_one_to" pb):jI Z:=okc Bz D wn bd2 #[";eiQj'ufb0cQy~jh0klUy~j01kl"]
abbrev Fs:=top 16
theorem Kk(PP:vd Z)(D:De Z.K "beside" Fs):lZ Z:=okc Bz D Jh bd2 #[";gp#2 mnd0hgp#3 mnd0hgp#4 mj'Ufb0b1cgp#5 mzcgqoYnd4hhkleZNR^~a~b5bu;13crgqoYnd4hhkleZNR^~a~b5bu;1hcrgqo/nd4hu;3hkleZNR^~a~b5buI1hcrgqo/nd4hu;2hkleZNR^~a~b5buI13crei5"]
abbrev xh:=top 17
theorem Ft(PP:vd Z)(D:De Z.K "is_corner" xh):wT Z:=okc Bz D DU bd2 #[";gp#2 mj'Ufb0b1ceiQy/nd2hu;nd0hhklUy/nd2hu;nd0hhkl"]
abbrev xi:=top 23
theorem Fu(P6:yj Z)(D:De Z.K "full_mask" xi):wU Z:=okc Bz D ER bd1 #[";eiu;j'VfbuInd0hhch"]
abbrev Ca:=top 26
theorem Ij(P6:yj Z)(OZ:jH Z)(D:De Z.K "without" Ca):vh Z:=okc Bz D Hq bd2 #[";ei~oEj~Kfb0b1cu;0j'Vfb1c0"]
abbrev Aa:=top 28
theorem Ga(OZ:jH Z)(D:De Z.K "signs_in" Aa):cx Z:=okc Bz D FN bd1 #[";eiB.x&--0 `0Aa%aaaa'Ma]bhbuI'H'I'J'K'L0hc$t.i#1 @`0asa$PEj~Kfb2b1c$1",[".0","sign","mask"]]
abbrev Cb:=top 38
theorem Ik(Pl:oe Z)(OS:cw Z)(D:De Z.K "is_cell" Cb):B0 Z:=okc Bz D Hr bd2 #[";eiQj'ufb1cQy~jh1klUy/1j~Afb0ckl"]
abbrev Cd:=top 40
theorem Il{c:WY}(RN:Kh Z c)(PR:GDict Z.w Z.K Z.mg "RULES_OF_KIND" gd_RULES_OF_KIND)(D:De Z.K "goes_by" Cd):B1 Z c:=okc Bz D Ht bd2 #[";ei~Yyvd0HklUy{zC{Af!1{B{C0a`0`1",(λ_ _=>rfl),(by with_unfolding_all rfl)]
abbrev Fv:=top 41
theorem Kl{c:WY}(O8:l6 Z c)(D:De Z.K "others" Fv):dM Z c:=okc Bz D Jr bd2 #[";eiB.x&--1 `0Aa%aaaaxC~Lf!0$t.i#1 @`0asa$PoKd12kl$1",[".0","spot","cell"]]
abbrev Ab:=top 44
theorem Gb(OZ:jH Z)(D:De Z.K "many_may" Ab):og Z:=okc Bz D FP bd2 #[";eiwGaDFbB.x&--1 `0Aa%aaaax0$t.i#1 @`0asa$PEj~Kfb1b2c$1c",[".0","mask","sign"]]
abbrev Ac:=top 50
theorem Gc{c:WY}(O8:l6 Z c)(D:De Z.K "ahead_of" Ac):zU Z c:=okc Bz D FQ bd2 #[";gp#2 mC~Lf!0gp#3 mNR~E~F~Gd2b1cei~ooY3hkl~s~t2~lu;3h~l3zc"]
abbrev Fw:=top 51
theorem Km{c:WY}(O8:l6 Z c)(D:De Z.K "behind" Fw):Fe Z c:=okc Bz D Jv bd2 #[";gp#2 mC~Lf!0gp#3 mNR~E~F~Gd2b1cei~s~t2~luI3h~luI3h"]
abbrev pc:=top 64
theorem wy(Pu:qY Z)(D:De Z.K "with_each_sign" pc):oY Z:=okc Bz D wv bd3 #[";gp#3 mzcgMLax0t.i#4 ma*aeZNR'l'm'n3bB.x&--14 `0Aa%aaaax2$t.i#1 @`0asa$J$j'Wfb3b2b1ccei3",[".0","sign","cell","filling"]]
abbrev si:=top 87
theorem Ad{c:WY}{d:WZ}(OS:cw Z)(OY:im Z c d)(O4:l0 Z c d)(O8:l6 Z c)(D:De Z.K "cells_to_try" si):rL Z c d:=okc Bz D zC bd3 #[";gqovd1Hklei'vaaa:]bj~AfbC~Bf!0ccreiw~Za~*~+bC~Lf!ndC~xf!02c"]
abbrev nE:=top 98
theorem vE{c:WY}{d:WZ}{t_MOST_FLOORS:Tok}(Qp:Z.mg "MOST_FLOORS"=some (.int 1024 t_MOST_FLOORS))(Pc:oj Z c d)(OY:im Z c d)(D:De Z.K "refuse_too_many" nE):nA Z c d:=okc Bz D uT bd1 #[";gp#1 mhgMLaxC~Mf!0t.i#2 masaeqovd2hklep#1 mu~n1ndC~Bf!0hreqoY1`0kle+r",(cG rfl Qp ⟨t_MOST_FLOORS,rfl⟩)]
abbrev qp:=top 100
theorem yr(QO:wP Z)(D:De Z.K "every_filling" qp):qb Z:=okc Bz D xT bd1 #[";gp#1 mzbzccgMLax0t.i#2 masaep#1 mj{Dfb1b2cei1"]
abbrev sj:=top 102
theorem Ae{c:WY}{d:WZ}(Qw:ve Z)(Pc:oj Z c d)(OY:im Z c d)(D:De Z.K "signs_to_try" sj):rM Z c d:=okc Bz D zr bd2 #[";g~c.i#2 ma*aC~Bf!0eiB.x&---2 `0Aa%aaaa'Qa'RbC~Mf!0b1c$~Va~kt.i#1 @`0asa~kt.i#2 @`0asa~W$J$~oovd1hklj{Efb3b2czb1c",[".0","clue","number","floor"]]
abbrev sr:=mtop 111 0
theorem Af{c:WY}(Pa:lj Z c){f:Addr}(D:Me Z.K "holds" "Unlike.holds" sr f):Mo Z 2 f ["self","filling"] (pJ Z.K c):=okm D yZ bd2 #[";gp#2 mX~^f!0b1ceiyvd'XaaaD'Y2wGaDFb2ckl"]
abbrev xj:=mtop 112 1
theorem Fx{c:WY}(OX:FldK Z.K c "amount")(Pa:lj Z c){f:Addr}(D:Me Z.K "holds" "Sum.holds" xj f):Mo Z 2 f ["self","filling"] (uS Z.K c):=okm D Eh bd2 #[";eiyvdw'waa'x'ybX~^f!0b1ccO0~Xkl"]
abbrev sw:=mtop 113 1
theorem Ag{c:WY}(Pa:lj Z c){f:Addr}(D:Me Z.K "holds" "Rising.holds" sw f):Mo Z 2 f ["self","filling"] (pU Z.K c):=okm D zj bd2 #[";g~c.i#2 ma*aX~^f!0b1ceiw~eaa~f~gbB.x&--2 `0Aa%aaaa~Da]bu;wGaDFb2chc$t.i#1 @`0asa$J$y/nd21nd2uI1hklc",[".0","place","signs"]]
abbrev vF:=mtop 114 1
theorem CS{c:WY}(OX:FldK Z.K c "amount")(Pa:lj Z c){f:Addr}(D:Me Z.K "holds" "Seen.holds" vF f):Mo Z 2 f ["self","filling"] (t4 Z.K c):=okm D Cw bd2 #[";gp#2 mhgp#3 mhgMLaxX~^f!0b1ct.i#4 masaeqoY42klgp#2 m4ep#3 muI3hreiyvd3O0~Xkl"]
abbrev ud:=mtop 115 0
theorem Bj{c:WY}(OX:FldK Z.K c "amount")(Pp:jJ Z c){f:Addr}(D:Me Z.K "holds" "Count.holds" ud f):Mo Z 2 f ["self","filling"] (rm Z.K c):=okm D AW bd2 #[";eiyvdwGaDFbX'af!0b1ccO0~Xkl"]
abbrev qq:=top 127
theorem yt(QP:wR Z)(D:De Z.K "number_within" qq):li Z:=okc Bz D xG bd3 #[";gp#3 mj{Ffb0cgqSVo'Z3~wklVo/31kl-oY32kle+rei3"]
abbrev vG:=top 137
theorem CT(Pl:oe Z)(OS:cw Z)(D:De Z.K "is_filling" vG):oZ Z:=okc Bz D Cu bd3 #[";gqSVWEw~Qa~R~Sb1b~T.v~U{Ga:~mac-oKdwGaDFb1cj~Afb0ckleiTreiw~eaa~f~gbB.x&--02 `0Aa%aaaax1$t.i#1 @`0asa$J$Qj'ufb1cQy~j31klUy~j1nd2hklc",[".0","sign","floor","least"]]
abbrev sy:=mtop 139 2
theorem Ah{c:WY}{d:WZ}(Pd:FldK Z.K d "laws")(RO:Kg Z c){f:Addr}(D:Me Z.K "lines" "Puzzle.lines" sy f):Mo Z 2 f ["self"] (pQ Z.K c d):=okm D y9 bd1 #[";eiB.x&-- `0Aa%aaaaxO0~]$t.i#1 @`0asa$J$C{Hf!1",[".0","rule"]]
abbrev vH:=top 142
theorem CU(OU:fO Z)(D:De Z.K "_law_cells" vH):o4 Z:=okc Bz D AR bd4 #[";gp#4 m'vaaa:]b2cgp#5 mzcgMLa~Da]b3ct.i#6 masaeZNR^~a~b5bNR{I{J{K4bu~dj'zfb0buI16cwGaDFb4cccei5"]
abbrev vI:=top 147
theorem CV(OU:fO Z)(P7:GTup Z.K Z.mg "KINDS" gt_KINDS)(DT_KINDS:GTd Z.K Z.mg "KINDS" gt_KINDS)(D:De Z.K "_law_kinds" vI):vi Z:=okc Bz D zP bd2 #[";gp#2 mj'zfb0b1cgqovdu~d2hhklei[{La:~mb'A'Bacrg~J.k#3 masaa.x&--10 `0Aa%aaaa~['A'Ba$t.i#1 @`0asa$PoYu~dj'zfb3buIuI2h{M{Nd1chhkl$1gqoYu~du~:2hhhkleZNR^~a~b3bHcreiuI{O3~s~t3~H~lu~du~:2hh",[".0","_law_kind","_law_at","_law_script"]]
abbrev Ai:=top 13
theorem Gd(O5:jI Z){t_MOST_CELLS:Tok}(Qx:Z.mg "MOST_CELLS"=some (.int 16 t_MOST_CELLS)){t_MOST_SIDE:Tok}(Qo:Z.mg "MOST_SIDE"=some (.int 6 t_MOST_SIDE)){t_MOST_SIGNS:Tok}(Qy:Z.mg "MOST_SIGNS"=some (.int 6 t_MOST_SIGNS))(D:De Z.K "floor_of" Ai):zV Z:=okc Bz D FL bd3 #[";gqWEj'bfb0b`0ce+rgqWEj'bfb1b`0ce+rgqoYu~n01`1kle+rgqWEj'bfb2b`2ce+rei~qb0b1b2c",(cG rfl Qo ⟨t_MOST_SIDE,rfl⟩),(cG rfl Qx ⟨t_MOST_CELLS,rfl⟩),(cG rfl Qy ⟨t_MOST_SIGNS,rfl⟩)]
abbrev Ce:=top 19
theorem Im(QQ:wT Z)(OS:cw Z)(QR:wO Z)(D:De Z.K "squares" Ce):qc Z:=okc Bz D Hl bd1 #[";eiB.x&--0 `0Aa%aaaa~Da]bj~Afb0cc$t.i#1 @`0asa$PEj{Pfb2b1c$j{Qfb2b1c",[".0","cell","floor"]]
abbrev Cg:=top 20
theorem Io(O7:lZ Z)(D:De Z.K "reached" Cg):qd Z:=okc Bz D Hw bd3 #[";gqo?d21`0eizcrgp#3 mzb2cgp#4 mhg'*Lo/4wGaDFb3cklgMLaxj~Nfb0bnd34ct.i#5 masaeqS~yo~rd51`0~zo?d53`0eZNR^~a~b3b5crep#4 muI4heiw~Za~*~+b3c",(by with_unfolding_all rfl)]
abbrev Kn:=top 24
theorem MR(QS:wU Z)(OS:cw Z)(D:De Z.K "full" Kn):Ke Z:=okc Bz D MN bd1 #[";eiu'+zbj{Rfb0ccj~Afb0c"]
abbrev Aj:=top 27
theorem Ge(PQ:vh Z)(D:De Z.K "has_only" Aj):gb Z:=okc Bz D FM bd2 #[";eiyvdj'-fb0b1chkl"]
abbrev Fy:=top 29
theorem Ko(PQ:vh Z)(D:De Z.K "struck" Fy):yn Z:=okc Bz D JO bd3 #[";eiB.x&---12 `0Aa%aaaa'ja'kb0c$~Va~kt.i#1 @`0asa~kt.i#2 @`0asa~W$J$~oovd13klj'-fb2b4c2",[".0","place","mask","cell","sign"]]
abbrev vJ:=top 31
theorem CW(OR:cx Z)(D:De Z.K "is_settled" vJ):o5 Z:=okc Bz D CI bd1 #[";eiw~eaa~f~gbB.x&-- `0Aa%aaaax0$t.i#1 @`0asa$J$yvdwGaDFbj~hfb1cchklc",[".0","mask"]]
abbrev Kq:=top 32
theorem MS(OR:cx Z)(D:De Z.K "ways" Kq):Kf Z:=okc Bz D Mu bd1 #[";gp#1 mhgMLax0t.i#2 masaep#1 mu~n1wGaDFbj~hfb2ccei1"]
abbrev Ch:=top 33
theorem Ip(OR:cx Z)(D:De Z.K "sign_by" Ch):B2 Z:=okc Bz D HP bd1 #[";gp#1 mj~hfb0cei~oovdwGaDFb1chklnd1hh"]
abbrev Ci:=top 39
theorem Iq(O5:jI Z)(D:De Z.K "is_sign" Ci):B3 Z:=okc Bz D Hs bd2 #[";eij'bfb1bnd0hc"]
abbrev qr:=top 52
theorem yu(OR:cx Z)(D:De Z.K "is_no_greater" qr):qe Z:=okc Bz D xO bd2 #[";eiw~eaa~f~gbB.x&--0 `0Aa%aaaaxj~hfb1c$t.i#1 @`0asa$J$y~j21klc",[".0","other","sign"]]
abbrev vK:=top 53
theorem CY(OR:cx Z)(D:De Z.K "is_no_less" vK):vj Z:=okc Bz D Cv bd2 #[";eiw~eaa~f~gbB.x&--0 `0Aa%aaaaxj~hfb1c$t.i#1 @`0asa$J$y'C21klc",[".0","other","sign"]]
abbrev sA:=top 56
theorem Ak{c:WY}(Py:lw Z)(OT:dM Z c)(OR:cx Z)(D:De Z.K "pair_strikes" sA):rN Z c:=okc Bz D zg bd5 #[";gqWEj{Sfbj~ifb0b2cb4ceiTrgp#5 mj~hfbu{Tnd1nd4hnd1nd4hceiy~jwGaDFbB.x&--3 `0Aa%aaaax5$t.i#1 @`0asa$PoKd12kl$1chkl",[".0","other","sign"]]
abbrev ue:=top 62
theorem Bl{c:WY}(O6:jT Z)(OV:ga Z)(OT:dM Z c)(OR:cx Z)(PC:yo Z c)(D:De Z.K "sum_strikes" ue):t8 Z c:=okc Bz D AU bd5 #[";gqoKd4zckleiTrgp#5 mj~Cfb1bj~ifb0b2ccgqEj~-fb5ceiTrgp#6 muI3w'waa'x'ybB.x&-- `0Aa%aaaax5$t.i#1 @`0asa$J$ndj~hfb1chcgp#7 muI3w'waa'x'ybB.x&-- `0Aa%aaaax5$t.i#1 @`0asa$J$ndj~hfb1c'S'Thcei~YyY6C'cf!0klUy/7C'cf!0kl",[".0","mask"]]
abbrev Fz:=top 72
theorem Kr(O7:lZ Z)(D:De Z.K "around" Fz):Ff Z:=okc Bz D JJ bd3 #[";eiB.x&--2 `0Aa%aaaaxj~Nfb0b1c$t.i#1 @`0asa$PoKd12kl$1",[".0","other","cell"]]
abbrev vL:=top 82
theorem CZ(O7:lZ Z)(D:De Z.K "turn_mores" vL):vm Z:=okc Bz D CD bd2 #[";eiuIzbzccB.x&-- `0Aa%aaaaxj~Nfb0b1c$t.i#1 @`0asa$J$zb1c",[".0","other"]]
abbrev vM:=top 83
theorem C1{c:WY}(OT:dM Z c)(OR:cx Z)(O8:l6 Z c)(D:De Z.K "pair_mores" vM):vn Z c:=okc Bz D CF bd3 #[";g~c.i#3 ma*aC~Lf!0g~J.k#4 masaa.x&--1 `0Aa%aaaaxw~Za~*~+bj~ifb0b2cc$t.i#1 @`0asa$Po~jwGaDFbj~hfbnd21cchkl$1gp#5 mzcgMLax4t.i#6 ma*aeZNR'l'm'n5bB.x&--63 `1Aa%aaaax4$t.i#1 @`1asa$Po/NR~E~F~Gd3b2cNR~E~F~Gd3b1ckl$zb2b1ccei5",[".0","other","masks"],[".0","second","first","spots"]]
abbrev sB:=top 86
theorem Al{c:WY}{d:WZ}(Rc:B1 Z c)(O4:l0 Z c d)(D:De Z.K "rule_numbers" sB):rO Z c d:=okc Bz D zB bd2 #[";gqovd1HkleizbhcreiB.x&---1 `0Aa%aaaa'ja'kbC~xf!0c$~Va~kt.i#1 @`0asa~kt.i#2 @`0asa~W$PEj{Ufb3b2c$1",[".0","number","rule","kind"]]
abbrev jU:=mtop 118 1
theorem q5{c:WY}(O7:lZ Z)(O9:FldK Z.K c "floor"){f:Addr}(D:Me Z.K "has_two_beside" "Ring.has_two_beside" jU f):Mo Z 3 f ["self","cells","cell"] (iY Z.K c):=okm D qM bd3 #[";eiyvdwGaDFbB.x&--1 `0Aa%aaaaxj~NfbO0~;b2c$t.i#1 @`0asa$Po~rd12`1$1chkl",[".0","other","cells"],(by with_unfolding_all rfl)]
abbrev sC:=top 128
theorem Am(Ph:li Z)(D:De Z.K "first_within" sC):rP Z:=okc Bz D yU bd3 #[";gqovd0zckle+reij'/fbnd0hb1b2c"]
abbrev vN:=top 129
theorem C5(OS:cw Z)(Ph:li Z)(D:De Z.K "told_cells" vN):vo Z:=okc Bz D Cr bd2 #[";g~J.k#2 masaa.x&--0 `0Aa%aaaax1$t.i#1 @`0asa$J$j'/fb1bhbu;j~Afb2chcgqovd2zckle+rgqoKd'XaaaD'Y2wGaDFb2ckle+rei2",[".0","word","floor"]]
abbrev Cj:=top 131
theorem Ir{c:WY}(RB:aR Z "Count" (c.A .Count) c)(Rq:aR Z "Joined" (c.A .Joined) c)(Q5:aR Z "NoSquare" (c.A .NoSquare) c)(RP:aR Z "Ring" (c.A .Ring) c)(Rr:aR Z "Rising" (c.A .Rising) c)(RQ:aR Z "Seen" (c.A .Seen) c)(K_Sum:aR Z "Sum" (c.A .Sum) c)(Rs:aR Z "Unlike" (c.A .Unlike) c)(D:De Z.K "rule_by" Cj):B4 Z c:=okc Bz D Hn bd5 #[";gp#5 mnd1hgqovd5Hklei~p{Vf!ab0b1b2b3b4crgqovd5Hklei~p{Wf!ab0b1b2b3b4crgqovd5Hklei~p{Xf!ab0b1b2b3b4crgqovd5Hklei~p{Yf!ab0b1b2b3b4crgqovd5Hklei~p{Zf!ab0b1b2b3b4crgqovd5Hklei~p{*f!ab0b1b2b3b4crgqovd5Hklei~p{+f!ab0b1b2b3b4crgqovd5Hklei~p{-f!ab0b1b2b3b4cre+"]
abbrev qt:=top 138
theorem yw(Pr:oZ Z)(D:De Z.K "checked_clues" qt):qf Z:=okc Bz D xJ bd2 #[";gqWEj':fb0b1bhce+rei[~va:~mb1c"]
abbrev vO:=top 34
theorem C6(Re:B2 Z)(D:De Z.K "filling_by" vO):vp Z:=okc Bz D CJ bd1 #[";eiB.x&-- `0Aa%aaaax0$t.i#1 @`0asa$J$j{/fb1c",[".0","mask"]]
abbrev xk:=top 43
theorem FA(OW:gb Z)(D:De Z.K "many_only" xk):mj Z:=okc Bz D Ef bd2 #[";eiwGaDFbB.x&--1 `0Aa%aaaax0$t.i#1 @`0asa$PEj~Ofb1b2c$1c",[".0","mask","sign"]]
abbrev sD:=top 48
theorem An{c:WY}(OW:gb Z)(OT:dM Z c)(D:De Z.K "only_strikes" sD):rQ Z c:=okc Bz D zc bd5 #[";eiQyvdwGaDFb4chklQy~rdnd4hj~ifb0b2c`0Uj~Ofbnd1nd4hb3c",(by with_unfolding_all rfl)]
abbrev qu:=top 49
theorem yx{c:WY}(Rf:B3 Z)(Pf:og Z)(OV:ga Z)(OT:dM Z c)(O8:l6 Z c)(D:De Z.K "place_strikes" qu):qg Z c:=okc Bz D xM bd6 #[";gqSVoKdwGaDFbC~Lf!1cnd0hkl-oKdwGaDFb5chkleiTrgqSVovdnd5h4kl-WEj{:fb0bnd5hceiTreiyvdj'dfbj~Cfb2bj~ifb1b3ccbnd5hchkl"]
abbrev sE:=top 54
theorem Ao{c:WY}(Q6:zU Z c)(Rt:Fe Z c)(PU:qe Z)(Qz:vj Z)(D:De Z.K "step_strikes" sE):rR Z c:=okc Bz D zh bd5 #[";gqoKd4zckleiTrgqEw'Daa'E'FbB.x&--13 `0Aa%aaaaxj{;fb0b2c$t.i#1 @`0asa$J$j{?fb3bnd21cceiTreiw'Daa'E'FbB.x&--13 `0Aa%aaaaxj{[fb0b2c$t.i#1 @`0asa$J$j{]fb3bnd21cc",[".0","other","masks","sign"]]
abbrev ph:=top 68
theorem wz(Po:qc Z)(D:De Z.K "rest_of_square" ph):o6 Z:=okc Bz D wp bd3 #[";gMLaxj'Gfb0ct.i#3 masaeqS~yovdnd3h1kl~zo~rd23`0eiB.x&--2 `1Aa%aaaax3$t.i#1 @`1asa$PoKd12kl$1reizc",(by with_unfolding_all rfl),[".0","other","cell"]]
abbrev i5:=top 70
theorem pq(OW:gb Z)(Rg:B0 Z)(D:De Z.K "is_another_with_only" i5):i4 Z:=okc Bz D pp bd5 #[";eiQj{^fb0b3cQyKd32klUj~Ofbnd13b4c"]
abbrev vP:=top 78
theorem C7{c:WY}(OW:gb Z)(OT:dM Z c)(D:De Z.K "only_mores" vP):vq Z c:=okc Bz D CB bd4 #[";eiB.x&--13 `0Aa%aaaaxw~Za~*~+bj~ifb0b2cc$t.i#1 @`0asa$PEj~Ofbnd21b3c$zb1c",[".0","other","masks","sign"]]
abbrev sF:=top 80
theorem Ap(Po:qc Z)(D:De Z.K "square_mores" sF):rS Z:=okc Bz D zy bd2 #[";eiB.x&--1 `0Aa%aaaaxj'Gfb0c$t.i#1 @`0asa$Po~rd21`1$zbnd1hc",[".0","square","cell"],(by with_unfolding_all rfl)]
abbrev uf:=top 81
theorem Bm{c:WY}(OW:gb Z)(OT:dM Z c)(Pe:qd Z)(OZ:jH Z)(Pi:rZ Z c)(D:De Z.K "reach_mores" uf):t9 Z c:=okc Bz D A0 bd5 #[";g~c.i#5 ma*aC~Pf!1g~c.i#6 ma*aB.x&--52 `0Aa%aaaaxj~ifb1b3c$t.i#1 @`0asa$PEj~Ofbnd31b2c$1g~J.k#7 masaa.x&--52 `0Aa%aaaaxj~ifb1b3c$t.i#1 @`0asa$PEj~Kfbnd31b2c$1gqovd45klg~c.i#8 ma*aj~/fb0buI7zb3cb3ceiB.x&--8 `1Aa%aaaax6$t.i#1 @`1asa$Po?d12`2$zb1crg~c.i#8 ma*a~ooKd6zcklj~/fb0b7bnd6hczceiB.x&--86 `3Aa%aaaax6$t.i#1 @`3asa$Po?d12`2$zbnd3hb1c",[".0","other","mark","masks"],[".0","other","joined"],(by with_unfolding_all rfl),[".0","other","joined","sure"]]
abbrev mK:=mtop 116 1
theorem lA{c:WY}(Pe:qd Z)(O9:FldK Z.K c "floor"){f:Addr}(D:Me Z.K "is_joined" "Joined.is_joined" mK f):Mo Z 4 f ["self","cells"] (lr Z.K c):=okm D uj bd2 #[";ei~Yyvd1zcklUyvdj~/fbO0~;b1bnd1hc1kl"]
abbrev pi:=mtop 117 0
theorem wA{c:WY}(QT:wQ Z)(Po:qc Z)(O9:FldK Z.K c "floor")(Pp:jJ Z c){f:Addr}(D:Me Z.K "holds" "NoSquare.holds" pi f):Mo Z 4 f ["self","filling"] (nu Z.K c):=okm D wu bd2 #[";g~c.i#2 ma*aX'af!0b1cei'iw'Daa'E'FbB.x&--2 `0Aa%aaaaxj'GfbO0~;c$t.i#1 @`0asa$J$j}afb1b2cc",[".0","square","cells"]]
abbrev Aq:=top 130
theorem Gf(OS:cw Z)(QA:vo Z)(P8:GTup Z.K Z.mg "OF_ALL_CELLS" gz)(D:De Z.K "cells_of" Aq):zW Z:=okc Bz D FJ bd3 #[";gq}b}c1aeij}dfb0b2crgqoKd2zckle+rei'vaaa:]bj~Afb0cc"]
abbrev qv:=top 135
theorem yy(Q7:zV Z)(D:De Z.K "checked_floor" qv):qh Z:=okc Bz D xI bd1 #[";gqSVWEw~Qa~R~Sb0b~T.v~U}ea'o'pac-oKdwGaDFb0chkle+reij}ffbnd0hbnd0hbnd0hc"]
abbrev nI:=top 57
theorem vQ{c:WY}{d:WZ}(P9:rK Z)(Qa:rQ Z c)(Qb:rN Z c)(PV:qg Z c)(Qc:rR Z c)(Pc:oj Z c d)(OY:im Z c d)(O4:l0 Z c d)(D:De Z.K "strikes_by_line" nI):nD Z c d:=okc Bz D uo bd3 #[";gp#3 mnd2hgp#4 mnd2hgp#5 mnd2hgp#6 mnd2hgqovd3Hkleij}gfbC~Mf!0b4b5b6crgp#7 mndC~xf!0nd2hgqovd3Hkleij}hfb7b1b4b5b6crgqovd3Hkleij}ifbC~Bf!0b7b1b4b5b6crgqovd3Hkleij}jfb7b1b4b5b6creij}kfb7b1b4b5b6c"]
abbrev qw:=top 61
theorem yz{c:WY}(Pf:og Z)(Pb:mj Z)(OV:ga Z)(OT:dM Z c)(PC:yo Z c)(Pi:rZ Z c)(D:De Z.K "count_strikes" qw):qi Z c:=okc Bz D xN bd5 #[";gqoKd4zckleiTrgp#5 mj~Cfb1bj~ifb0b2ccgqovd3C~Pf!0kleiy'Cj'efb5b3cC'cf!0klreiy/j'dfb5bC~Pf!0cC'cf!0kl"]
abbrev pj:=top 69
theorem wB{c:WY}(Pb:mj Z)(OV:ga Z)(PL:o6 Z)(Pi:rZ Z c)(D:De Z.K "square_strikes" pj):o7 Z c:=okc Bz D wq bd6 #[";gqSVoKd4C~Pf!1kl-oKdwGaDFb5chkleiTrgp#6 mj}lfb0bnd5hb3ceiQyKd6zcklUyvdj'efbj~Cfb2b6cb4cwGaDFb6ckl"]
abbrev qx:=top 71
theorem yA{c:WY}(Pq:i4 Z)(OT:dM Z c)(Pe:qd Z)(OZ:jH Z)(Pi:rZ Z c)(D:De Z.K "reach_strikes" qx):qk Z c:=okc Bz D xX bd6 #[";g~c.i#6 ma*aC~Pf!1gqWEw~eaa~f~gbB.x&--3062 `0Aa%aaaax5$t.i#1 @`0asa$J$j}mfb3b5b2b1b4cceiTrg~J.k#7 masaa.x&--62 `1Aa%aaaaxj~ifb1b3c$t.i#1 @`1asa$PEj~Kfbnd31b2c$1gqovd46kleiQyvdwGaDFb5chklUy?dnd5hj~/fb0buI7zb3cb3c`2rgqSVoKdwGaDFb5chkl-ovdnd5hnd5hkleiTreiy?dnd5hj~/fb0b7bnd5hc`2",[".0","other","cell","floor","mark","masks"],[".0","other","mark","masks"],(by with_unfolding_all rfl)]
abbrev sG:=top 73
theorem Ar{c:WY}(Ru:Ff Z)(O7:lZ Z)(OW:gb Z)(Pf:og Z)(Pb:mj Z)(OV:ga Z)(Pi:rZ Z c)(D:De Z.K "turn_strikes" sG):rT Z c:=okc Bz D zv bd6 #[";gp#6 mC~Pf!1gqovd5zcklgp#7 mj~Cfb2bj~Nfb0b3cceiQyvd46klU~Yy/j'dfb7b6chklUyYj'efb7b6chklrgqSVoKdwGaDFb5chklVo?dnd5hj~Nfb0b3c`0-WEj~Ofbnd2nd5hb6ceiTrgp#7 mj~Cfb2bj}nfb0bnd5hb3ccgqovd46kleiy'Cj'efb7b6chklreiy/j'dfb7b6chkl",(by with_unfolding_all rfl)]
abbrev sH:=top 84
theorem As{c:WY}{d:WZ}(QB:vq Z c)(QC:vn Z c)(Qq:t7 Z)(Qr:t9 Z c)(Qd:rS Z)(QD:vm Z)(OY:im Z c d)(O4:l0 Z c d)(D:De Z.K "mores_to_try" sH):rV Z c d:=okc Bz D zA bd6 #[";gp#6 mC~Bf!0gqovd2Hkleij}ofb6b5crgqovd2Hkleij}pfb6b4crgqovd2Hkleij}qfb6b4crgqovd2Hkleij}rfbndC~xf!03b1b4b5crgqovd2Hkleij}sfb6bndC~xf!03b1b4b5crgqovd2Hkleij}tfbndC~xf!03b1b4creizbzcc"]
abbrev sI:=mtop 116 0
theorem At{c:WY}(QU:mn Z c)(Pp:jJ Z c){f:Addr}(D:Me Z.K "holds" "Joined.holds" sI f):Mo Z 5 f ["self","filling"] (pV Z.K c):=okm D zk bd2 #[";eiX';f!0bX'af!0b1cc"]
abbrev vR:=mtop 118 0
theorem C9{c:WY}(Rv:o9 Z c)(QU:mn Z c)(Pp:jJ Z c){f:Addr}(D:Me Z.K "holds" "Ring.holds" vR f):Mo Z 5 f ["self","filling"] (t5 Z.K c):=okm D Cz bd2 #[";g~c.i#2 ma*aX'af!0b1ceiQX';f!0b2cUw~eaa~f~gbB.x&--20 `0Aa%aaaax2$t.i#1 @`0asa$J$X}uf!3b2b1cc",[".0","cell","cells","self"]]
abbrev xn:=top 132
theorem FB{c:WY}(Q8:zW Z)(PD:rP Z)(Rh:B4 Z c){t_MOST_NUMBER:Tok}(Qs:Z.mg "MOST_NUMBER"=some (.int 99 t_MOST_NUMBER))(Qt:GTup Z.K Z.mg "WITH_NUMBER" ii)(QV:GTup Z.K Z.mg "WITH_SIGN" gI)(D:De Z.K "read_rule" xn):qZ Z c:=okc Bz D Ed bd2 #[";gqWEw~Qa~R~Sb1b~T.v~U}va}w}xace+rgp#2 mN'O}y}z}A1bHcgp#3 mnd2hgp#4 m~s~t2~lh~Hgp#5 mhgp#6 mhgq'f}B3agp#5 mj'?fb4bhb`0cep#4 m~s~t4~lh~Hrgq'f}C3agp#6 mj'?fb4bhbnd0hcep#4 m~s~t4~lh~Hreij}Dfb0b2bj}Efb0b3b4cb5b6c",(cG rfl Qs ⟨t_MOST_NUMBER,rfl⟩)]
abbrev sJ:=top 65
theorem Au{c:WY}(O6:jT Z)(OV:ga Z)(OT:dM Z c)(OR:cx Z)(RS:Kf Z)(PM:oY Z)(Pu:qY Z){t_MOST_WAYS:Tok}(QW:Z.mg "MOST_WAYS"=some (.int 32 t_MOST_WAYS))(PF:wm Z c)(D:De Z.K "ways_strikes" sJ):rW Z c:=okc Bz D zu bd5 #[";gp#5 mj~ifb0b2cgp#6 mj~Cfb1b5cgqSVoKd4zckl-oYj}Ffb6c`0kleiTrgqEj~-fb6ceiTrgp#7 mzbj'Wfbu'+zbhcwGaDFb1cb2b3ccgMLax5t.i#8 masaep#7 mj}Gfb7b8bj~hfbnd18ccgMLax7t.i#9 masaeqEX'[f!0b9ceiTreiT",(cG rfl QW ⟨t_MOST_WAYS,rfl⟩)]
abbrev lB:=top 74
theorem tX{c:WY}{d:WZ}(PX:qk Z c)(PN:o7 Z c)(Qe:rT Z c)(OY:im Z c d)(O4:l0 Z c d)(D:De Z.K "strikes_by_region" lB):lx Z c d:=okc Bz D qP bd3 #[";gp#3 mC~Bf!0gp#4 mndC~xf!0nd2hgqovdnd2hHkleij}Hfb3b4b1bnd2hbnd2hbnd2hcrgqovdnd2hHkleij}Ifb3b4b1bnd2hbnd2hbnd2hcreij}Jfb3b4b1bnd2hbnd2hbnd2hc"]
abbrev vS:=top 136
theorem Da{c:WY}(Pw:qZ Z c){t_MOST_RULES:Tok}(QE:Z.mg "MOST_RULES"=some (.int 12 t_MOST_RULES))(D:De Z.K "read_rules" vS):vt Z c:=okc Bz D Ct bd2 #[";gqoYwGaDFb1c`0kle+reiB.x&--0 `1Aa%aaaax1$t.i#1 @`1asa$J$j}Kfb2b1c",(cG rfl QE ⟨t_MOST_RULES,rfl⟩),[".0","line","floor"]]
abbrev sK:=mtop 139 6
theorem Av{c:WY}{d:WZ}(Pr:oZ Z)(O3:FldK Z.K d "floor")(Pd:FldK Z.K d "laws")(QX:wW Z c d)(PF:wm Z c){f:Addr}(D:Me Z.K "meets" "Puzzle.meets" sK f):Mo Z 6 f ["self","filling"] (pW Z.K c d):=okm D zl bd2 #[";gqSVWEj':fbO0~Ib1bhc-WEX}Lf!0b1ceiTreiw~eaa~f~gbB.x&--1 `0Aa%aaaaxO0~]$t.i#1 @`0asa$J$X'[f!1b2cc",[".0","rule","filling"]]
abbrev xo:=top 145
theorem FC{c:WY}(k:o4 Z)(f:vf Z)(l:fO Z)(h:wS Z)(j:qZ Z c)(g:wm Z c)(D:De Z.K "_law_line" xo):wV Z c:=okc Bz D A7 bd4 λe b d=>by
 refine ae ?_ ?_
 . exact(kset 4 d (kcal l e (ab (pv 0) (ab (pv 1) ad))))
 . refine ae ?_ ?_
   . exact(kset 5 d (av dW (kix b (pv 2) ah) (kix b (pv 2) ah)))
   . refine ae ?_ ?_
     . exact(kset 6 d (kcal k e (ab (pv 0) (ab (av aJ (pv 1) ah) (ab (pv 5) (ab (av aJ ah (av bp (av lD (pv 4) ah) (pv 5))) ad))))))
     . refine ae ?_ ?_
       . exact(cE (i:=7) d rfl (Or.inr rfl) (aV fQ rfl Bz.str_ jX (ab (kix b (pv 3) (kix b (pv 6) ah)) ad)))
       . refine ae ?_ ?_
         . exact(aw (ao (gE b) (av bp (pv 4) ah) (cq (ab ah (ab ah (ab ah ad)))) (by with_unfolding_all rfl)) (ae (kset 8 d (av aJ (kix b (aI (ab aM (ab aM (ab aM ad)))) (av c6 (av bp (pv 4) ah) ah)) (pv 7))) (af (aw (aS (bh g e #[1] (kcal j e (ab (pv 2) (ab (pv 8) ad))) (ab (pv 3) ad))) (af (ai (pv 8))) aq))) aq)
         . refine ae ?_ ?_
           . exact(aw (ao (ay b) (av bp (pv 4) ah) ah (ak _)) (ae (kset 6 d (kcal f e (ab (pv 3) (ab (pv 6) (ab bI ad))))) (af (ai (av aJ aM (bC UC U3 U4 pG aM (ab (aE (ix:=[none,none]) [".0","_law_cell"] (az rfl (by decide+kernel) rfl rfl rfl) rfl (ax (pv 6)) (λcl s H a=>(ar (i:=1) (show([".0","_law_cell"]:List Str).Nodup by decide+kernel) rfl (Or.inl rfl))) (λcl s H a=>aP) (λcl s H a=>(aV fQ rfl Bz.str_ jX (ab (pv 1) ad)))) ad)))))) aq)
           . refine ae ?_ ?_
             . exact(aw (ao (ay b) (av bp (pv 4) ah) ah (ak _)) (ae (kset 6 d (kcal f e (ab (pv 3) (ab (pv 6) (ab bI ad))))) (af (ai (av aJ aM (bC UC U3 U4 pG aM (ab (aE (ix:=[none,none]) [".0","_law_cell"] (az rfl (by decide+kernel) rfl rfl rfl) rfl (ax (pv 6)) (λcl s H a=>(ar (i:=1) (show([".0","_law_cell"]:List Str).Nodup by decide+kernel) rfl (Or.inl rfl))) (λcl s H a=>aP) (λcl s H a=>(aV fQ rfl Bz.str_ jX (ab (pv 1) ad)))) ad)))))) aq)
             . refine ae ?_ ?_
               . exact(kset 9 d (bC UC U3 U4 pG aM (ab (aE (ix:=[none,none]) [".0","_law_cell"] (az rfl (by decide+kernel) rfl rfl rfl) rfl (ax (pv 6)) (λcl s H a=>(ar (i:=1) (show([".0","_law_cell"]:List Str).Nodup by decide+kernel) rfl (Or.inl rfl))) (λcl s H a=>aP) (λcl s H a=>(aV fQ rfl Bz.str_ jX (ab (pv 1) ad)))) ad)))
               . refine ae ?_ ?_
                 . exact(aw (ao (ay b) (av bp (pv 4) ah) ah (ak _)) (af (ai (av aJ (av aJ (av aJ aM (aV fQ rfl Bz.str_ jX (ab (kcal h e (ab (pv 3) (ab (pv 6) ad))) ad))) aM) (pv 9)))) aq)
                 . refine ae ?_ ?_
                   . exact(aw (ao (ay b) (av bp (pv 4) ah) ah (ak _)) (af (ai (av aJ (av aJ (av aJ (av aJ (av aJ aM (aV fQ rfl Bz.str_ jX (ab (au aD rfl Bz.len_ aN (ab (aE (ix:=[none,none,some 3,some 7]) [".0","_law_cell","_law_answer","_law_sign"] (az rfl (by decide+kernel) rfl rfl rfl) rfl (ax (pv 6)) (λcl s H a=>(ar (i:=1) (show([".0","_law_cell","_law_answer","_law_sign"]:List Str).Nodup by decide+kernel) rfl (Or.inl rfl))) (λcl s H a=>(bc (ao (ay b) (aV fQ rfl Bz.str_ jX (ab (kix b (pv 2) (pv 1)) ad)) (pv 3) (ak _)))) (λcl s H a=>(pv 1))) ad)) ad))) aM) (pv 7)) aM) (pv 9)))) aq)
                   . refine af ?_
                     . refine ai ?_
                       . exact(av aJ (av aJ (av aJ aM (aV fQ rfl Bz.str_ jX (ab (au (pD rfl) rfl Bz.sum_ yO (ab (aE (ix:=[none,none,some 3]) [".0","_law_cell","_law_answer"] (az rfl (by decide+kernel) rfl rfl rfl) rfl (ax (pv 6)) (λcl s H a=>(ar (i:=1) (show([".0","_law_cell","_law_answer"]:List Str).Nodup by decide+kernel) rfl (Or.inl rfl))) (λcl s H a=>aP) (λcl s H a=>(kix b (pv 2) (pv 1)))) ad)) ad))) aM) (pv 9))
abbrev lC:=top 66
theorem tY{c:WY}{d:WZ}(PZ:qi Z c)(Qu:t8 Z c)(Qf:rW Z c)(O4:l0 Z c d)(D:De Z.K "strikes_by_number" lC):ly Z c d:=okc Bz D qQ bd3 #[";gp#3 mndC~xf!0nd2hgqovdnd2hHkleij}Mfb3b1bnd2hbnd2hbnd2hcrgqovdnd2hHkleij}Nfb3b1bnd2hbnd2hbnd2hcreij}Ofb3b1bnd2hbnd2hbnd2hc"]
abbrev Aw:=top 103
theorem Gh{c:WY}{d:WZ}(P0:qb Z)(PJ:nA Z c d)(Qg:rM Z c d)(Qv:Bg Z c d)(D:De Z.K "found_by" Aw):zX Z c d:=okc Bz D FS bd3 #[";gZj}Pfb0cgp#3 mzcgMLaxj}Qfbj}Rfb0b1cct.i#4 masagqovdwGaDFb3c2klei3reqEX']f!0b4ceZNR^~a~b3b4crei3"]
abbrev nJ:=mtop 139 0
theorem vT{c:WY}{d:WZ}(P1:qf Z)(P3:qh Z)(QF:vt Z c)(O3:FldK Z.K d "floor")(Pk:FldK Z.K d "given")(Pd:FldK Z.K d "laws"){f:Addr}(D:Me Z.K "__init__" "Puzzle.__init__" nJ f):Mo Z 7 f ["self","floor","lines","clues"] (ce Z.K c d):=okm D uK bd4 #[";g~u0j}Sfb1c~Ig~u0j}TfbO0~Ib2c~]e~u0j}UfbO0~Ib3c's"]
abbrev vU:=top 146
theorem Db{c:WY}(f:wV Z c)(e:fO Z)(D:De Z.K "_law_drawn" vU):vv Z c:=okc Bz D zH bd1 λd h a=>by
 refine ae ?s0 ?r0
 case s0=>exact(kset 1 a (kcal e d (ab (pv 0) (ab ah ad))))
 case r0=>
  refine ae ?s1 ?r1
  case s1=>
   refine yD (te:=?te) (g:=gTup Z.K 3 (gCons (gName 2) (gCons (gName 3) (gCons (gName 4) gNil)))) ?h1 ?h2 ?h4 ?h5 ?h6
   case h2=>exact(mr rfl (bA (ar (i:=2) a rfl (Or.inr rfl)) (bA (ar (i:=3) a rfl (Or.inr rfl)) (bA (ar (i:=4) a rfl (Or.inr rfl)) jL))))
   case h4=>rfl
   case h5=>rfl
   case h6=>rfl
   case h1=>
    refine Dg ?x ?l ?j ?p
    case x=>exact(Nh h)
    case p=>exact(λ_ _=>rfl)
    case j=>exact(av bp (pv 1) ah)
    case l=>
     refine aI ?_;refine jG ?_ ?_
     . exact cq (bi ah (bi ah (bi ah ad)))
     refine jG ?_ ?_
     . exact cq (bi ah (bi ah (bi ah ad)))
     refine jG ?_ ?_
     . exact cq (bi ah (bi ah (bi ah ad)))
     refine jG ?_ ?_
     . exact cq (bi ah (bi ah (bi ah ad)))
     refine jG ?_ ?_
     . exact cq (bi ah (bi ah (bi ah ad)))
     refine jG ?_ ?_
     . exact cq (bi ah (bi ah (bi ah ad)))
     refine jG ?_ ?_
     . exact cq (bi ah (bi ah (bi ah ad)))
     exact ad
  case r1=>
   exact(ae (cE (i:=5) a rfl (Or.inr rfl) (aE (ix:=[none,none,some 0,some 4]) [".0","_law_k","_law_script","_law_signs"] (az rfl (by decide+kernel) rfl rfl rfl) rfl (d0 rfl Bz.range_ (ab (av dW (pv 2) (pv 3)) ad)) (λcl s H b=>(ar (i:=1) (show([".0","_law_k","_law_script","_law_signs"]:List Str).Nodup by decide+kernel) rfl (Or.inl rfl))) (λcl s H b=>aP) (λcl s H b=>(av aJ ah (av bp (kcal e d (ab (pv 2) (ab (av aJ ah (pv 1)) ad))) (pv 3))))))
   (ae (jN (k:=6) a rfl (Or.inl rfl) rfl (ix:=[none,none,some 5,some 2,some 0,some 4,some 3]) [".0","_law_k","_law_answer","_law_high","_law_script","_law_signs","_law_wide"] (az rfl (by decide+kernel) rfl rfl rfl) rfl (d0 rfl Bz.range_ (ab (av bp (av lD (pv 1) ah) ah) ad)) (λcl s H b=>(ar (i:=1) (show([".0","_law_k","_law_answer","_law_high","_law_script","_law_signs","_law_wide"]:List Str).Nodup by decide+kernel) rfl (Or.inl rfl))) (λcl s H b=>aP) (λcl s H b=>(kcal f d (ab (pv 4) (ab (av aJ ah (av dW ah (pv 1))) (ab (cq (ab (pv 3) (ab (pv 6) (ab (pv 5) ad)))) (ab (pv 2) ad)))))))
   (af (ai (cq (ab (cq (ab (pv 2) (ab (pv 3) (ab (pv 4) ad)))) (ab (pv 6) (ab (pv 5) ad))))))))
abbrev Ck:=top 76
theorem Iu{c:WY}{d:WZ}(PK:nD Z c d)(Pz:ly Z c d)(PB:lx Z c d)(QG:GTup Z.K Z.mg "LINE_KINDS" jf)(Qh:GTup Z.K Z.mg "NUMBER_KINDS" gB)(D:De Z.K "strikes" Ck):B5 Z c d:=okc Bz D FT bd3 #[";gq'f}Vnd2haeij}Wfb0b1b2crgq'f}Xnd2haeij}Yfb0b1b2creij}Zfb0b1b2c"]
abbrev Cl:=top 104
def Iv{c:WY}{d:WZ}(e:zX Z c d)(b:cw Z)(f:im Z c d)(D:DeD Z.K "answers" Cl):B6 Z c d:=okcD Bz D HX OP λa h g=>(af (ai (kcal e a (ab (pv 0) (ab (av xw (aI (ab ah ad)) (kcal b a (ab (aG f a #[1] (pv 0)) ad))) (ab (pv 1) ad))))))
abbrev Ax:=top 85
theorem Gi{c:WY}{d:WZ}(Qi:rV Z c d)(Ri:B5 Z c d)(D:De Z.K "first_at" Ax):zY Z c d:=okc Bz D FV bd6 #[";gMLaxj}*fb0b1b2b3b4b5ct.i#6 masagp#7 m~qb2b3b4b5b6ceqEj}+fb0b1b7cei7rei~w"]
abbrev sL:=mtop 139 7
theorem Ay{c:WY}{d:WZ}(O3:FldK Z.K d "floor")(RD:GY Z c d)(Qj:iS Z "Puzzle" (d.A .Puzzle) c d){f:Addr}(D:Me Z.K "clued" "Puzzle.clued" sL f):Mo Z 9 f ["self","clues"] (pR Z.K c d):=okm D za bd2 #[";ei~p}-f!abO0~IbC}/f!0b1c"]
abbrev qy:=top 88
theorem yB{c:WY}{d:WZ}(Qk:rL Z c d)(O6:jT Z)(Ra:zY Z c d)(OR:cx Z)(Ql:yn Z)(D:De Z.K "found_by_rule" qy):ql Z c d:=okc Bz D ya bd4 #[";gp#4 m[~va:~mb1cgp#5 mzcgMLaxj}:fb0b2b3ct.i#6 masagMLaxj~hfbnd46ct.i#7 masagp#8 mj};fb0b4b2b3b6b7ceqo}?8~wklgZNR^~a~b5b8cep#4 mj'^fb4b6b7creqEj~-fb4cei5rei5"]
abbrev sM:=top 106
theorem Az{c:WY}{d:WZ}(Px:wl Z c d)(Pc:oj Z c d)(D:De Z.K "without_clue" sM):rX Z c d:=okc Bz D zL bd2 #[";gp#2 mC~Mf!0g{ah{b21{cdeiX{df!0b2c"]
abbrev ug:=top 90
theorem Bn{c:WY}{d:WZ}(P4:ql Z c d)(Qm:rO Z c d)(P7:GTup Z.K Z.mg "KINDS" gt_KINDS)(D:De Z.K "first_found" ug):np Z c d:=okc Bz D A5 bd3 #[";gMLaxB.x&--2 `0Aa%aaaa~['A'Ba$t.i#1 @`0asa$Po}[12`1$1t.i#3 masaeMLaxj}]fb0b3ct.i#4 masagp#5 mj}^fb0b1b3b4ceqoKd5zcklei5reizc",[".0","word","kinds"],(by with_unfolding_all rfl)]
abbrev sN:=top 91
theorem AA{c:WY}{d:WZ}(O6:jT Z)(Pn:np Z c d)(D:De Z.K "next_thought" sN):rY Z c d:=okc Bz D zE bd3 #[";gp#3 m~oWEj~-fb1cj{efb0b1b2czcei~ooKd3zcklnd3h~w"]
abbrev GZ:=top 92
theorem Ls{c:WY}{d:WZ}(O6:jT Z)(Pn:np Z c d)(Ql:yn Z)(D:De Z.K "think" GZ):GW Z c d:=okc Bz D K7 bd3 #[";gp#3 m[~va:~mb1cgp#4 mzcg'*LWEj~-fb3cgp#5 mj{efb0b3b2cgqovd5zcklei~qb3b4creMLax5t.i#6 masagZNR^~a~b4b6cep#3 mj'^fb3bnd6hbnd6hcei~qb3b4c"]
abbrev vV:=top 94
theorem Dc{c:WY}{d:WZ}(RT:Ke Z)(RE:GW Z c d)(OY:im Z c d)(D:De Z.K "standstill" vV):o8 Z c d:=okc Bz D CK bd2 #[";eindj_afb0bj_bfbC~Bf!0cb1ch"]
abbrev vW:=top 148
theorem Dd{c:WY}{d:WZ}(Ps:o5 Z)(Qn:rY Z c d)(OZ:jH Z)(Px:wl Z c d)(D:De Z.K "_law_rests" vW):vw Z c d:=okc Bz D zT bd6 #[";gp#6 m[~va:~mb2cg{ah{b64{cdgp#7 mX{df!0b6cgMLa~Da]bwGaDFb1cct.i#8 masaeqWEj~Kfbnd58bnd18ceiTreiQ'ij{ffb5cUy'Zj_cfb7b[~va:~mb5cb3c~wkl"]
abbrev Cm:=top 95
theorem Iw{c:WY}{d:WZ}(QH:vp Z)(Ps:o5 Z)(Pt:o8 Z c d)(Qv:Bg Z c d)(D:De Z.K "settles" Cm):B7 Z c d:=okc Bz D HQ bd2 #[";gp#2 mj{gfb0b1ceiQj{ffb2cUX']f!0bj_dfb2cc"]
abbrev G0:=top 107
theorem Lu{c:WY}{d:WZ}(QM:B7 Z c d)(Pt:o8 Z c d)(PH:rX Z c d)(Pc:oj Z c d)(D:De Z.K "taken" G0):GX Z c d:=okc Bz D Lq bd3 #[";gqWEj{hfb0b2cei~wrg~c.i#3 ma*a0gp#4 mzcgMLax1t.i#5 masaeqS~yoKdndC~Mf!35hkl~zo?d54`0gp#6 mj{ifb3b5ceqEj{hfb6b2ce~c.i#3 ma*a6eZNR^~a~b4b5crei~qbC~Mf!3bB.x&--23 `1Aa%aaaaxw~Za~*~+b4c$t.i#1 @`1asa$J$~qb1bj{gfbj{ifb3b1cb2ccc",(by with_unfolding_all rfl),[".0","cell","kinds","now"]]
abbrev AB:=top 150
def Oi{c:WY}{d:WZ}(l:o4 Z)(n:vv Z c)(q:vi Z)(t:fO Z)(r:vw Z c d)(o:vg Z)(u:B6 Z c d)(h:GX Z c d)(j:wl Z c d)(p:iS Z "Puzzle" (d.A .Puzzle) c d){f:Addr}{m:FuncData}(F:Fun Z.K "law" "law" AB f m):FnOk Z.P Z.w Z.K Z.mg Z.base CX0 16 f m ["_law_script"] (J8 Z.K c d):=okf F (by ac_rfl) Oh (λe b a=>(ae (yD (kcal n e (ab (pv 0) ad)) (mr rfl (bA (ar (i:=1) a rfl (Or.inl rfl)) (bA (ar (i:=2) a rfl (Or.inl rfl)) (bA (ar (i:=3) a rfl (Or.inl rfl)) jL)))))
   (ae (kset 4 a (kcal t e (ab (pv 0) (ab ah ad))))
   (ae (kset 5 a (l9 p e #[1] rfl (ab (pv 1) (ab (pv 2) (ab (pv 3) ad)))))
   (ae (kset 6 a (av aJ (kcal q e (ab (pv 0) (ab ah ad))) (aI (ab aM ad))))
   (ae (cE (i:=7) a rfl (Or.inr rfl) (kcal l e (ab (pv 0) (ab ah (ab (au aD rfl Bz.len_ aN (ab (pv 3) ad)) (ab (au aD rfl Bz.len_ aN (ab (pv 3) ad)) ad))))))
   (ae (aw (ao (ay b) (av bp (pv 4) ah) ah (ak _)) (af (cE (i:=7) a rfl (Or.inr rfl) (fU nP (pv 7) (dU (av bp (av lD (pv 4) ah) (au aD rfl Bz.len_ aN (ab (pv 7) ad)))) h9))) aq)
   (ae (kset 8 a (kcal h e (ab (pv 5) (ab (aV cr rfl Bz.list_ cH (ab (pv 7) ad)) (ab (aV cr rfl Bz.list_ cH (ab (pv 6) ad)) ad)))))
   (ae (aw (Va (cU (ao Dw (pv 8) iT (ak _)) (da (bU (aS (kcal o e (ab (kix b (pv 8) ah) (ab (pv 3) (ab (pv 7) ad))))))))) (af (ai bI)) aq)
   (ae (cE (i:=9) a rfl (Or.inr rfl) (aV cr rfl Bz.list_ cH (ab (kix b (pv 8) ah) ad)))
   (ae (aw (ao (bb b) (kcal u e (ab (bh j e #[1] (pv 5) (ab (pv 9) ad)) (ab ah ad))) (aI (ab (pv 3) ad)) (ak _)) (af (ai bI)) aq)
   (ae (aw (ao (bb b) (aE (ix:=[none,none]) [".0","_law_one"] (az rfl (by decide+kernel) rfl rfl rfl) rfl (ax (kix b (pv 8) ah)) (λcl s H g=>(ar (i:=1) (show([".0","_law_one"]:List Str).Nodup by decide+kernel) rfl (Or.inl rfl))) (λcl s H g=>aP) (λcl s H g=>(kix b (pv 1) ah))) (aE (ix:=[none,none,some 9,some 7]) [".0","_law_k","_law_clues","_law_order"] (az rfl (by decide+kernel) rfl rfl rfl) rfl (d0 rfl Bz.range_ (ab (au aD rfl Bz.len_ aN (ab (pv 3) ad)) ad)) (λcl s H g=>(ar (i:=1) (show([".0","_law_k","_law_clues","_law_order"]:List Str).Nodup by decide+kernel) rfl (Or.inl rfl))) (λcl s H g=>(bc (Va (mq (ao (gE b) (pv 1) (pv 3) (by with_unfolding_all rfl)) (jK (ao cF (kix b (pv 2) (pv 1)) ah (ak _))))))) (λcl s H g=>(pv 1))) (ak _)) (af (ai bI)) aq)
   (ae (bq Td rfl (ax (kix b (pv 8) ah)) (mr rfl (bA (ar (i:=10) a rfl (Or.inl rfl)) (bA (ar (i:=11) a rfl (Or.inl rfl)) jL)))
   (af (aw (Va (cU (ao (bb b) (au aD rfl Bz.len_ aN (ab (pv 11) ad)) (au aD rfl Bz.len_ aN (ab (pv 3) ad)) (ak _)) (da (bU (aS (kcal r e (ab (pv 5) (ab (pv 3) (ab (pv 9) (ab (pv 6) (ab (pv 10) (ab (pv 11) ad)))))))))))) (af (ai bI)) aq)))
   (ae (jN (k:=12) a rfl (Or.inl rfl) rfl (ix:=[none,none,some 7]) [".0","_law_cell","_law_order"] (az rfl (by decide+kernel) rfl rfl rfl) rfl (ax (kcal l e (ab (pv 0) (ab ah (ab (au aD rfl Bz.len_ aN (ab (pv 3) ad)) (ab (au aD rfl Bz.len_ aN (ab (pv 3) ad)) ad)))))) (λcl s H g=>(ar (i:=1) (show([".0","_law_cell","_law_order"]:List Str).Nodup by decide+kernel) rfl (Or.inl rfl))) (λcl s H g=>(bc (ao (gE b) (pv 1) (pv 2) (by with_unfolding_all rfl)))) (λcl s H g=>(pv 1)))
   (ae (kset 13 a (kcal h e (ab (bh j e #[1] (pv 5) (ab (pv 9) ad)) (ab (pv 12) (ab (pv 6) ad)))))
   (af (ai (bD (aC Gn (pv 13) iT (ak _)) (bV (aC (ay b) (kix b (pv 13) ah) (pv 9) (ak _))))))))))))))))))))) (by walk_at "l")
end
variable{l:PySem.W.OpenLaw}
theorem Oj {w:World} {K:Frag} {h:Heap} {mg:Str->Option Value} {fa:Addr} (X:K.In h) (G:h.Ns mainGlobals mg) (cz:mg "law"=↑fa) {x1 x2 x3 x4 x5 x6 x7 x8 y1 af aY bv cj bt bx bd aV ca bf bg bY bQ ch aW bZ bV bz bn aT bm aN aJ aI aM aL:Addr} {ag S B M N T ab R U:Tok}
  (C:ClsP K "Unlike" x1 af) (as:ClsP K "Sum" x2 af) (D:ClsP K "Rising" x3 af) (ae:ClsP K "Seen" x4 af) (O:ClsP K "Count" x5 af) (o:ClsP K "Joined" x6 af) (q:ClsP K "NoSquare" x7 af) (t:ClsP K "Ring" x8 af) (j:ClsP K "Puzzle" y1 aM) (dP:At8 K "name" ↑aY x1 x2 x3 x4 x5 x6 x7 x8) (fN:At8 K "spots" ↑bv x1 x2 x3 x4 x5 x6 x7 x8) (eo:At8 K "number" ↑cj x1 x2 x3 x4 x5 x6 x7 x8) (fI:At8 K "sign" ↑bt x1 x2 x3 x4 x5 x6 x7 x8) (ft:At8 K "line" ↑bx x1 x2 x3 x4 x5 x6 x7 x8) (cS:At8 K "signs_at" ↑bd x1 x2 x3 x4 x5 x6 x7 x8) (aS:At8 K "marked" ↑aV x1 x2 x3 x4 x5 x6 x7 x8) (R0:findIn K (.ref y1) "place"=some ↑ca) (R1:findIn K (.ref y1) "clues"=some ↑bf) (R5:findIn K (.ref y1) "rules"=some ↑bg) (R6:findIn K (.ref y1) "has_clues"=some ↑bY) (R7:findIn K (.ref x1) "holds"=some ↑bQ) (Si:findIn K (.ref x2) "holds"=some ↑ch) (R8:findIn K (.ref x3) "holds"=some ↑aW) (Se:findIn K (.ref x4) "holds"=some ↑bZ) (Sc:findIn K (.ref x5) "holds"=some ↑bV) (R9:findIn K (.ref y1) "lines"=some ↑bz) (Sf:findIn K (.ref x8) "has_two_beside"=some ↑bn) (Sa:findIn K (.ref x6) "is_joined"=some ↑aT) (Sg:findIn K (.ref x8) "is_joined"=some ↑aT) (RU:findIn K (.ref x7) "holds"=some ↑bm) (RX:findIn K (.ref x6) "holds"=some ↑aN) (Sd:findIn K (.ref x8) "holds"=some ↑aJ) (RY:findIn K (.ref y1) "meets"=some ↑aI) (RZ:findIn K (.ref y1) "clued"=some ↑aL) (ak:At8 K "amount" none x1 x2 x3 x4 x5 x6 x7 x8) (ap:At8 K "cells" none x1 x2 x3 x4 x5 x6 x7 x8) (aq:At8 K "floor" none x1 x2 x3 x4 x5 x6 x7 x8) (aA:At8 K "mark" none x1 x2 x3 x4 x5 x6 x7 x8) (ar:At8 K "words" none x1 x2 x3 x4 x5 x6 x7 x8) (ax:findIn K (.ref y1) "floor"=some none) (aw:findIn K (.ref y1) "given"=some none) (aD:findIn K (.ref y1) "laws"=some none) (D0:De K "is_whole" zZ) (D1:De K "many_cells" vx) (D2:De K "spot_of" B8) (D3:De K "square_at" wX) (D4:De K "bit_of" Fh) (D5:De K "stands" Fi) (D6:De K "clashes" B9) (D7:De K "masks_at" z4) (D8:De K "clue_strikes" r8) (D9:De K "are_told_in_order" lz) (eG:De K "with_sign" wY) (eu:De K "place_mores" ua) (eB:De K "with_each" wZ) (es:De K "signs_from" vy) (fo:De K "is_within" w5) (eR:Me K "__init__" "Rule.__init__" qm af) (cx:Me K "name" "Rule.name" w6 aY) (dJ:Me K "spots" "Rule.spots" vz bv) (dz:Me K "number" "Rule.number" ub cj) (dK:Me K "sign" "Rule.sign" w9 bt) (cH:Me K "line" "Rule.line" xc bx) (ds:Me K "signs_at" "Rule.signs_at" qo bd) (aO:Me K "marked" "Rule.marked" uc aV) (eZ:De K "number_in" xf) (cw:Me K "place" "Puzzle.place" sd ca) (eM:Me K "clues" "Puzzle.clues" sf bf) (cE:Me K "rules" "Puzzle.rules" sh bg) (eS:Me K "has_clues" "Puzzle.has_clues" mJ bY) (eW:De K "_law_mixed" vA) (ec:De K "_law_seen" xg) (fK:De K "_law_chain" vC) (cW:De K "_law_stays" vD) (fB:De K "is_from_one_to" pb) (dU:De K "beside" Fs) (dT:De K "is_corner" xh) (eg:De K "full_mask" xi) (eO:De K "without" Ca) (da:De K "signs_in" Aa) (dN:De K "is_cell" Cb) (fr:De K "goes_by" Cd) (et:De K "others" Fv) (dl:De K "many_may" Ab) (ea:De K "ahead_of" Ac) (fw:De K "behind" Fw) (eL:De K "with_each_sign" pc) (cT:De K "cells_to_try" si) (dR:De K "refuse_too_many" nE) (fl:De K "every_filling" qp) (co:De K "signs_to_try" sj) (cu:Me K "holds" "Unlike.holds" sr bQ) (ew:Me K "holds" "Sum.holds" xj ch) (dS:Me K "holds" "Rising.holds" sw aW) (dZ:Me K "holds" "Seen.holds" vF bZ) (ep:Me K "holds" "Count.holds" ud bV) (eT:De K "number_within" qq) (eH:De K "is_filling" vG) (dI:Me K "lines" "Puzzle.lines" sy bz) (fn:De K "_law_cells" vH) (dd:De K "_law_kinds" vI) (dW:De K "floor_of" Ai) (cn:De K "squares" Ce) (eP:De K "reached" Cg) (fb:De K "full" Kn) (ed:De K "has_only" Aj) (eD:De K "struck" Fy) (eh:De K "is_settled" vJ) (eU:De K "ways" Kq) (cv:De K "sign_by" Ch) (dQ:De K "is_sign" Ci) (cG:De K "is_no_greater" qr) (eb:De K "is_no_less" vK) (eJ:De K "pair_strikes" sA) (ej:De K "sum_strikes" ue) (er:De K "around" Fz) (dA:De K "turn_mores" vL) (fy:De K "pair_mores" vM) (em:De K "rule_numbers" sB) (dV:Me K "has_two_beside" "Ring.has_two_beside" jU bn) (fM:De K "first_within" sC) (fi:De K "told_cells" vN) (eF:De K "rule_by" Cj) (fz:De K "checked_clues" qt) (dB:De K "filling_by" vO) (dD:De K "many_only" xk) (ez:De K "only_strikes" sD) (cy:De K "place_strikes" qu) (eE:De K "step_strikes" sE) (eA:De K "rest_of_square" ph) (fs:De K "is_another_with_only" i5) (ey:De K "only_mores" vP) (cF:De K "square_mores" sF) (eN:De K "reach_mores" uf) (bs:Me K "is_joined" "Joined.is_joined" mK aT) (cr:Me K "holds" "NoSquare.holds" pi bm) (dy:De K "cells_of" Aq) (fx:De K "checked_floor" qv) (ee:De K "strikes_by_line" nI) (fJ:De K "count_strikes" qw) (fv:De K "square_strikes" pj) (fL:De K "reach_strikes" qx) (bo:De K "turn_strikes" sG) (aU:De K "mores_to_try" sH) (bq:Me K "holds" "Joined.holds" sI aN) (bp:Me K "holds" "Ring.holds" vR aJ) (cc:De K "read_rule" xn) (bb:De K "ways_strikes" sJ) (bH:De K "strikes_by_region" lB) (bT:De K "read_rules" vS) (ck:Me K "meets" "Puzzle.meets" sK aI) (bk:De K "_law_line" xo) (bi:De K "strikes_by_number" lC) (bK:De K "found_by" Aw) (bJ:Me K "__init__" "Puzzle.__init__" nJ aM) (bX:De K "_law_drawn" vU) (bc:De K "strikes" Ck) (cd:DeD K "answers" Cl) (bU:De K "first_at" Ax) (cb:Me K "clued" "Puzzle.clued" sL aL) (aZ:De K "found_by_rule" qy) (bF:De K "without_clue" sM) (bD:De K "first_found" ug) (cf:De K "next_thought" sN) (bW:De K "think" GZ) (cg:De K "standstill" vV) (cm:De K "_law_rests" vW) (bR:De K "settles" Cm) (bI:De K "taken" G0) (bG:De K "law" AB) (aH:GT0 K "KINDS" gt_KINDS) (Y:GT0 K "LINE_KINDS" jf) (L:GT0 K "NUMBER_KINDS" gB) (J:GT0 K "OF_ALL_CELLS" gz) (P:GT0 K "WITH_NUMBER" ii) (ad:GT0 K "WITH_SIGN" gI) (Sh:GTd0 K "KINDS" gt_KINDS) (u:GD0 w K "RULES_OF_KIND" gd_RULES_OF_KIND) (Sb:nsIn K mainGlobals "FIGURES"=some (some (.str (tx s!"0123456789") ag))) (RI:nsIn K mainGlobals "MOST_CELLS"=some (some (.int 16 S))) (Ry:nsIn K mainGlobals "MOST_FIGURES"=some (some (.int 9 B))) (RF:nsIn K mainGlobals "MOST_FLOORS"=some (some (.int 1024 M))) (RG:nsIn K mainGlobals "MOST_NUMBER"=some (some (.int 99 N))) (RJ:nsIn K mainGlobals "MOST_RULES"=some (some (.int 12 T))) (RV:nsIn K mainGlobals "MOST_SIDE"=some (some (.int 6 ab))) (RL:nsIn K mainGlobals "MOST_SIGNS"=some (some (.int 6 R))) (RW:nsIn K mainGlobals "MOST_WAYS"=some (some (.int 32 U))) (z:Zn K):
  ∃ fd:FuncData,(∀(s:Shared) (v:Value),BindsTo s fd ⟨[v],[]⟩ [("_law_script",v)])/\∀ ai:Heap,K.In ai->ai.Ns mainGlobals mg->FnOk l.prog w K mg ai CX0 16 fa fd ["_law_script"] (Bf K):=by
 obtain⟨f,fd,a,F⟩:=bG.ex;have e:=cz.symm.trans (PySem.W.mg_of X G a);cases e;obtain⟨oc,od,kV,eq,pm,an,Sm,ct,fO,rfl,lk,fP⟩:=F.ex;refine⟨fnOf "law" "law" (bS AB) (bu AB) (aQ AB) .none kV eq pm an Sm ct,λs v=>.of_eq rfl,λai _ _=>?_⟩;let Z:Z5:=⟨l.prog,w,K,mg,ai⟩;have b:Bt3 Z:=Oc X G z;let c:WY:=mkC x1 x2 x3 x4 x5 x6 x7 x8;let d:WZ:=mkD y1;have CC:C8 K x1 x2 x3 x4 x5 x6 x7 x8:=⟨C.cl,as.cl,D.cl,ae.cl,O.cl,o.cl,q.cl,t.cl⟩;have Rb:=b.ns Sb;have Qx:=b.ns RI;have P5:=b.ns Ry;have Qp:=b.ns RF;have Qs:=b.ns RG;have QE:=b.ns RJ;have Qo:=b.ns RV;have Qy:=b.ns RL;have QW:=b.ns RW;have OX:FldK Z.K c "amount":=fk8 CC ak;have O1:FldK Z.K c "cells":=fk8 CC ap;have O9:FldK Z.K c "floor":=fk8 CC aq;have Pg:FldK Z.K c "mark":=fk8 CC aA;have Pj:FldK Z.K c "words":=fk8 CC ar;have O3:FldK Z.K d "floor":=⟨λ_ _=>⟨j.cl,ax⟩⟩;have Pk:FldK Z.K d "given":=⟨λ_ _=>⟨j.cl,aw⟩⟩;have Pd:FldK Z.K d "laws":=⟨λ_ _=>⟨j.cl,aD⟩⟩;have P7:=aH.of b;have QG:=Y.of b;have Qh:=L.of b;have P8:=J.of b;have Qt:=P.of b;have QV:=ad.of b;have ay:=GTd0.of (Z:=Z) Sh b;have PR:=GD0.of (Z:=Z) u b;have Pl:=F8 b D0;have OS:=CL b D1;have PP:=Ih b D2;have QR:=Fg b D3;have P6:=Ki b D4;have OZ:=Kj b D5;have O6:=Ii b D6;have OV:=F9 b D7;have P9:=z5 b D8;have Py:=tW b D9;have Pu:=Fj b eG;have Qq:=Bh b eu;have QO:=Fk b eB;have Qw:=CM b es;have QT:=Fm b fo;have ao:=yp b OX O1 O9 Pg Pj eR;have Rs:aR Z "Unlike" (c.A .Unlike) c:=ao.mke b C;have aP:aR Z "Sum" (c.A .Sum) c:=ao.mke b as;have Rr:aR Z "Rising" (c.A .Rising) c:=ao.mke b D;have RQ:aR Z "Seen" (c.A .Seen) c:=ao.mke b ae;have RB:aR Z "Count" (c.A .Count) c:=ao.mke b O;have Rq:aR Z "Joined" (c.A .Joined) c:=ao.mke b o;have Q5:aR Z "NoSquare" (c.A .NoSquare) c:=ao.mke b q;have RP:aR Z "Ring" (c.A .Ring) c:=ao.mke b t;have dC:=Fn b Pj cx;have RN:Kh Z c:=⟨λi I=>dC.at (c8 CC i) (at8 dP i) λ_ _ _ _ h=>⟨i,h⟩⟩;have eK:=CN b O1 dJ;have O8:l6 Z c:=⟨λi I=>eK.at (c8 CC i) (at8 fN i) λ_ _ _ _ h=>⟨i,h⟩⟩;have ev:=Bi b OX dz;have PC:yo Z c:=⟨λi I=>ev.at (c8 CC i) (at8 eo i) λ_ _ _ _ h=>⟨i,h⟩⟩;have dp:=Fo b Pg dK;have Pi:rZ Z c:=⟨λi I=>dp.at (c8 CC i) (at8 fI i) λ_ _ _ _ h=>⟨i,h⟩⟩;have dM:=Fp b Pj cH;have RO:Kg Z c:=⟨λi I=>dM.at (c8 CC i) (at8 ft i) λ_ _ _ _ h=>⟨i,h⟩⟩;have fp:=yq b O1 ds;have Pa:lj Z c:=⟨λi I=>fp.at (c8 CC i) (at8 cS i) λ_ _ _ _ h=>⟨i,h⟩⟩;have Ro:=fk1 (k:=.Joined) rfl O1;have Rw:=fk1 (k:=.Joined) rfl Pg;have am:=l7 (c:=(mk1 c .Joined)) b Ro Rw aO;have Rz:jJ Z (mk1 c .Joined):=⟨λi I=>by cases rH I;exact am.at o.cl (at8 aS .Joined) λ_ _ _ _ h=>⟨.Joined,h⟩⟩;have RA:=fk1 (k:=.Ring) rfl O1;have RH:=fk1 (k:=.Ring) rfl Pg;have aG:=l7 (c:=(mk1 c .Ring)) b RA RH aO;have RM:jJ Z (mk1 c .Ring):=⟨λi I=>by cases rH I;exact aG.at t.cl (at8 aS .Ring) λ_ _ _ _ h=>⟨.Ring,h⟩⟩;have cq:=l7 b O1 Pg aO;have Pp:jJ Z c:=⟨λi I=>cq.at (c8 CC i) (at8 aS i) λ_ _ _ _ h=>⟨i,h⟩⟩;have QP:=Fq b Rb P5 eZ;have db:=z6 (c:=c) b O3 cw;have OY:im Z c d:=⟨λi I=>by cases i;exact db.at j.cl R0 λ_ _ _ _ h=>h⟩;have el:=z7 (c:=c) b Pk eM;have Pc:oj Z c d:=⟨λi I=>by cases i;exact el.at j.cl R1 λ_ _ _ _ h=>h⟩;have dv:=z8 (c:=c) b Pd cE;have O4:l0 Z c d:=⟨λi I=>by cases i;exact dv.at j.cl R5 λ_ _ _ _ h=>h⟩;have eC:=uq (c:=c) b Pk eS;have QX:wW Z c d:=⟨λi I=>by cases i;exact eC.at j.cl R6 λ_ _ _ _ h=>h⟩;have OU:=CO b eW;have QY:=Fr b ec;have PY:=CP b fK;have QL:=CQ b cW;have O5:=wx b Pl fB;have O7:=Kk b PP dU;have QQ:=Ft b PP dT;have QS:=Fu b P6 eg;have PQ:=Ij b P6 OZ eO;have OR:=Ga b OZ da;have Rg:=Ik b Pl OS dN;have Rc:=Il b RN PR fr;have OT:=Kl b O8 et;have Pf:=Gb b OZ dl;have Q6:=Gc b O8 ea;have Rt:=Km b O8 fw;have PM:=wy b Pu eL;have Qk:=Ad b OS OY O4 O8 cT;have PJ:=vE b Qp Pc OY dR;have P0:=yr b QO fl;have Qg:=Ae b Qw Pc OY co;have cD:=Af b Pa cu;have ek:=Fx b OX Pa ew;have dx:=Ag b Pa dS;have eY:=CS b OX Pa dZ;have cU:=Bj b OX Pp ep;have Ph:=yt b QP eT;have Pr:=CT b Pl OS eH;have eI:=Ah b Pd RO dI;have RD:GY Z c d:=⟨λi I=>by cases i;exact eI.at j.cl R9 λ_ _ _ _ h=>h⟩;have Pm:=CU b OU fn;have QJ:=CV b OU P7 ay dd;have Q7:=Gd b O5 Qx Qo Qy dW;have Po:=Im b QQ OS QR cn;have Pe:=Io b O7 eP;have RT:=MR b QS OS fb;have OW:=Ge b PQ ed;have Ql:=Ko b PQ eD;have Ps:=CW b OR eh;have RS:=MS b OR eU;have Re:=Ip b OR cv;have Rf:=Iq b O5 dQ;have PU:=yu b OR cG;have Qz:=CY b OR eb;have Qb:=Ak b Py OT OR eJ;have Qu:=Bl b O6 OV OT OR PC ej;have Ru:=Kr b O7 er;have QD:=CZ b O7 dA;have QC:=C1 b OT OR O8 fy;have Qm:=Al b Rc O4 em;have QN:=fk1 (k:=.Ring) rfl O9;have aF:=q5 (c:=(mk1 c .Ring)) b O7 QN dV;have Q0:o9 Z (mk1 c .Ring):=⟨λi I=>by cases rH I;exact aF.at t.cl Sf λ_ _ _ _ h=>h⟩;have PD:=Am b Ph fM;have QA:=C5 b OS Ph fi;have Rh:=Ir b RB Rq Q5 RP Rr RQ aP Rs eF;have P1:=yw b Pr fz;have QH:=C6 b Re dB;have Pb:=FA b OW dD;have Qa:=An b OW OT ez;have PV:=yx b Rf Pf OV OT O8 cy;have Qc:=Ao b Q6 Rt PU Qz eE;have PL:=wz b Po eA;have Pq:=pq b OW Rg fs;have QB:=C7 b OW OT ey;have Qd:=Ap b Po cF;have Qr:=Bm b OW OT Pe OZ Pi eN;have Rp:=fk1 (k:=.Joined) rfl O9;have al:=lA (c:=(mk1 c .Joined)) b Pe Rp bs;have Rm:mn Z (mk1 c .Joined):=⟨λi I=>by cases rH I;exact al.at o.cl Sa λ_ _ _ _ h=>⟨.Joined,h⟩⟩;have aE:=lA (c:=(mk1 c .Ring)) b Pe QN bs;have Rx:mn Z (mk1 c .Ring):=⟨λi I=>by cases rH I;exact aE.at t.cl Sg λ_ _ _ _ h=>⟨.Ring,h⟩⟩;have en:=wA b QT Po O9 Pp cr;have Q8:=Gf b OS QA P8 dy;have P3:=yy b Q7 fx;have PK:=vQ b P9 Qa Qb PV Qc Pc OY O4 ee;have PZ:=yz b Pf Pb OV OT PC Pi fJ;have PN:=wB b Pb OV PL Pi fv;have PX:=yA b Pq OT Pe OZ Pi fL;have Qe:=Ar b Ru O7 OW Pf Pb OV Pi bo;have Qi:=As b QB QC Qq Qr Qd QD OY O4 aU;have ac:=At (c:=(mk1 c .Joined)) b Rm Rz bq;have au:=C9 (c:=(mk1 c .Ring)) b Q0 Rx RM bp;have PF:wm Z c:=⟨λi I=>by cases i with | Rule=>exact(SR I).elim | Unlike=>exact cD.at C.cl R7 λ_ _ _ _ h=>h | Sum=>exact ek.at as.cl Si λ_ _ _ _ h=>h | Rising=>exact dx.at D.cl R8 λ_ _ _ _ h=>h | Seen=>exact eY.at ae.cl Se λ_ _ _ _ h=>h | Count=>exact cU.at O.cl Sc λ_ _ _ _ h=>h | Joined=>exact ac.at o.cl RX (λvs H Q E h=>by obtain⟨r,p,f,ws,cs,xs,n,m,h,w,g,e,x,y⟩:=h;exact⟨r,p,f,ws,cs,xs,n,m,h,w,g,e,⟨rfl,x.ex⟩,y⟩) | NoSquare=>exact en.at q.cl RU λ_ _ _ _ h=>h | Ring=>exact au.at t.cl Sd (λvs H Q E h=>by obtain⟨r,p,f,ws,cs,xs,n,m,h,w,g,e,x,y⟩:=h;exact⟨r,p,f,ws,cs,xs,n,m,h,w,g,e,⟨rfl,x.ex⟩,y⟩)⟩;have Pw:=FB b Q8 PD Rh Qs Qt QV cc;have Qf:=Au b O6 OV OT OR RS PM Pu QW PF bb;have PB:=tX b PX PN Qe OY O4 bH;have QF:=Da b Pw QE bT;have br:=Av b Pr O3 Pd QX PF ck;have Qv:Bg Z c d:=⟨λi I=>by cases i;exact br.at j.cl RY λ_ _ _ _ h=>h⟩;have QZ:=FC b Pm PY OU QY Pw PF bk;have Pz:=tY b PZ Qu Qf O4 bi;have Q9:=Gh b P0 PJ Qg Qv bK;have bA:=vT b P1 P3 QF O3 Pk Pd bJ;have Qj:iS Z "Puzzle" (d.A .Puzzle) c d:=bA.mke b j;have QI:=Db b QZ OU bX;have Ri:=Iu b PK Pz PB QG Qh bc;have Rj:=Iv b Q9 OS OY cd;have Ra:=Gi b Qi Ri bU;have ba:=Ay b O3 RD Qj cb;have Px:wl Z c d:=⟨λi I=>by cases i;exact ba.at j.cl RZ λ_ _ _ _ h=>h⟩;have P4:=yB b Qk O6 Ra OR Ql aZ;have PH:=Az b Px Pc bF;have Pn:=Bn b P4 Qm P7 bD;have Qn:=AA b O6 Pn cf;have RE:=Ls b O6 Pn Ql bW;have Pt:=Dc b RT RE OY cg;have QK:=Dd b Ps Qn OZ Px cm;have QM:=Iw b QH Ps Pt Qv bR;have Rn:=Lu b QM Pt PH Pc bI;exact(Oi b Pm QI QJ OU QK QL Rj Rn Px Qj F).imp λvs H Q E h=>by obtain⟨a,ns,e,hS,hn,k⟩:=h;exact⟨a,ns,e,hS,hn,λk hk=>by cases k <;> first | rfl | exact absurd rfl hk,rfl,k⟩
def walk {q:Program} {c:List Str} {r:(Str->Option Value)->Heap->Prop} {j:World->Heap->Prop} {d:DefRec} {K:Params->Frag} (v:l.most=some 63) (g:d.params.defaults=[])
  (o:∀(w:World) (h:Heap),j w h->(K w.params).In h)
  (F:∀(w:World) (e:Str->Option Value) (i:Addr) (h:Heap),(K w.params).In h->h.Ns mainGlobals e->e d.name=↑i->
   ∃ m:FuncData,(∀(s:Shared) (u:Value),BindsTo s m ⟨[u],[]⟩ [("_law_script",u)])/\∀ b:Heap,(K w.params).In b->b.Ns mainGlobals e->FnOk l.prog w (K w.params) e b CX0 16 i m ["_law_script"] (Bf (K w.params))):
  PySem.W.WalkO q c r j l.row.toRowW d [] (λf vs=>PySem.call f vs):=
 L2.LY (n:=63) (k:=16) (x:="_law_script") (CX:=λ_=>CX0) (sp:=λw=>Bf (K w.params)) v #[1] g ⟨rfl,by decide,by decide⟩ o F (λ_ _ a ns p _ t=>⟨a,ns,rfl,t,p,λ_=>rfl⟩) λ_ _ _ _ _ z=>z
variable{P:Program}{w:World}{K:Frag}{mg:Str->Option Value}{base:Heap}
def wC {w:World} {K:Frag} {p:Addr} {ep:Nat} {P:Int} {aq:Tok} {x:Addr} {O:Option Addr} {au:Nat} {q:Array (Option Value)} {c:Tok} {v:Int} {ar:Tok} {s:Addr} {r:Option Addr} {ax:Nat} {C:Array (Option Value)} {d:Tok} {n:Int} {ac:Tok} {z:Addr} {Q:Option Addr} {af:Nat} {N:Array (Option Value)} {k:Tok} {F:Int} {ao:Tok} {m:Addr} {M:Option Addr} {ak:Nat} {E:Array (Option Value)} {j:Tok} {o:Int} {ad:Tok} {Z:Addr} {y:Option Addr} {ab:Nat} {W:Array (Option Value)} {f:Tok} {L:Int} {as:Tok} {I:Addr} {A:Option Addr} {am:Nat} {G:Array (Option Value)} {l:Tok} {D:Int} {ag:Tok} {T:Addr} {H:Option Addr} {ae:Nat} {J:Array (Option Value)} {h g:Tok} {S:Int} {aw:Tok} {B:Addr} {X:Option Addr} {al:Nat} {R:Array (Option Value)} {e:Tok} {t:Int} {ap:Tok} {Y:Addr} {u:Option Addr} {ai:Nat} {U:Array (Option Value)} {i:Tok}
  (a:nsIn K mainGlobals "RULES_OF_KIND"=some ↑p) (b:K.lookup p=some ⟨.type "dict",none,.dict #[⟨P,.str (tx s!"only") aq,.ref x⟩,⟨v,.str (tx s!"place") ar,.ref s⟩,⟨n,.str (tx s!"count") ac,.ref z⟩,⟨F,.str (tx s!"step") ao,.ref m⟩,⟨o,.str (tx s!"sum") ad,.ref Z⟩,⟨L,.str (tx s!"square") as,.ref I⟩,⟨D,.str (tx s!"reach") ag,.ref T⟩,⟨S,.str (tx s!"turn") aw,.ref B⟩,⟨t,.str (tx s!"pair") ap,.ref Y⟩] ep,#[]⟩) (k0:K.lookup x=some ⟨.type "tuple",O,.seq #[.str (tx s!"unlike") c] au,q⟩) (h0:P=hashStr w (tx s!"only")) (k1:K.lookup s=some ⟨.type "tuple",r,.seq #[.str (tx s!"unlike") d] ax,C⟩) (h1:v=hashStr w (tx s!"place")) (k2:K.lookup z=some ⟨.type "tuple",Q,.seq #[.str (tx s!"count") k] af,N⟩) (h2:n=hashStr w (tx s!"count")) (k3:K.lookup m=some ⟨.type "tuple",M,.seq #[.str (tx s!"rising") j] ak,E⟩) (h3:F=hashStr w (tx s!"step")) (k4:K.lookup Z=some ⟨.type "tuple",y,.seq #[.str (tx s!"sum") f] ab,W⟩) (h4:o=hashStr w (tx s!"sum")) (k5:K.lookup I=some ⟨.type "tuple",A,.seq #[.str (tx s!"nosquare") l] am,G⟩) (h5:L=hashStr w (tx s!"square")) (k6:K.lookup T=some ⟨.type "tuple",H,.seq #[.str (tx s!"joined") h,.str (tx s!"ring") g] ae,J⟩) (h6:D=hashStr w (tx s!"reach")) (k7:K.lookup B=some ⟨.type "tuple",X,.seq #[.str (tx s!"ring") e] al,R⟩) (h7:S=hashStr w (tx s!"turn")) (k8:K.lookup Y=some ⟨.type "tuple",u,.seq #[.str (tx s!"unlike") i] ai,U⟩) (h8:t=hashStr w (tx s!"pair")):GD0 w K "RULES_OF_KIND" gd_RULES_OF_KIND:=
 ⟨p,_,_,_,a,b,⟨rfl,rfl,rfl⟩,rfl,(.cons h0 k0 rfl rfl (Tv (aH (TN rfl))) (.cons ⟨_,rfl⟩ .nil) (.cons h1 k1 rfl rfl (Tv (aH (TN rfl))) (.cons ⟨_,rfl⟩ .nil) (.cons h2 k2 rfl rfl (Tv (aH (TN rfl))) (.cons ⟨_,rfl⟩ .nil) (.cons h3 k3 rfl rfl (Tv (aH (TN rfl))) (.cons ⟨_,rfl⟩ .nil) (.cons h4 k4 rfl rfl (Tv (aH (TN rfl))) (.cons ⟨_,rfl⟩ .nil) (.cons h5 k5 rfl rfl (Tv (aH (TN rfl))) (.cons ⟨_,rfl⟩ .nil) (.cons h6 k6 rfl rfl (Tv (aH (TN rfl))) (.cons ⟨_,rfl⟩ (.cons ⟨_,rfl⟩ .nil)) (.cons h7 k7 rfl rfl (Tv (aH (TN rfl))) (.cons ⟨_,rfl⟩ .nil) (.cons h8 k8 rfl rfl (Tv (aH (TN rfl))) (.cons ⟨_,rfl⟩ .nil) .nil))))))))),by decide+kernel⟩
end L2
end
open PySem PySem.W PyProof.Rows
namespace PySem.W.Fast
theorem Z:True:=⟨⟩
section
local macro_rules|`(universe $x*)=>do return Lean.mkNullNode (<-x.mapM fun x=>do return (<-`(theorem $(Lean.mkIdent (.mkSimple s!"tw{x.getId.toString.foldl (fun n c=>n*62+if c<'A' then c.toNat+4 else if c<'a' then c.toNat-65 else c.toNat-71) 0}")):ident:True:=Z)).raw)
universe VlfXwfwgNfs KOZFVNbkywP IyI0tlTrsSL Mh0SUI4auzb LFbM5YHUuqn AJqJcpS6zdk SHTIgWiwHhT AtHvHhBt36e J6Rh0CxtYTX FQGaPbg45J9 I4m4JmuzwAL TEnxO3AswB0 Ru8DNhkHliJ N8Cdf13JBjr NCdJI4INJ0o MYNVm1TjcrV F3wWW8zo4f5 QkVR1qdj7ja Cd0D9seo1oD PhoD2z6e65m AcSxLT7hV5c S1tLE4l8do4 QyHlDBqcZy9 C8rtag5VFKk HJkqNE2omJz C3fme7LQmro EITx6y6qTou VChiotut2Ii HuhlY1wgKQh BU4lFbvkrNS Hkw125GYsLr NTG8QqvGycE GaX6gL8EqFh B0u8arHzUyY BmaEvhnGgpc KU0MJAiswHO Tc2TA9fyp9o CFWZgODOq2g QLnA6v03jnC Q22gX4pXhq2 NJWLmXevSJe EJ7MU915GHQ OqGPwDnwNg2 Bz8hfJzvbEX CaaIB2fzaAM HPoGeXnIeLD FsXYC3c5fru GakPmsDaeRB AfXSYQOowDI R3KsLVtIQmV LVYJgeKhcFv T1kWHHAy5hh EMxAnicO9ut DP3rhfxvFL9 BTFBQghkssc Geu0gW5KN68 QaGFH5157u7 Sb6a1eMkwX3 KziCGbHneUf Usb7HZSpDTk AVVcHsdGXy5 IdbGEFwBCwE PbCXQxjHOxt SYQHd57Sr6M D8Szj9BHuv0 V5gDO5BeVSg OiRrIDDIVu6 A4Y3DURkABW IAN3AjzlZP6 KtgAYz0dvtC CsG2dIyAa3D FA4o79cVokl UrPcQP28WjQ GqYN6niR5fy T3vSEFXO9T8 QFGLtUrrbKp LVxoU167KOd GqE3Ohvhqcr LVJSl5iVG4o SwdTuCQ5Rao PCIxdRR0nmU BApFx0DBg35 JZJGyp3YRDg MY7wO3tKyOB Pg0mJLIibRS AqQOpCqHlP7 C3bJIUZnZUT NUgwSJI4lsR TPJxhZmLHZ2 P0lPwDg3gqo MmKM5ekVs3I GOHxZpOEIU3 QfsiY1h7D4P TJHzzrCtqCa AsZfAePfCza OADrksjmWlQ LXUj5mWIS32 ALGmRJyoolm TvKq2gDc5Cc UNJlYTdfpEx HG00fXM2WEb OquOQcyle0T RDh0McbPwwu HX14LioVKnv ENfNiTy6Aro SIYRsLtQgwQ IHiVQQLLEO7 PaBa05yIiZk LqSkM1ONUXA FdbCOJ0EsKa HPxh7gDXdZC OEDDHY1wuqM Tdo0TYYLPIF O7s6risKXAD TBzPx7VAC3F HnFZtMrdmvQ HBL950c526D VnR5VLHQVrU C5ID5Jqm0v2 VFGRLw4yBxO V5gSKCX6ZtD DQ2uvAjmlny QWjAzuiNG1g JSlq2s4J6gN C2qWobZhSnz ERAuQTmxG9I Ec3Oeq5GHJI QlHeLSqiYvh LiVuV98WGzo R3C46MxV7N7 R2GWNkD5xav ADGJ0STAlxz Q9xXXWWAyHH BhCC0KDWh7X EX0CAVUCkFO Eko3KL5ygMp Q63LJ56LDLL DVX6QBwtRYs RK00AWm01Xs OD15nipHaJ4 GvDe7WMEmnh QrWcgyumTUm S7gZDX3GId9 R61N0RPCIww DylrmXtMM4x RpbXblev6eo G76eAIergCK GMHIgy4JXCn U4xMjjbprb0 TqEowmQ6tlZ EjBQUEAqBoV Ab19knPRdFz SerY0Kd8J48 Pk9JXYzxYP4 Tp6pyS8sADi D2XA0WILKit B0EDmFaZc9U RdsolicGk9v KLl13HH8Uq3 Oay7sCVW95a MC9zsEgOJRn SZprSe5ugAb GE74vXiHfmu RMoAlUXiY5A KJ1FL5KD4IK LYgekKXQiwA LOelhl9D1fg JJMNHT39P9x QMAGOkxBxhA IYvbH357Fta If4OJtZAm2P AORrDY4tDE2 StMvHp4yzu1 QkRUSBpzUWD KWgrYWrCH99 BgTkVyMDnPb Db3qj5ep2Bb EFj7rjI30FN CZ5azOqsMv9 U0jzjxvDlEV Kej3rq9kzXt TQs24dHs86B BP6xyhYbER2 SXuU6mjemQQ J65hXe10Age RahbMmNDUzL Ib3HzAsMDMs BDmqTwYsQIR VHsOpjidULG LvAboINve76 NRthC2URYub ImSyxA9T9Rx S3uRGdho77n DJIGJqqoCbm V2LdAFHlgeL D9maMiQonLV EKJRI0Zml7a PGVwrXonRAC U7YOppHOY5y HpvQ3yol5rO MYx5soD3uaV TRopOYe1waO OsIQ5hdjzRa OiULA9MGMMK FjoZ2BC7SlK JMlQZWmTJ58 UgtetvjdZat GKRSi4uC5ot IlwOpg5OK07 FnMlPbFG8oA OBCJQwawJlJ PiX7OFvYmlG T7YeYwFGyHU Vduy5CY6CTe GmGcSHRHx19 GgIhZSgj8oG Bkzs0QxRgWN Pq339yv8MLv Dj2AspthinZ KnmXq3rHF7B JdvIHaciddl D33xOMOVU2v J9HiBp5AOjG Gvoa7zzQ2lH K2exoVVzyUO MlbReq5ldc2 I6vyiUxbgMh ADRYR7YHkNF GgueeHhYSbs Hr2H4b3kkCr FCoCGK5luRw Umcp9rncopE M7e2WV1HHNX Cqyr5RREptY I1w8JxwOR57 GqLPlTkZnXZ FURalZtfUWc M9tXDXELcTy G7kNXOjULtJ IFttQC0msdH IV4Gh0y7P5W VewFJ9bfbWh PhCRly3up5S JYa3fknGheo DwuJErNq8qR F4gi413PwsH GN3UGXdrOZL M8ZaUS8W3hJ JOU77wLtoRh GV8ESkn4yro DSgGaLK6nEn C2B0dCuDdnm JQhmIkZBUTJ FjVchYWgyAs F0tqXNAtvlj LEBbdVohe6z InYzuOrSjXC M3L32YYj4LZ Mtrdl1CCvLB IoKC0T0mnwf Cm9DESJm1Ty LTzQztcdaBM PTvITDTRGaJ UkuoEcP4CMV IaBxH69gU6F RlWQ8dKenYq FPfc1aTLsyC VwyXYh8G8Cw LcLRTr0gBPa RJrAr5pJ8Tl MVT4nSJEpLP LRUsB2USjos Ad3bH5r7t41 JDfTGwPqwes GTdVNpbaOPS TzJ2zpWAgGd Hdukklsse2H S46gVgZDz5K UuZ3tG9Ylca U1Kjwm9Yjnp TQ1qPOVtqjS FExLsVy7Vvh HLChx8oKXOX NY0b2Vs9RY6 MurDyELuwx0 SfsXOqQMyv5 KMhP7Y1R0m7 Mjbqxvgr0rx QFUM3dQ4aWK SzobsYeUygo TgCLZGmKq7i ABFpr6MwPEF AdsPYCmDIyp VJGdXf4zqZa Pr7DDzsmTvC QnUnNjA5sWk MnmPdhfapSZ SuSAf4YvrUH N1KEAnU3Lh6 CwWeaukZAFk TfSKrycb89y EaluKC8nGX0 KX5F3IH8rF0 MyhfjEmZ36t GjqP2SJJdjC At1n7u1VZmh LM8yGv9POOd HgY7bCH2jgH JwFSbLYBpFW VvjbMyasnxd T6LpP7cmbJk VtmO7GXqpDS EyXfOUNnzwl EM7ya90dVDC Bgjt6coG5T6 HH38IL4IQGP Na7oXhvOmFk CmtENCLV0O5 ND1C32pyJEI QoBuqYwc4sV UkrmCPZg37p Ef5EQcs0OoN CDTxv7cLFwY Mhea8INMZGZ FjKhLENn49e LlQWdKqbYoP U9Pxlr9rSio VSA0HfOJgMd Q4tX0xDsdSn CZv4eL76uVa EV15s3nmUao STFHNxtsBTL A4LfPsvvgyN GnHNXRQjWZJ FcCRntXNzvC N2XuTMs2CSe GoLMvvwYVA2 RiNwUpuMk7X Qv6gln35dkJ TYdYayAI824 ILCULHwCd7d Ls5AZ6Q5RTv GSpncEMFy7P DeB3k7tk5Zk MU1YsY22dTJ H38IN1eHbZg RSzpAIRNeFh KuXcvMaOnho QtrEjIm7in6 NhcZoN1nrZg H5jqzcsiqKT Gdt2bj0HQvs VZa1IYCv7pN CUPM4OrsQqX HmAClqvtLlh HSa7oF8IJSp BTxwosBDwbJ VoW6YgjLmAJ D66WhjUqhDX AROGv5CJ1u9 NzcVBfMCVVw UIjQNViuAMm FJailGZUpId SyTJt3YSxgx E9YNR6eeumK K1gpPBLv0uI TpZaQF4KYzY SVBDRHRbtUG BixXGO3TRCi Tjk0MnoThgQ MIbGahBrN1A C0QVpGyi66K OYCKn1CJMdg N3VNNQpTA31 IXb7XKSgB60 EQxEbAsYDzs RygJMF9jv6b NkrWggJhbKN EsODvxZIbyd LdChaCxq43D Qeamci6sdBA P9M4Ef4gcgc MlT2aP9CKmf EQvAooLI5th SbFIRj2EkU0 H9ckMuM7AaN ENf2IhweMQ0 DhuYotW43Ws MHt1h7H8t0X NAn5U35VyXA OEEHIHsDG44 JZLoOeam6WY IRr99wRYfXn Q1ub1F1uKvs RvCOsBdqdCx ClTaHH1V8xG MLik7pHdx01 TvoXV4TpIUa E2P7iKB4YlU AbiVpMttwGr EmXOKYfylfD OGpn8PyWwRg Vc9Kl5p6gPF BbSstNBIl27 Vk6hSAWLYen CMSjn9j4TgQ PhAYgIHmfkx JMVDYDTSsJJ CCaKYHxnwob MhPj4c2QGem MFmsoCVm6gP BHtytL2Nv6j SpkryfQGmiF LAl7uNpkXC1 UpLj4gTC63W OaVkrmAjL6U PaC2aPjifcw SRTzteasgQp IIQgks3UPA1 DtZM2RDqRNf I3SLEbsqshS BTnleFV6H3l EtBBEIdewSA S5bno5HuYOO Jn9KVSuFxQ9 JHWOQD4RHkO PA04B6Cbe9h DTHswa56AOk K0tw6Yxl4Yu MgFC4eHAK0y QN9aKbyLvzu EHLFSof27UN I03ZmHRcD8Q G8znmAvNdit Vbj2C33l2wI NWmxKUGG2XI FECdjwxjL6H UkmAJnbdpIa SXWUrGXWRqH SMeV9fIOQwn HRrpMVI2FZI KZaa9pWA9LI SIeNJ1Bh1kz PTN9F8Us4Bg NtlUQZ8xw7f T2VF4MkFhEE BCkF34dfWCQ K1RWGS3RZZN TonXQJP6c9J SvXEIhQfjSa D3QrklPjSba VlGDuRIVgWZ DdKNZssmyHO K8x1Rx8UMLT C1ysIwTm7N1 KjZTI7FJvIz NPLRd4xuqNz IgPxUtE4t7M SpDf6TX20pG RANKQLkoDbh O1IATrNl3SI OTmzzy9akNa JYu9qLgfpPE QQv1SJn1FSQ HWE4qhdOjh7 AhfHAHPt5MH E3TPJTLDCvN Iws0n5ANzbu RNgRlNd1Z7k I3qSkpCOWUy Nc2gZJjoeKv GQtM9Evwrsi TB2XIv2kFPt Qqm7CXyHwmQ CsTMPBYMdYt Of6amwWLfuJ NYgWB6aKYGY GNzNrJ5eRcT CGnQijcDuIr SbTksAgiZt8 J37ZQkxgFoa IoQRb4OJ38C Awm9uvcYLAV Pmn9EH1R9UA MX7FSuyUkEY HEx2LPXPZIS GXZcXFMUDUf NrxTRuuozfB BPvPxKDEV8Q HybJkv9uBp1 PmfLmUE15Vk QOO2hR5m1qG MBFU9TuxqfK CqIIh8gJEEp SttY5lUDQJF U9ymYqLlFXS AldwUYK4fbn UwhRKV8gCi7 LFKJn4JSrC5 AXWW9tqLbi1 QFfVcOqoQxj POLSnFuBijC E1hRXii1pOS Q2G9VWElGTf NypwrGE4MjI JG58Pwq5FYZ LWZJLVH2QSa IpzLc7o8Voz MaX3z2NyIpZ H2rR0EjNHbQ KWUMUzABRSs Qu88NLC28Bt UppPXdHctDS Nf5lAsc6QxD GpH90lrAJsp OVLtUISIBKk PXyT0Lt44g5 GbsMUZUzhiP U97pp89AJN4 L9ZQ6yy2R8P ByCWbuQU3by BfMv20OtgTA BmVCYnSivQT DVnjs4F6x5V M7u3VrFdEG7 TXnkZWFYYSm PJRpY0kqoTs MUG48ux2Ogs GmP1sbkBCNE NnFmLg3RpIx B8TnlTqSJ4a HjXDxcA0322 MXkhF8EVypl Dg4ajMbCFbK GLuke9sYCjv Iqfo0s541Ts CPldYrOMLxz FLmDTWyNLK4 Ftl8nIHCHSO RPSe5uTZKsF GFdl1jkCKaz KJK4iagLWv8 C41aZ4Iiwec D2YDswehjRu FpjmHcPtreq FetM7PYWjl6 JLGblYbcm9w JDdxjuaanxJ DLbB7NWb81y BdXk1UYrzUB Ao0N0BDiG8y S7MsEM8FFtx Vy2CmqUr2Rs Smceu0jhHkU Dp9Pt8sDZA7 MItRLWE7PAM LJ1mYK2aMmI Kg6Lh2wtZfr BXR4kt2XbX2 K0L4PrMbo2h CfOcPSxGFgm VQfcMJaQ4QM G7aNBmMfD6N AgkLxCY9cIt HbX77lHRbvU JS0Wiw0DhAO G54foX0ky9W GUlY8UamYeU Tb35z58BRT3 IgmraaLIGAi MtRdYLj8cr5 D1BJEWinLWN SoLucnhltDh AI0Vo4FQNwx ELfCwGRVsHw LgAQzN7dlb1 N38gSBeCKOi FG8cJM1D2UK QZXWxd93FHt BTir6SC0MaC U8OhF1vjI2B PfukEhQdEmL HxAr2mr0IEI F1kxaHPhl2k IfQgR0N46DV HCfSxc0Tu6h QmeRkbTSvtM HelQUkLhj5v UjBZpidgdKV Doi2tZPDTfk Ng9D9X3RCBx MWdfvPby6HD TF04sBnlNYo AmESxEM7Vl3 IMhxHOpSoBF PhnMan0jnIB Hj3H7zOc3FM BkpNXxBKxXw GSqUEHNzxEd GYrxlUHR2h8 PG4HRVInBbd MzyWDxpgK2r ILBf96zlXQ3 EzjfIohwnuf QLxAfC7yFjK Kyd3rSFAOrC J4RRc64tFJu F7t3hNW4UHY QNfCjVE17dB SzL5cIZZUxY Kj5kVeA0n4Q A08pRjWg8Hm JisilrWjaAr S9YtYAKX6Zj Na7Wab9Csaw TL5PSYC75lq BwDgQfqUfBV HtGlJ0504IT Skc9NgD7Bb9 NSMLEMTyrNH B78eqdmeCi2 JszqTW8w1Dk CmRk9jMR55h OmHH2fXz0jN JMkTL3cLk3D VTcvYDGp6ly Dlg7lKWu4Ho J8mad45P0qW C6fRpCQ9bAQ Fzsq6JChdo8 GYSbIU0Wcmn CoqGIT4aRx4 NmBOt6p2gBZ TTEKumXFHzD
end
end PySem.W.Fast
set_option maxRecDepth 100000 in
set_option maxHeartbeats 0 in
theorem PySem.Challenge.cw_cluemaker_k59_whole_none_can_go_holds : PySem.Challenge.rw_cluemaker_k59_whole_none_can_go.Holds := by
  w_on; o_law; k_head; (case hw => w_witness2)
  k_fill
  refine L2.walk (l := PySem.Challenge.rw_cluemaker_k59_whole_none_can_go) rfl rfl (fun w h Y => PySem.W.kIn_of Y) ?F
  case F =>
    intro w mg fa h KX G hmg
    refine' L2.Oj KX G hmg ?_ ?_ ?_ ?_ ?_ ?_ ?_ ?_ ?_ ?_ ?_ ?_ ?_ ?_ ?_ ?_ ?_ ?_ ?_ ?_ ?_ ?_ ?_ ?_ ?_ ?_ ?_ ?_ ?_ ?_ ?_ ?_ ?_ ?_ ?_ ?_ ?_ ?_ ?_ ?_ ?_ ?_ ?_ ?_ ?_ ?_ ?_ ?_ ?_ ?_ ?_ ?_ ?_ ?_ ?_ ?_ ?_ ?_ ?_ ?_ ?_ ?_ ?_ ?_ ?_ ?_ ?_ ?_ ?_ ?_ ?_ ?_ ?_ ?_ ?_ ?_ ?_ ?_ ?_ ?_ ?_ ?_ ?_ ?_ ?_ ?_ ?_ ?_ ?_ ?_ ?_ ?_ ?_ ?_ ?_ ?_ ?_ ?_ ?_ ?_ ?_ ?_ ?_ ?_ ?_ ?_ ?_ ?_ ?_ ?_ ?_ ?_ ?_ ?_ ?_ ?_ ?_ ?_ ?_ ?_ ?_ ?_ ?_ ?_ ?_ ?_ ?_ ?_ ?_ ?_ ?_ ?_ ?_ ?_ ?_ ?_ ?_ ?_ ?_ ?_ ?_ ?_ ?_ ?_ ?_ ?_ ?_ ?_ ?_ ?_ ?_ ?_ ?_ ?_ ?_ ?_ ?_ ?_ ?_ ?_ ?_ ?_ ?_ ?_ ?_ ?_ ?_ ?_ ?_ ?_ ?_ ?_ ?_ ?_ ?_ ?_ ?_ ?_ ?_ ?_ ?_ ?_ ?_ ?_ ?_ ?_ ?_ ?_
    all_goals first
      | (refine' L2.De.of ?a (L2.IO ?l ?c ?k); (case a => k_is); (case l => k_is); (case c => k_is); case k => k_is)
      | (refine' L2.DeD.of ?a (L2.MQ ?l ?c ?k ?d); (case a => k_is); (case l => k_is); (case c => k_is); (case k => k_is); case d => k_is)
      | (refine' L2.Me.of (L2.IO ?l ?c ?k) ?n; (case l => k_is); (case c => k_is); (case k => k_is); case n => k_is)
      | (refine' L2.ClsP.mk ?a ?b ?c ?d ⟨?e, ?f, ?g, ?h⟩; (case a => k_is); (case b => k_is); (case c => k_is); (case d => k_is); (case e => k_is); (case f => k_is); (case g => k_is); case h => k_is)
      | (unfold L2.At8; refine' ⟨?_, ?_, ?_, ?_, ?_, ?_, ?_, ?_⟩ <;> k_is)
      | (refine' L2.GT0.mk' ?a ?b ?x ?y ?c ?d; (case a => k_is); (case b => k_is); (case x => rfl); (case y => rfl); (case c => exact Nat.le_of_lt (L2.aH (by decide))); (case d => repeat' (first | exact .nil | refine' .cons ⟨_, rfl⟩ ?_)))
      | (refine' L2.GTd0.mk' ?a ?b ?z ?x ?y ?c ?d; (case a => k_is); (case b => k_is); (case z => rfl); (case x => rfl); (case y => rfl); (case c => exact Nat.le_of_lt (L2.aH (by decide))); (case d => repeat' (first | exact .nil | refine' .cons ⟨_, rfl⟩ ?_)))
      | (refine' L2.wC ?a ?b ?k0 ?h0 ?k1 ?h1 ?k2 ?h2 ?k3 ?h3 ?k4 ?h4 ?k5 ?h5 ?k6 ?h6 ?k7 ?h7 ?k8 ?h8; (case a => k_is); (case b => k_is); (case k0 => k_is); (case h0 => first | exact rfl | with_unfolding_all rfl); (case k1 => k_is); (case h1 => first | exact rfl | with_unfolding_all rfl); (case k2 => k_is); (case h2 => first | exact rfl | with_unfolding_all rfl); (case k3 => k_is); (case h3 => first | exact rfl | with_unfolding_all rfl); (case k4 => k_is); (case h4 => first | exact rfl | with_unfolding_all rfl); (case k5 => k_is); (case h5 => first | exact rfl | with_unfolding_all rfl); (case k6 => k_is); (case h6 => first | exact rfl | with_unfolding_all rfl); (case k7 => k_is); (case h7 => first | exact rfl | with_unfolding_all rfl); (case k8 => k_is); case h8 => first | exact rfl | with_unfolding_all rfl)
      | (unfold L2.Zn; refine' ⟨?_, ?_, ?_, ?_, ?_, ?_, ?_, ?_, ?_, ?_, ?_, ?_, ?_, ?_, ?_, ?_, ?_, ?_, ?_⟩ <;> (unfold L2.Nn; k_is))
      | (unfold L2.Nn; k_is)
      | k_is
      | skip
