import PyProof.Rows.All
import Wide.All
import OpenK.AllK
import Wide.FinOn
import Lean
import PyProof.EqAt
import PyProof.EqKinds
import PyProof.TupleCall
import PyProof.ZipIter
import PyProof.ConsumeS
import PyProof.StrCalls2
import PyProof.StrWalks
import PyProof.SliceStr2
import PyProof.StrBlock
import PyProof.StrBlockL
import PyProof.ListIndex
import PyProof.StrLawsTight
import PyProof.StrLawsChain
import PyProof.StrLaws
import PyProof.StrLawsFirst
import PyProof.StationsW
import PyProof.ExcClass3
import PyProof.NsDelKeeps
import PyProof.RulesAs
import PyProof.ExcBaseAll.ValueError
import PyProof.ExcArgsOwn
import PyProof.ExcAttrAll.ValueError
import KE.KTryMore
import KE.RegKTryMore
import KE.RegKIsAll
import PyProof.Rows.Range3
import PyProof.Rows.SumGenD
import PyProof.Rows.RuleM_int
import PyProof.EnumMake
import PyProof.EnumFor
import PyProof.EnumStmt
import PyProof.Rows.EnumRows
import KE.KRevIter
import PyProof.ListNew
import PyProof.CollectIter
import PyProof.ListRange
import PyProof.CallStr
import PyProof.StrBlock2
import PyProof.Rows.StrMadeLen
import PyProof.Rows.SetFrom
import PyProof.SetRoads
import PyProof.MeetsStr2
import KE.KRevSl
import PyProof.Conv_int
import PyProof.WalkInts
import PyProof.Rows.SeqMore
import PyProof.DictIter
import PyProof.Rows.SortShell
import PyProof.Rows.SortWalk
import KE.KListMore
import PyProof.AutoSeq1
import PySem.Challenge.RW_cluemaker_k45_what_a_supposing_rests_on
set_option Elab.async false
set_option linter.all false
set_option maxRecDepth 100000
open PySem.W (Frag nsIn findIn fnOf isFn codeIn keepIn)
set_option maxHeartbeats 40000000
namespace O9
section
variable{A B C D E F I J:Type}{G a b c d e f g i:Prop}
theorem ex1{P:A->Prop}(h:∃a,P a)(k:∀a,P a->G):G:=h.elim k
theorem ex2{P:A->B->Prop}(h:∃a b,P a b)(k:∀a b,P a b->G):G:=h.elim fun a h=>ex1 h (k a)
theorem ex3{P:A->B->C->Prop}(h:∃a b c,P a b c)(k:∀a b c,P a b c->G):G:=h.elim fun a h=>ex2 h (k a)
theorem ex4{P:A->B->C->D->Prop}(h:∃a b c d,P a b c d)(k:∀a b c d,P a b c d->G):G:=h.elim fun a h=>ex3 h (k a)
theorem ex5{P:A->B->C->D->E->Prop}(h:∃a b c d e,P a b c d e)(k:∀a b c d e,P a b c d e->G):G:=h.elim fun a h=>ex4 h (k a)
theorem ex6{P:A->B->C->D->E->F->Prop}(h:∃a b c d e f,P a b c d e f)(k:∀a b c d e f,P a b c d e f->G):G:=h.elim fun a h=>ex5 h (k a)
theorem ex7{P:A->B->C->D->E->F->I->Prop}(h:∃a b c d e f g,P a b c d e f g)(k:∀a b c d e f g,P a b c d e f g->G):G:=h.elim fun a h=>ex6 h (k a)
theorem ex8{P:A->B->C->D->E->F->I->J->Prop}(h:∃a b c d e f g i,P a b c d e f g i)(k:∀a b c d e f g i,P a b c d e f g i->G):G:=h.elim fun a h=>ex7 h (k a)
theorem an2(h:a∧b)(k:a->b->G):G:=k h.1 h.2
theorem an3(h:a∧b∧c)(k:a->b->c->G):G:=an2 h.2 (k h.1)
theorem an4(h:a∧b∧c∧d)(k:a->b->c->d->G):G:=an3 h.2 (k h.1)
theorem an5(h:a∧b∧c∧d∧e)(k:a->b->c->d->e->G):G:=an4 h.2 (k h.1)
theorem an6(h:a∧b∧c∧d∧e∧f)(k:a->b->c->d->e->f->G):G:=an5 h.2 (k h.1)
theorem an7(h:a∧b∧c∧d∧e∧f∧g)(k:a->b->c->d->e->f->g->G):G:=an6 h.2 (k h.1)
theorem an8(h:a∧b∧c∧d∧e∧f∧g∧i)(k:a->b->c->d->e->f->g->i->G):G:=an7 h.2 (k h.1)
end
open Lean
abbrev PL:=Array (TSyntax ``Parser.Tactic.rcasesPatLo)
def ob(h:TSyntax `term)(ps:Array Syntax):MacroM Syntax:=do
 let n:=ps.size
 let mut xs:Array (TSyntax `ident):=#[]
 let mut q<-`(tactic|skip)
 for j in [0:n] do
  let r:=ps[n-1-j]![0]
  let p:=r[0][0]
  if p.isOfKind ``Parser.Tactic.rcasesPat.one&&p[0].getId != `rfl then xs:=xs.push ⟨p[0]⟩
  else if p.isOfKind ``Parser.Tactic.rcasesPat.ignore then xs:=xs.push (mkIdent `o0)
  else
   let v:=mkIdent (<-Macro.addMacroScope (.mkSimple s!"e{j}"))
   xs:=xs.push v
   q<-`(tactic|(obtain $(⟨r⟩):rcasesPatMed:=$v:ident;$q))
 xs:=xs.reverse
 let x:=mkIdent `o1
 let mut t<-`(tactic|rcases $h:term with⟨$((ps.map (⟨·⟩):PL)),*⟩)
 let m:=min (n-1) 8
 let mut al:=#[(0,min n 8)]
 for j in [0:m] do al:=al.push (1,m-j)
 for j in [0:min n 8-2] do al:=al.push (0,min n 8-1-j)
 for (s,k) in al.reverse do
  let l:=mkIdent (.mkStr2 "O9" ((if s=1 then "ex" else "an")++toString k))
  let k:=k+s
  let (ys,r)<-if k=n then pure (xs,q) else
   let zs:PL:=(xs.extract (k-1) n).map fun y=>⟨mkNode ``Parser.Tactic.rcasesPatLo #[mkNode ``Parser.Tactic.rcasesPatMed #[mkNullNode #[mkNode ``Parser.Tactic.rcasesPat.one #[y]]],mkNullNode]⟩
   pure ((xs.extract 0 (k-1)).push x,(<-`(tactic|(obtain⟨$zs,*⟩:=$x:ident;$q))))
  t<-`(tactic|first|(refine $l $h ?_;(try clear $h);intro $ys*;$r)|($t:tactic))
 return t
def rn(ps:Array Syntax):MacroM Syntax:=do
 let n:=ps.size-1
 let t:=ps[n]![0]
 unless t.isOfKind ``Parser.Tactic.rcasesPat.tuple do Macro.throwUnsupported
 let mut xs:Array Term:=#[]
 for j in [0:n] do
  let p:=ps[j]![0]
  if p.isOfKind ``Parser.Tactic.rcasesPat.one&&p[0].getId != `rfl then xs:=xs.push ⟨p[0]⟩
  else if p.isOfKind ``Parser.Tactic.rcasesPat.ignore then xs:=xs.push ⟨mkNode ``Parser.Term.hole #[mkAtom "_"]⟩
  else Macro.throwUnsupported
 let x:=mkIdent `o2
 xs:=xs.push x
 `(tactic|(intro $xs*;obtain $(⟨mkNode ``Parser.Tactic.rcasesPatMed #[mkNullNode #[t]]⟩):rcasesPatMed:=$x:ident))
def W9(p:Prop):=p
theorem w9{p9:Prop}(h9:p9):W9 p9=True:=eq_true h9
theorem w8{p9:Prop}(h9:W9 p9):p9:=h9
end O9
section
local macro_rules|`(by%$k $t)=>if k.getTrailing?.any (·.toString=="\n ") then `(by refine @O9.w8 _ ?_;simp (disch:=k_dflt (refine @id _ ?_;($t))) only[↓O9.w9]) else Lean.Macro.throwUnsupported
local macro_rules|`(tactic|obtain⟨$ps,*⟩:=$h:term)=>let p:=ps.getElems.map (·.raw);if p.size<2||p.any (fun q=>q[0][0].getNumArgs != 1||q[1].getNumArgs>0) then Lean.Macro.throwUnsupported else O9.ob h p
local macro_rules|`(tactic|rintro $ps*)=>O9.rn (ps.map (·.raw))
namespace O9
open Lean
abbrev DS:=StateT (List Char) MacroM
def nx:DS Char:=do
 let l<-get
 set l.tail
 return l.head?.getD ' '
def num:DS Nat:=do
 let k<-get
 let r:=k.takeWhile (·.isDigit)
 set (k.drop (r.length+1))
 return r.foldl (fun x d=>10*x+(d.toNat-48)) 0
def hd(tb:List String):DS (Term×Nat):=do
 let c<-nx
 let c<-if "~'{}_".toList.contains c then pure (toString c++toString (<-nx)) else pure (toString c)
 let e:=((tb.find? (·.startsWith c)).getD "").toList.drop c.length
 let n:=String.ofList e.dropLast
 let r:=String.ofList (e.dropLast.drop 1)
 let m:Term:=if n="_" then ⟨mkNode ``Parser.Term.hole #[mkAtom "_"]⟩ else if n.startsWith "." then ⟨mkNode ``Parser.Term.dotIdent #[mkAtom ".",mkIdent r.toName]⟩ else if n.startsWith "%" then quote r else mkIdent n.toName
 return (m,(e.getLast?.getD '0').toNat-48)
def cmp(c:Char):MacroM Term:=do
 let t<-if c='>' then `(fun i j=>decide (j<i)) else if c='<' then `(fun i j=>decide (i<j)) else if c='(' then `(fun i j=>decide (i<=j)) else `(fun i j=>decide (j<=i))
 `($(mkIdent `cCmp) $t)
def ixs:Nat->DS (Array Term)
|0=>return #[]
|n+1=>do
 let c<-nx
 if c=' ' then return #[]
 let x<-if c='-' then `(none) else `(some $(quote (c.toNat-48)))
 return #[x]++(<-ixs n)
def dec(v:Name)(ts:Array Term)(tb:List String):Nat->DS Term
|0=>return mkIdent v
|n+1=>do
 let c<-nx
 if c.isDigit then `($(mkIdent v) $(quote (c.toNat-48)))
 else if c='|' then
  let d<-nx
  `($(mkIdent v) $(quote (d.toNat-87)))
 else if c='#' then return quote (<-num)
 else if c='`' then return ts[(<-nx).toNat-48]!
 else if c='$' then
  let t<-dec v ts tb n
  `(fun cl s H fp=>$t)
 else if c='!' then `(by decide)
 else if c='=' then `([])
 else if c=',' then
  let a<-dec v ts tb n
  let b<-dec v ts tb n
  `($(mkIdent `tCall) $a [] $(mkIdent `E0) $b)
 else if c='%' then `(by decide +kernel)
 else if c='@' then
  let t<-dec v ts tb n
  `(show ($t : List $(mkIdent `Str)).Nodup by decide +kernel)
 else if c='&' then
  let a<-ixs 99
  `([$a,*])
 else if "<>()".toList.contains c then cmp c
 else if c='.' then
  let d<-nx
  let t<-dec v ts tb n
  return ⟨mkNode ``Parser.Term.namedArgument #[mkAtom "(",mkIdent (if d='x' then `ix else .mkSimple (toString d)),mkAtom ":=",t,mkAtom ")"]⟩
 else
  modify (c::·)
  let (h,k)<-hd tb
  if k=0 then return h
  let mut a:=#[]
  for _ in [0:k] do a:=a.push (<-dec v ts tb n).raw
  return ⟨mkNode ``Parser.Term.app #[h,mkNullNode a]⟩
def tbR:List String:="atCons2 btOp3 cK0 dtC1 etNil0 f.int1 gtSeq2 hgName1 icIx0 jtRet1 kc0 ltAsg2 mtTest1 ntIfS3 otNext0 ptCB2 q.str1 rtx1 scEq1 tcAdd0 ud0 vtLst1 wiList2 xtComp5 ykLen0 ztB1 AcNe1 Bfalse0 CcMod0 DaL6 EtBM5 F.bl1 G%list0 HcSub0 ItFor3 JtTrue0 KcIn2 Lc.ok0 Mtrue0 NtDrop1 OtAndV2 PcDiv0 QtOr2 RtNot1 StAnd2 TtTup1 UcU1 VtFldK3 Wbp0 XcMul0 YeF0 ZaM1 *d.ok0 +gCons2 -kIsi0 /.ty1 :kList0 ;cT2 ?cL0 [fi0 ]gSub3 ^cPut0 ~akAll0 ~btMake5 ~cE00 ~dtPart1 ~esFldK4 ~f%floor0 ~g.non0 ~htInG3 ~ic.A1 ~jaV2 ~kkStr0 ~lcShl0 ~mbN3 ~ntSl4 ~onc0 ~p%rules0 ~qgp3 ~rdb1 ~sda1 ~tcS1 ~uge1 ~v%amount0 ~wsComp6 ~xjL0 ~y%str0 ~zfD1 ~AcShr0 ~BtIf3 ~C%spots0 ~Djm2 ~E%sign0 ~Flc2 ~GjW1 ~HgTup3 ~IgNil0 ~JiF0 ~K%cells0 ~L%signs_at0 ~MgJ2 ~N%int0 ~OcQ1 ~PjP1 ~QtOrV2 ~R%place0 ~Slg3 ~TgK1 ~UkLenS1 ~VgM1 ~Wgb1 ~X%number0 ~YjN2 ~ZkSum0 ~*%marked0 ~+jO2 ~-kMin0 ~/cAnd0 ~:jR1 ~;pV0 ~?%mark0 ~[lV1 ~]%tuple0 ~^kAny0 'ajc2 'blW2 'ctUn2 'dko1 'eio1 'fjY0 'gsp0 'hdD1 'ije3 'jmW0 'kmM1 'lni1 'm%words0 'niTup2 'oqR0 'prIsN0 'qgn1 'ruI1 'sfu1 'ttNotV1 'u%bool0 'v%laws0 'w%given0 'xEv4 'ypY0 'zuB1 'AmP1 'BmQ1 'CmO1 'DfQ1 'EmR1 'FA32 'G%is_joined0 'HjZ2 'IiEnum2 'Jkr1 'KoK1 'LwQ5 'Mfh0 'Ndh0 'Og91 'PhE1 'Qte0 'RkK3 'Snj1 'Tno1 'UiStr1 'Vnu1 'WgZ0 'Xl71 'Y.Unlike0 'Z.Sum0 '*.Rising0 '+.Seen0 '-.Count0 '/.Joined0 ':.NoSquare0 ';.Ring0 '?qT2 '[pq1 ']iH0 '^ib0 {ag72 {bw60 {cj42 {dpA1 {enA2 {fmd1 {gjq1 {hl92 {ijs1 {jsW1 {kqV1 {lrInS1 {m%name0 {nyY2 {otIxG3 {pgd_RULES_OF_KIND0 {qra2 {rqX0 {sj93 {tkc3 {urIxL1 {vgN2 {wkO2 {xgq2 {ygO2 {zcOr0 {Agr1 {Bie2 {Cjz1 {Dmf1 {Eig2 {FiP2 {GiQ2 {HnJ1 {I%has_two_beside0 {JiJ2 {K%holds0 {Lfz2 {McRepL0 {NiS1 {Oii2 {Pzd1 {Qij2 {RgQ2 {Sfc1 {TgR2 {Uik2 {Vim2 {WiM2 {XjB2 {Yky2 {ZuN0 {*tnear1 {+jw2 {-li2 {/ku2 {:kd1 {;%clues0 {?wj3 {[kf2 {]ju2 {^kj2 }akh2 }bgU3 }cfH3 }dfF3 }enE3 }fpK3 }gnQ1 }hxg0 }iHr1 }jgX1 }kkQ1 }ldi1 }mjD1 }ngc1 }oEX1 }pck1 }qjQ1 }rE21 }sfv1 }tfR1 }ufS1 }vfT1 }wfU1 }xiu1 }ydC1 }zfV1 }AiV1 }BiW1 }ClX1 }Diy1 }Eiz1 }FiA1 }GiX1 }HE61 }IfW1 }JkMax0 }KfX1 }LfY1 }MiY1 }NiZ1 }OfZ1 }Pi51 }QkI1 }Rly1 }SdZ1 }TkG1 }Ud31 }Vgy1 }Wff3 }XiB3 }Ygu3 }Zgz3 }*rNotN0 }+kA1 }-pM3 }/wu3 }:mw3 };nV3 }?nX3 }[lA3 }]lB3 }^Ff3 _aCv4 _bjG3 _ce63 _djH3 _ei83 _flC3 _gi93 _hgY3 _ilE3 _joN3 _kd.A1 _l.Puzzle0 _mdf3 _ntN3 _ooO3 _plr1 _qtO3 _rtP3 _soP3 _tkC1 _utQ3".splitOn " "
def tbF:List String:="aaa2 brfl0 cae0 dhu0 eag0 faf2 gah1 hhr0 ikix3 jai1 kaj1 l_0 mkcal3 nnd0 oam3 pak4 qav3 rap0 skset3 taq5 uOr.inl1 vau4 way1 xaE4 yaD1 zBz.len_0 Aax0 BaB1 CaI0 DaA0 EaF5 FaG8 GaN1 Haw0 IaP1 Jbj0 KaK0 LPw1 MaY0 Na81 OOg0 Pbw6 QaR4 RbE2 SNY0 Tbn5 Ucm2 VbJ1 WbR1 XaX0 YbG1 ZcV1 *cW0 +b62 -bu0 /Bz.range_0 :dq0 ;dm2 ?On0 [Oo0 ]bx0 ^cp0 ~af81 ~bBz.list_0 ~cdg1 ~dcY0 ~ebH3 ~fdj2 ~gbc5 ~hOr.inr1 ~idk5 ~jde0 ~kBz.isinstance_0 ~lbF0 ~mf65 ~n.ty1 ~odc1 ~ph90 ~qcR1 ~rfg0 ~sdn5 ~tBz.sorted_0 ~ud80 ~vfq1 ~wBz.all_0 ~xjX0 ~yjT2 ~ziE1 ~AKx0 ~BjM3 ~Cfk0 ~DlT0 ~EmN5 ~Fji4 ~GqN0 ~HeK0 ~Igd0 ~JKy0 ~KKz0 ~LmZ3 ~MqO1 ~NKw0 ~OKG0 ~PKH0 ~Qp03 ~RKA0 ~SKv0 ~Tsx2 ~UpS0 ~VmY3 ~WBz.tuple_0 ~Xm80 ~YKB0 ~ZKC0 ~*KN0 ~+Bz.set_0 ~-pT0 ~/mU0 ~:K30 ~;Bz.int_0 ~?wZ0 ~[uG0 ~]Pm0 ~^Pn0 'alU1 'bKI0 'cKD0 'dK00 'eKU0 'fAW2 'gPM0 'hPN0 'imK0 'jKJ0 'kK10 'lKF0 'mwX0 'nLa0 'oKZ0 'pKK0 'qKQ0 'rKL0 's%tuple0 'tKR0 'uhJ0 'vEj2 'wA60 'xyV0 'yow1 'zBz.sum_0 'Axb0 'B%list0 'CKP0 'DsK1 'EBz.any_0 'FBj0 'GK50 'HpO6 'IvT0 'J%int0 'KFu1 'L%bool0 'MBz.bool_0 'NDJ0 'OFJ5 'PRD0 'QQO0 'RQP0 'Sxa0 'TDK3 'UBz.enumerate_0 'Vvm0 'WLc0 'XFw1 'Yxh0 'ZLd0 '*Lo0 '+ou1 '-Bz.min_0 '/wY0 ':A75 ';pj6 '?zE3 '[Lp0 ']K60 '^zR6 {aFA0 {bA43 {cLe0 {dLJ0 {eLq0 {fKS0 {gpW= {hDR3 {iLr0 {jLs0 {kLu0 {lKO0 {mLQ0 {nMp0 {oLf0 {pK40 {qKW0 {rLj0 {sKY0 {tLU0 {uQg0 {vRm0 {wyc0 {xJv1 {ywT4 {zDF0 {ABO0 {BBX_divmod0 {CGh0 {DPySem.F.slot_list_pop0 {EPySem.F.type_list_pop0 {FF70 {GMM0 {HJJ0 {IM70 {JJI4 {KLv0 {LMh0 {MMi0 {NFT1 {OBz.max_0 {PJs0 {QMj0 {RMl0 {SME0 {TMF0 {UK70 {VJx0 {WMP0 {XK_Sum0 {YMO0 {ZM90 {*MX0 {+MN0 {-Mx0 {/M80 {:L60 {;LW0 {?L80 {[L70 {]Mm0 {^MY0 }aLK0 }bLw0 }cL90 }dMn0 }eLL0 }fMa0 }gMy0 }hLM0 }iMZ0 }jLN0 }kLA0 }lLP0 }mLO0 }nK20 }oMQ0 }p%str0 }qBz.str_0 }rjU0 }sP10 }tPySem.F.slot_str_split0 }uPySem.F.type_str_split0 }vFW0 }wLY0 }xMq0 }yMG0 }zMz0 }ANa0 }BG60 }CLk0 }DM00 }ELm0 }FLB0 }GLR0 }HLC0 }ILg0 }JLh0 }KMs0 }LLD0 }MLZ0 }NLS0 }OLF0 }PMc0 }QLE0 }RLi0 }SK80 }TK90 }UMA0 }VMB0 }WMt0 }XMH0 }YL00 }ZL10 }*LT0 }+MI0 }-HQ0 }/L30 }:MC0 };Md0 }?LG0 }[LH0".splitOn " "
def run(s:String)(ts:Array Term):MacroM Term:=do
 let l:=s.toList
 let r:=l.head?==some ':'
 unless (r||(l.head?==some ';')) do Macro.throwUnsupported
 let (t,_)<-(dec (if r then `tVar else `pv) ts (if r then tbR else tbF) 500).run l.tail
 let h:=mkIdent `hr;let u:=mkIdent `hu;let n:=mkIdent `nd;if r then `(by exact $t) else `(fun $h $u $n=>by exact $t)
end O9
local macro_rules|`(tactic|ac_nf)=>`(tactic|dsimp only[$(Lean.mkIdent `L2.start):ident,List.map,List.length_cons,List.length_nil,Nat.reduceAdd,Nat.reduceSub,List.replicate_succ,List.replicate_zero,List.cons_append,List.nil_append])
local macro_rules|`(↑$x)=>`(some (.ref $x))
local macro_rules|`(⇑$x)=>`(some (.int $x))
local macro_rules|`(↥$x)=>`(some (.lst $x))
local macro_rules|`(∅)=>`(List Int)
local macro_rules|`(#[$ts,*])=>let a:=ts.getElems;match a[0]? with|none=>Lean.Macro.throwUnsupported|some e=>match e.raw.isStrLit? with|some s=>O9.run s (a.extract 1 a.size)|none=>match e.raw.isNatLit? with|some 0=>`(by omega)|some 1=>`(by decide)|_=>Lean.Macro.throwUnsupported
namespace L2
open PySem PySem.Spec PyProof.Rows
abbrev NI:=@List.length_map
abbrev NJ:=@List.getElem?_eq_getElem
abbrev NL:=@decide_eq_false
abbrev NM:=@wpAny_bind
abbrev NN:=@List.getElem?_map
abbrev NO:=@decide_eq_true_eq
abbrev NP:=@decide_eq_true
abbrev NQ:=@Heap.get?_push_of_some
abbrev NR:=@List.getElem?_eq_some_iff
abbrev NS:=@Nat.le_trans
abbrev NT:=@wpAny_pure
abbrev NU:=@Nat.le_refl
abbrev NV:=@List.mem_of_getElem?
abbrev NW:=@Bool.false_ne_true
abbrev NX:=@List.length_filter_le
abbrev NY:=@PySem.F.plainAttrs_list
abbrev NZ:=@Bool.false_and
abbrev N0:=@List.length_append
abbrev N1:=@List.size_toArray
abbrev N2:=@Bool.true_and
abbrev N3:=@List.mem_cons_of_mem
abbrev N4:=@List.mem_cons
abbrev N6:=@Heap.lt_size
abbrev N7:=@Heap.get?_push_size
abbrev N8:=@List.mem_range
abbrev N9:=@List.mem_map
abbrev Oa:=@List.mem_singleton
abbrev Ob:=@if_neg
abbrev Oc:=@List.mem_cons_self
abbrev Od:=@List.getElem?_eq_none
abbrev Oe:=@List.all_eq_true
abbrev Of:=@List.mem_filter
abbrev Og:=@PassesOwn.never
abbrev Oh:=@if_pos
abbrev Oi:=@Bool.eq_iff_iff
abbrev Oj:=@List.mem_append
abbrev Ol:=@Nat.lt_of_lt_of_le
abbrev Om:=@Bool.and_eq_true
abbrev On:=@PySem.F.slot_list_append
abbrev Oo:=@PySem.F.type_list_append
abbrev Op:=@Nat.ne_of_lt
abbrev Oq:=@List.length_cons
abbrev Os:=@List.map_cons
abbrev Ot:=@List.getElem_mem
abbrev Ou:=@Nat.le_of_lt
abbrev Ov:=@Array.length_toList
abbrev Ow:=@Int.emod_lt_of_pos
abbrev Ox:=@Nat.zero_le
abbrev Oy:=@of_decide_eq_true
abbrev Oz:=@Int.emod_nonneg
abbrev OA:=@Nat.lt_of_le_of_lt
abbrev OB:=@List.map_append
abbrev OC:=@Array.getElem?_eq_getElem
abbrev OD:=@List.filter_append
abbrev OE:=@List.map_map
abbrev OF:=@Int.toNat_natCast
abbrev OG:=@List.getElem?_append_left
abbrev OH:=@PyProof.Rows.callWith_type1
abbrev OI:=@List.filter_cons
abbrev OJ:=@Nat.lt_succ_of_lt
abbrev OK:=@List.length_range
abbrev OL:=@List.mem_append_right
abbrev OM:=@Array.getElem?_toList
abbrev ON:=@Nat.le_of_ble_eq_true
abbrev OO:=@List.eq_nil_of_length_eq_zero
abbrev OP:=@List.length_take
abbrev OQ:=@List.lookup_cons
abbrev OR:=@Heap.size_push
abbrev OS:=@List.take_of_length_le
abbrev OT:=@List.getElem?_append_right
abbrev OU:=@Int.zero_add
abbrev OV:=@List.range_succ
abbrev OW:=@PySem.mem_of_lookup
abbrev OX:=@List.getElem?_range
abbrev OY:=@wpAny_mono
abbrev OZ:=@wpAny_Call_Name_kw
abbrev O0:=@PySem.W.kia_one
abbrev O1:=@Nat.lt_succ_self
abbrev O2:=@List.take_length
abbrev O3:=@Heap.SameBut.update
abbrev O4:=@wpAny_truthy_bool
abbrev O5:=@List.ext_getElem?
abbrev O6:=@Heap.get?_update_self
abbrev O7:=@List.nodup_cons
abbrev O8:=@List.any_eq_true
abbrev O9:=@Nat.lt_irrefl
abbrev Pa:=@List.map_id'
abbrev Pb:=@Array.getElem?_eq_none
abbrev Pc:=@wpAny_newObj_type
abbrev Pd:=@Option.some.inj
abbrev Pe:=@beq_iff_eq
abbrev Pf:=@List.not_mem_nil
abbrev Pg:=@wpAny_call_entry
abbrev Ph:=@Bool.false_or
abbrev Pi:=@List.mem_of_mem_take
abbrev Pj:=@wpAny_callSpecial?_slot
abbrev Pk:=@List.nodup_append
abbrev Pl:=@decide_eq_false_iff_not
abbrev Pm:=@PySem.F.slot_list_index
abbrev Pn:=@PySem.F.type_list_index
abbrev Po:=@beq_eq_false_iff_ne
abbrev Pp:=@List.filter_eq_self
abbrev Pq:=@Nat.lt_trans
abbrev Pr:=@wpAny_holding
abbrev Ps:=@Nat.le_succ
abbrev Pt:=@Calls.spliced_cons
abbrev Pu:=@List.take_succ
abbrev Px:=@builtinLookup_eq_fast
abbrev Py:=@wpAny_passesOwn
abbrev Pz:=@List.find?_cons
abbrev PB:=@Calls.spliced_nil
abbrev PC:=@List.mem_iff_getElem
abbrev PD:=@List.set_set
abbrev PF:=@List.findIdx_lt_length_of_exists
abbrev PH:=@wpAny_setState_of
abbrev PJ:=@Around.under_plainId
abbrev PK:=@call_meets
abbrev PL:=@Bool.not_true
abbrev PM:=@PySem.F.slot_list_extend
abbrev PN:=@PySem.F.type_list_extend
abbrev PP:=@List.replicate_succ
abbrev PQ:=@wpAny_setEntries_of
abbrev PR:=@PyProof.Rows.callWith_builtin1
abbrev PU:=@wpAny_getItem_str_slice
abbrev PV:=@Int.eq_ofNat_of_zero_le
abbrev PX:=@wpAny_askSetting
abbrev PY:=@Nat.ne_of_gt
abbrev PZ:=@List.all_map
abbrev P0:=@F.called_set
abbrev P1:=@PySem.F.plainAttrs_str
abbrev P2:=@List.foldl_cons
abbrev P3:=@Option.map_some
abbrev P4:=@codeAny_builtin
abbrev P5:=@List.any_cons
abbrev P6:=@wpAny_pyIter_list
abbrev P7:=@List.append_assoc
abbrev P8:=@Bool.not_eq_true'
abbrev P9:=@Int.fdiv_eq_ediv_of_nonneg
abbrev Qa:=@Int.mul_nonneg
abbrev Qb:=@Bool.not_false
abbrev Qc:=@wpAny_setField
abbrev Qd:=@Nat.lt_or_ge
abbrev Qe:=@List.filterMap_cons
abbrev Qf:=@Nat.add_le_add_left
abbrev Qg:=@PySem.F.slot_list_insert
abbrev Qh:=@typeLookup_type
abbrev Qi:=@tupleKind_room_in1
abbrev Qj:=@F.plain_set_update_loop
abbrev Qk:=@List.findIdx?_eq_some_iff_getElem
abbrev Ql:=@List.flatten_cons
abbrev Qm:=@Heap.get?_update_other
abbrev Qn:=@Bool.true_or
abbrev Qo:=@Option.map_eq_some_iff
abbrev Qp:=@List.nodup_nil
abbrev Qq:=@List.pairwise_lt_range
abbrev Qr:=@List.length_eq_one_iff
abbrev Qs:=@fits_of_scanBound
abbrev Qt:=@List.getElem?_toArray
abbrev Qu:=@PySem.F.slot_str_join
abbrev Qv:=@PySem.F.type_str_join
abbrev Qw:=@typeIs_str
abbrev Qx:=@Nat.le_add_right
abbrev Qy:=@Nat.min_eq_right
abbrev Qz:=@Ne.symm
abbrev QA:=@List.all_cons
abbrev QB:=@List.map_take
abbrev QC:=@List.mem_append_left
abbrev QD:=@Nat.mul_le_mul_right
abbrev QE:=@wpAny_execs_nil
abbrev QF:=@List.append_nil
abbrev QG:=@pushCells_keeps
abbrev QH:=@post_val_or_str
abbrev QI:=@Nat.min_eq_left
abbrev QJ:=@PySem.W.plainGet_of
abbrev QK:=@ne_true_of_eq_false
abbrev QL:=@List.map_congr_left
abbrev QM:=@List.flatMap_append
abbrev QN:=@codeAny_mono
abbrev QO:=@PySem.F.slot_int_bit_length
abbrev QP:=@PySem.F.type_int_bit_length
abbrev QQ:=@Calls.Name_function_global
abbrev QR:=@Int.fmod_eq_emod_of_nonneg
abbrev QS:=@PySem.W.callWith_K
abbrev QT:=@or_false
abbrev QU:=@F.args_str_split_2
abbrev QV:=@List.map_replicate
abbrev QW:=@List.mem_replicate
abbrev QX:=@wpAny_fieldsOf
abbrev QY:=@PySem.F.slot_dict_getitem
abbrev QZ:=@List.mem_of_find?_eq_some
abbrev Q0:=@List.mem_or_eq_of_mem_set
abbrev Q5:=@Option.isSome_map
abbrev Q7:=@F.entry_str_split
abbrev Q8:=@wpAny_of_eq
abbrev Q9:=@List.foldl_append
abbrev Ra:=@List.pairwise_map
abbrev Rb:=@Int.mul_pos
abbrev Rc:=@Option.isSome_iff_exists
abbrev Re:=@wpAny_comprehension_free
abbrev Rf:=@List.sublist_append_left
abbrev Rg:=@plainId_quiet
abbrev Rh:=@wpAny_attempt
abbrev Rj:=@List.Perm.eq_of_pairwise
abbrev Rm:=@PySem.F.type_list_insert
abbrev Rn:=@List.length_drop
abbrev Ro:=@List.cons_append
abbrev Rp:=@F.slot_str_split
abbrev Rr:=@F.entry_set_update_loop
abbrev Rs:=@List.length_eq_zero_iff
abbrev Rt:=@wpAny_isInstance
abbrev Ru:=@List.getElem?_set_self
abbrev Rv:=@PyProof.noPylong_small
abbrev Rw:=@PySem.W.cellsFrom_some
abbrev Rx:=@subscriptTail_builtinR
abbrev Ry:=@Calls.callWith_builtin
abbrev Rz:=@Txt.slice_le
abbrev RA:=@List.not_of_lt_findIdx
abbrev RB:=@List.drop_eq_nil_of_le
abbrev RD:=@PySem.F.plainAttrs_int
abbrev RE:=@List.length_nil
abbrev RF:=@List.of_mem_zip
abbrev RG:=@Bool.or_eq_true
abbrev RH:=@List.length_set
abbrev RI:=@Nat.not_lt_zero
abbrev RJ:=@List.length_singleton
abbrev RL:=@PySem.W.methodCall_KW
abbrev RM:=@List.Perm.append_left
abbrev RN:=@sizeLine_eq
abbrev RO:=@isSubtype_type
abbrev RP:=@Paired.length
abbrev RQ:=@wpAny_standAt
abbrev RS:=@Bool.and_self
abbrev RT:=@List.map_drop
abbrev RU:=@wpAny_load
abbrev RV:=@Walks.list
abbrev RW:=@intKind_is
abbrev RY:=@List.map_nil
abbrev RZ:=@if_true
abbrev R0:=@Nat.succ_mul
abbrev R1:=@List.any_map
abbrev Key:=Sum Int Str
def keyIs:Key->Value->Bool
 | .inl k,v=>Value.isInt k v
 | .inr x,v=>Value.isStrOf x v
def keyH(w:World):Key->Int
 | .inl k=>hashInt k
 | .inr x=>hashStr w x
theorem c6:∀{k:Key} {v:Value},keyIs k v=true->(∃ i t,k=Sum.inl i/\v=Value.int i t)\/(∃ x t,k=Sum.inr x/\v=Value.str x t)
 | .inl i,v,h=>by
  obtain⟨t,e⟩:=Value.isInt_shape (k:=i) (v:=v) h;exact .inl ⟨i,t,rfl,e⟩
 | .inr x,v,h=>by
  obtain⟨t,e⟩:=Value.isStrOf_shape (x:=x) (v:=v) h;exact .inr ⟨x,t,rfl,e⟩
def Fr(i:Int)(t:Tok):keyIs (.inl i) (.int i t)=true:=by simp[keyIs,Value.isInt]
def Fs(x:Str)(t:Tok):keyIs (.inr x) (.str x t)=true:=by simp[keyIs,Value.isStrOf]
def IV(a b:Int):decide ((Sum.inl a:Key)=Sum.inl b)=(a==b):=by
 by_cases e:a=b
 . subst e;simp
 . have h:¬ (Sum.inl a:Key)=Sum.inl b:=fun q=>e (Sum.inl.inj q);rw[NL h];exact(Po.mpr e).symm
def IW(a b:Str):decide ((Sum.inr a:Key)=Sum.inr b)=decide (a=b):=by
 by_cases e:a=b
 . subst e;simp
 . have h:¬ (Sum.inr a:Key)=Sum.inr b:=fun q=>e (Sum.inr.inj q);rw[NL h,NL e]
def IX(a:Int)(b:Str):decide ((Sum.inl a:Key)=Sum.inr b)=false:=NL (fun q=>nomatch q)
def IY(a:Str)(b:Int):decide ((Sum.inr a:Key)=Sum.inl b)=false:=NL (fun q=>nomatch q)
def d9(prog:Program)(w:World):PySem.KeyKind prog w Key where
 is:=keyIs
 hash:=keyH w
 inj:=fun v a b ha hb=>by
  rcases c6 ha with ⟨i,t,rfl,rfl⟩ | ⟨x,t,rfl,rfl⟩
  . rcases c6 hb with ⟨j,u,rfl,e⟩ | ⟨y,u,rfl,e⟩
    . injection e with e1 _;rw[e1]
    . exact nomatch e
  . rcases c6 hb with ⟨j,u,rfl,e⟩ | ⟨y,u,rfl,e⟩
    . exact nomatch e
    . injection e with e1 _;rw[e1]
 byValue:=fun k v h=>by
  rcases c6 h with ⟨i,t,rfl,rfl⟩ | ⟨x,t,rfl,rfl⟩ <;> rfl
 pyHash:=fun hv h=>by
  rcases c6 hv with ⟨i,t,rfl,rfl⟩ | ⟨x,t,rfl,rfl⟩
  . exact wpAny_pyHash_int h
  . exact wpAny_pyHash_str h
 eqBool:=fun hu hv h=>by
  rcases c6 hu with ⟨i,t,rfl,rfl⟩ | ⟨x,t,rfl,rfl⟩
  . rcases c6 hv with ⟨j,u,rfl,rfl⟩ | ⟨y,u,rfl,rfl⟩
    . rw[IV] at h;exact wpAny_eqBool_int h
    . rw[IX] at h;exact SeqAt.EqAt.int_str i t y u _ _ _ _ h
  . rcases c6 hv with ⟨j,u,rfl,rfl⟩ | ⟨y,u,rfl,rfl⟩
    . rw[IY] at h;exact SeqAt.EqAt.str_int x t j u _ _ _ _ h
    . rw[IW] at h;exact wpAny_eqBool_str h
 «strs»:=fun k x t v h=>by
  rcases c6 h with ⟨i,u,rfl,e⟩ | ⟨y,u,rfl,e⟩
  . exact nomatch e
  . injection e with e1 _;subst e1;cases v <;> rfl
def C0(prog:Program)(w:World)(i:Int)(t:Tok):(d9 prog w).is (.inl i) (.int i t)=true:=Fr i t
def C2(prog:Program)(w:World)(x:Str)(t:Tok):(d9 prog w).is (.inr x) (.str x t)=true:=Fs x t
inductive V where
 | non | bl (b:Bool) | int (i:Int) | str (x:Str) | byt (b:Array UInt8) | flt (b:UInt64) | ref (a:Addr) | ty (n:String)
 deriving DecidableEq
def RelV:V->Value->Prop
 | .non,u=>u=Value.none
 | .bl b,u=>u=Value.bool b
 | .int i,u=>∃ t,u=Value.int i t
 | .str x,u=>∃ t,u=Value.str x t
 | .byt b,u=>∃ t,u=Value.bytes b t
 | .flt b,u=>∃ t,u=Value.float b t
 | .ref a,u=>u=Value.ref a
 | .ty n,u=>u=Value.type n
abbrev Vals:List V->List Value->Prop:=Paired RelV
def Vals.length{xs:List V}{us:List Value}(r:Vals xs us):xs.length=us.length:=RP r
theorem Vals.get:∀{xs:List V} {us:List Value} {i:Nat} {x:V},Vals xs us->xs[i]? =some x->∃ u,us[i]? =some u/\RelV x u
 | _,_,_,_,.nil,e=>by simp at e
 | _,_,0,_,.cons r _,e=>by simp at e;subst e;exact⟨_,rfl,r⟩
 | _,_,i+1,x,.cons _ t,e=>by
  obtain⟨u,h1,h2⟩:=Vals.get (i:=i) (x:=x) t (by simpa using e);exact⟨u,by simpa using h1,h2⟩
theorem Vals.append:∀{xs ys:List V} {us ws:List Value},Vals xs us->Vals ys ws->Vals (xs++ys) (us++ws)
 | _,_,_,_,.nil,s=>s
 | _,_,_,_,.cons r t,s=>.cons r (Vals.append t s)
theorem Vals.take:∀{xs:List V} {us:List Value} (n:Nat),Vals xs us->Vals (xs.take n) (us.take n)
 | _,_,0,_=>.nil
 | _,_,_+1,.nil=>.nil
 | _,_,n+1,.cons r t=>.cons r (Vals.take n t)
theorem Vals.drop:∀{xs:List V} {us:List Value} (n:Nat),Vals xs us->Vals (xs.drop n) (us.drop n)
 | _,_,0,r=>r
 | _,_,_+1,.nil=>.nil
 | _,_,n+1,.cons _ t=>Vals.drop n t
def RelO:Option V->Option Value->Prop
 | some v,some u=>RelV v u
 | none,none=>True
 | _,_=>False
def KV{κ:Type}:List (κ × V)->List (κ × Value)->Prop:=Paired fun(p:κ × V) (q:κ × Value)=>p.1=q.1/\RelV p.2 q.2
def kV:Key->V
 | .inl i=>.int i
 | .inr x=>.str x
inductive HO where
  | lst (xs:List V)
  | tup (xs:List V)
  | dK (NC:List (Key × V)) | dT (NC:List (List Key × V))
  | set (S:Int->Bool) (n:Nat)
  | ins (C dx:Addr) (fs:List (Str × V))
  | own (x:Addr)
  | xd (fs:List (Str × V))
  | met (f x:Addr)
  | rng (lo hi:Int)
  | frz (o:Obj) (u:HO)
  | tbl (ps:Array Value)
  | ext (φ:Heap->Prop)
abbrev Hp:=Addr->Option HO
def upd(H:Hp)(a:Addr)(o:HO):Hp:=fun b=>if b=a then some o else H b
variable{H:Hp}{a:Addr}{o:HO}
def ao:upd H a o a=some o:=by unfold upd;rw[Oh rfl]
variable{b:Addr}
def ar(h:b≠a):upd H a o b=H b:=by unfold upd;rw[Ob h]
def J4{u:HO}(h:H a=some o)(h':H b=some u)(d:o≠u):a≠b:=by
 intro e;subst e;rw[h] at h';exact d (Pd h')
def aH(h:H a=some o)(h':H b=none):a≠b:=by
 intro e;subst e;rw[h] at h';cases h'
section
variable(P:Program)(w:World)
def ObjOk(H:Hp)(h:Heap)(a:Addr):HO->Prop
 | .lst xs=>xs.length<=sizeLine/\∃(ND:List Value) (n:Nat),Vals xs ND/\h.get? a=some {cls:=.type "list",data:=.seq ND.toArray n}
 | .tup xs=>xs.length<=sizeLine/\∃ ND:List Value,Vals xs ND/\IsTup h a ND.toArray
 | .dK NC=>NC.length<=sizeLine/\(a==sysModules)=false/\∃ vs,KV NC vs/\h.DictOf (d9 P w) a vs
 | .dT NC=>NC.length<=sizeLine/\(a==sysModules)=false/\∃ xs:List (List Key × Addr × Value),
   Paired (fun(p:List Key × V) (q:List Key × Addr × Value)=>p.1=q.1/\H q.2.1=some (.tup (p.1.map kV))/\RelV p.2 q.2.2) NC xs/\
   ∃ o es ep,h.get? a=some o/\o.ExactDict/\o.data=.dict es ep/\es.toList=xs.map (entryOfKey (tupleKind (d9 P w)))/\(xs.map (·.1)).Nodup
 | .set S n=>h.SetOf (intKind P w) a S n
 | .ins C dx fs=>H dx=some (.own a)/\fs.length<=1000/\dx≠a/\h.get? a=some (PySem.W.instObj C dx)/\
   ∃ mA,h.Ns1 dx mA/\(∀ f,RelO (fs.lookup f) (mA f))/\PySem.Within mA (fs.map (·.1))
 | .own _=>∃ o,h.get? a=some o
 | .xd fs=>∃ mA,h.Ns1 a mA/\∀ f,RelO (fs.lookup f) (mA f)
 | .rng lo hi=>∃ t u v,h.get? a=some {cls:=.type "range",data:=.fields #[.int lo t,.int hi u,.int 1 v]}
 | .frz o u=>h.get? a=some o/\ObjOk H h a u
 | .tbl ps=>h.get? a=some {cls:=.none,data:=.fields ps}
 | .met f x=>h.get? a=some (PySem.W.methodObj (.ref f) (.ref x))
 | .ext φ=>φ h/\(∃ o,h.get? a=some o)/\∀ h1 h2:Heap,φ h1->(∀ o,h1.get? a=some o->h2.get? a=some o)->φ h2
def HOk(H:Hp)(h:Heap):Prop:=∀ a o,H a=some o->ObjOk P w H h a o
end
section
variable{P:Program}{w:World}{H H':Hp}{h h':Heap}{a:Addr}{o:HO}
theorem ObjOk.lt(x:ObjOk P w H h a o):a<h.objs.size:=by
 cases o with
 | lst xs=>obtain⟨_,_,_,_,e⟩:=x;exact N6 e
 | tup xs=>obtain⟨_,_,_,p⟩:=x;exact p.lt
 | dK NC=>obtain⟨_,_,_,_,o,_,_,e,_⟩:=x;exact N6 e
 | dT NC=>obtain⟨_,_,_,_,o,_,_,e,_⟩:=x;exact N6 e
 | set S n=>obtain⟨o,_,_,_,e,_⟩:=x;exact N6 e
 | ins C dx fs=>obtain⟨_,_,_,e,_⟩:=x;exact N6 e
 | own y=>obtain⟨_,e⟩:=x;exact N6 e
 | xd fs=>obtain⟨_,⟨_,_,_,e,_⟩,_⟩:=x;exact N6 e
 | rng lo hi=>obtain⟨_,_,_,e⟩:=x;exact N6 e
 | frz ob u=>obtain⟨e,_⟩:=x;exact N6 e
 | tbl ps=>exact N6 (show h.get? a=some _ from x)
 | met f y=>exact N6 (show h.get? a=some _ from x)
 | ext φ=>obtain⟨_,⟨_,e⟩,_⟩:=x;exact N6 e
theorem Paired.mapP{α β:Type}{F G:α->β->Prop}:∀{l₁:List α} {l₂:List β},Paired F l₁ l₂->(∀ a b,F a b->G a b)->Paired G l₁ l₂
 | _,_,.nil,_=>.nil
 | _,_,.cons r t,f=>.cons (f _ _ r) (Paired.mapP t f)
theorem ObjOk.stay (x:ObjOk P w H h a o) (k:∀ b u,(b=a\/H b=some (.own a))->h.get? b=some u->h'.get? b=some u)
  (ho:∀ b,H b=some (.own a)->H' b=some (.own a)) (ht:∀ b xs,H b=some (.tup xs)->H' b=some (.tup xs)):ObjOk P w H' h' a o:=by
 induction o with
 | lst xs=>obtain⟨z,ND,n,r,e⟩:=x;exact⟨z,ND,n,r,k _ _ (.inl rfl) e⟩
 | tup xs=>obtain⟨z,ND,r,ob,e,c⟩:=x;exact⟨z,ND,r,ob,k _ _ (.inl rfl) e,c⟩
 | dK NC=>obtain⟨z,y,vs,r,ob,es,ep,e,c⟩:=x;exact⟨z,y,vs,r,ob,es,ep,k _ _ (.inl rfl) e,c⟩
 | dT NC=>
  obtain⟨z,y,xs,r,ob,es,ep,e,c⟩:=x;exact⟨z,y,xs,Paired.mapP r fun p q z=>⟨z.1,ht _ _ z.2.1,z.2.2⟩,ob,es,ep,k _ _ (.inl rfl) e,c⟩
 | set S n=>obtain⟨ob,es,ep,t,e,c⟩:=x;exact⟨ob,es,ep,t,k _ _ (.inl rfl) e,c⟩
 | ins C dx fs=>
  obtain⟨d,z,ne,e,mA,⟨od,es,ep,e2,c⟩,r⟩:=x;exact⟨ho _ d,z,ne,k _ _ (.inl rfl) e,mA,⟨od,es,ep,k _ _ (.inr d) e2,c⟩,r⟩
 | own y=>obtain⟨ob,e⟩:=x;exact⟨ob,k _ _ (.inl rfl) e⟩
 | xd fs=>obtain⟨mA,⟨od,es,ep,e,c⟩,r⟩:=x;exact⟨mA,⟨od,es,ep,k _ _ (.inl rfl) e,c⟩,r⟩
 | rng lo hi=>obtain⟨t,u,v,e⟩:=x;exact⟨t,u,v,k _ _ (.inl rfl) e⟩
 | frz ob u ih=>obtain⟨e,q⟩:=x;exact⟨k _ _ (.inl rfl) e,ih q⟩
 | tbl ps=>
  have e:h.get? a=some {cls:=.none,data:=.fields ps}:=x;show h'.get? a=some {cls:=.none,data:=.fields ps};exact k a _ (.inl rfl) e
 | met f y=>
  have e:h.get? a=some (PySem.W.methodObj (.ref f) (.ref y)):=x;show h'.get? a=some (PySem.W.methodObj (.ref f) (.ref y));exact k a _ (.inl rfl) e
 | ext φ=>obtain⟨p,⟨o,e⟩,st⟩:=x;exact⟨st _ _ p fun o q=>k _ _ (.inl rfl) q,⟨o,k _ _ (.inl rfl) e⟩,st⟩
def HOk.lt(x:HOk P w H h)(e:H a=some o):a<h.objs.size:=(x a o e).lt
theorem HOk.fresh(x:HOk P w H h)(e:h.objs.size<=a):H a=none:=by
 cases q:H a with
 | none=>rfl
 | some u=>exact absurd (Ol (x.lt q) e) (O9 _)
def HOk.kept(x:HOk P w H h)(k:∀ b u,h.get? b=some u->h'.get? b=some u):HOk P w H h':=fun a o e=>
 (x a o e).stay (fun b u _ q=>k b u q) (fun _ q=>q) fun _ _ q=>q
def HOk.laid(x:HOk P w H h)(k:∀ b u,h.get? b=some u->h'.get? b=some u)(hp:h.objs.size<=a)(new:ObjOk P w (upd H a o) h' a o):HOk P w (upd H a o) h':=fun b u e=>by
 have hn:=x.fresh hp;by_cases hb:b=a
 . subst hb;rw[ao] at e;cases e;exact new
 . rw[ar hb] at e;exact(x b u e).stay (fun c v _ q=>k c v q) (fun c q=>by rw[ar (aH q hn)];exact q) fun c xs q=>by rw[ar (aH q hn)];exact q
end
def Rd(H:Hp)(a:Addr)(u:HO):Prop:=H a=some u\/∃ o,H a=some (.frz o u)
variable{h:Heap}
def Rd.ok{P:Program}{w:World}{u:HO}(r:Rd H a u)(x:HOk P w H h):ObjOk P w H h a u:=by
 rcases r with r | ⟨o,r⟩
 . exact x a u r
 . obtain⟨_,q⟩:=x a _ r;exact q
def Mut:Option HO->Prop
 | ↥_=>True
 | some (.dK _)=>True
 | some (.dT _)=>True
 | some (.set _ _)=>True
 | some (.ins _ _ _)=>True
 | some (.ext _)=>True
 | _=>False
section
variable{P:Program}{w:World}{H:Hp}{h h':Heap}{x e:Addr}{o':HO}
def HOk.write (ok:HOk P w H h) (mu:Mut (H x)) (he:e=x\/H e=some (.own x)) (k:∀ b u,b≠e->h.get? b=some u->h'.get? b=some u) (heo:∃ u,h'.get? e=some u)
  (new:ObjOk P w (upd H x o') h' x o'):HOk P w (upd H x o') h':=fun b u q=>by
 have nown:∀ c y,H c=some (.own y)->c≠x:=fun c y r z=>by subst z;rw[r] at mu;exact mu
 have ntup:∀ c xs,H c=some (.tup xs)->c≠x:=fun c xs r z=>by subst z;rw[r] at mu;exact mu
 by_cases hb:b=x
 . subst hb;rw[ao] at q;cases q;exact new
 . rw[ar hb] at q;by_cases hbe:b=e
   . have q':H b=some (.own x):=by
      rcases he with z | z
      . exact absurd (hbe.trans z) hb
      . rw[hbe];exact z
     rw[q] at q';cases q';obtain⟨v,hv⟩:=heo;exact⟨v,by rw[hbe];exact hv⟩
   . refine(ok b u q).stay (fun c v hc r=>k c v ?_ r) (fun c r=>by rw[ar (nown c b r)];exact r) fun c xs r=>by rw[ar (ntup c xs r)];exact r
     rcases hc with rfl | hc
     . exact hbe
     . rintro rfl;rcases he with z | z
       . exact nown c b hc z
       . rw[hc] at z;cases z;exact hb rfl
end
structure Un(fs ex:List Addr)(H H':Hp)(h h':Heap):Prop where
 keep:∀ b o,h.get? b=some o->H b=none->b∉fs->b∉ex->h'.get? b=some o
 slot:∀ b o,h.get? b=some o->H b=none->b∈fs->b∉ex->∃ sl,h'.get? b=some {o with slots:=sl}
 free:∀ b o,h.get? b=some o->H b=none->b∉ex->H' b=none
 there:∀ b o,h.get? b=some o->b∉ex->∃ o',h'.get? b=some o'
 tups:∀ b xs,H b=some (.tup xs)->H' b=some (.tup xs)
 frzs:∀ b o u,H b=some (.frz o u)->H' b=some (.frz o u)
 tbls:∀ b ps,H b=some (.tbl ps)->∃ more,H' b=some (.tbl (ps++more))
section
variable{fs fs' ex ex':List Addr}{H H1 H2:Hp}{h h1 h2 h':Heap}{a x e:Addr}{o:HO}
def Un.any(u:Un fs ex H H1 h h1){b:Addr}{ob:Obj}(q:h.get? b=some ob)(n:H b=none)(hx:b∉ex):∃ sl,h1.get? b=some {ob with slots:=sl}:=by
 by_cases hb:b∈fs
 . exact u.slot b ob q n hb hx
 . exact⟨ob.slots,u.keep b ob q n hb hx⟩
def Un.kept(k:∀ b u,h.get? b=some u->h'.get? b=some u):Un fs ex H H h h':=
 ⟨fun b ob q _ _ _=>k b ob q,fun b ob q _ _ _=>⟨ob.slots,k b ob q⟩,fun _ _ _ n _=>n,fun b ob q _=>⟨ob,k b ob q⟩,fun _ _ q=>q,fun _ _ _ q=>q,fun _ ps q=>⟨#[],by rw[q];simp⟩⟩
def Un.refl:Un fs ex H H h h:=Un.kept fun _ _ q=>q
def Un.laid(k:∀ b u,h.get? b=some u->h'.get? b=some u)(hp:h.objs.size<=a)(hn:H a=none):Un fs ex H (upd H a o) h h' where
 keep:=fun b u q _ _ _=>k b u q
 slot:=fun b u q _ _ _=>⟨u.slots,k b u q⟩
 free:=fun b u q n _=>by rw[ar (Op (Ol (N6 q) hp))];exact n
 there:=fun b u q _=>⟨u,k b u q⟩
 tups:=fun b xs q=>by rw[ar (aH q hn)];exact q
 frzs:=fun b u xs q=>by rw[ar (aH q hn)];exact q
 tbls:=fun b ps q=>⟨#[],by rw[ar (aH q hn),q];simp⟩
def Un.write(mu:Mut (H x))(he:e=x\/H e=some (.own x))(k:∀ b u,b≠e->h.get? b=some u->h'.get? b=some u)(heo:∃ u,h'.get? e=some u):Un fs ex H (upd H x o) h h':=by
 have hx:∀ b,H b=none->b≠x:=fun b n z=>by subst z;rw[n] at mu;exact mu
 have hb:∀ b,H b=none->b≠e:=fun b n z=>by
  subst z;rcases he with r | r
  . exact hx b n r
  . rw[n] at r;cases r
 have hm:∀ b u,H b=some u->¬ Mut (some u)->b≠x:=fun b u q nm z=>by subst z;rw[q] at mu;exact nm mu
 refine⟨fun b u q n _ _=>k b u (hb b n) q,fun b u q n _ _=>⟨u.slots,k b u (hb b n) q⟩,fun b u q n _=>by rw[ar (hx b n)];exact n,fun b u q _=>?_,
  fun b xs q=>by rw[ar (hm b _ q fun z=>z)];exact q,fun b u xs q=>by rw[ar (hm b _ q fun z=>z)];exact q,fun b ps q=>⟨#[],by rw[ar (hm b _ q fun z=>z),q];simp⟩⟩
 by_cases hbe:b=e
 . subst hbe;exact heo
 . exact⟨u,k b u hbe q⟩
end
def trk(h:Heap)(H:Hp):List Addr:=(List.range h.objs.size).filter fun a=>(H a).isSome
def hidT(h:Heap)(H:Hp):Heap:=PySem.W.hideAll h (trk h H)
def Ft(h:Heap)(H:Hp):(hidT h H).objs.size=h.objs.size:=PySem.W.hideAll_size _ _
def GV{o:Obj}(e:h.get? b=some o)(n:H b=none):(hidT h H).get? b=some o:=
 PySem.W.hideAll_get _ e fun hm=>by
  have q:(H b).isSome=true:=(Of.mp hm).2;rw[n] at q;simp at q
theorem HN{o:Obj}(e:(hidT h H).get? b=some o):h.get? b=some o/\H b=none:=by
 have e':h.get? b=some o:=PySem.W.of_hideAll (trk h H) e;refine⟨e',?_⟩
 cases q:H b with
 | none=>rfl
 | some x=>
  have hm:b∈trk h H:=Of.mpr ⟨N8.mpr (N6 e'),by simp[q]⟩;have z:(hidT h H).get? b=none:=PySem.W.hideAll_none (trk h H) hm;rw[z] at e;cases e
structure Mod(K:Frag)(mg:Str->Option Value)(base:Heap):Prop where
 kin:K.In base
 glob:base.Ns mainGlobals mg
 blt:∃ mb,base.Ns builtinsNs mb/\∀ x:Str,x≠"__name__"->mb x=bootBuiltins x
 nolimit:base.NoLimit
structure Cx where
 prog:Program
 w:World
 K:Frag
 mg:Str->Option Value
 base:Heap
 A:Around
 N:List Str
 s₀:Shared
 H₀:Hp
 env:Env
 outer:List Env
 stack:List Env
 ex:List Addr
 fn:Str->Bool
 calm:Bool
 pn:List (Addr × Obj)
 xe:Value->Shared->Prop
def frs(l:List Env):List Addr:=l.filterMap (·.frame)
abbrev Cx.fs(X:Cx):List Addr:=frs X.outer
def Vis(sc:Scope)(x:Str):Prop:=sc.names.lookup x=some .local\/sc.names.lookup x=some .cell\/sc.names.lookup x=some .free
def Loc(sc:Scope)(x:Str):Prop:=sc.names.lookup x=some .local\/sc.names.lookup x=some .cell
def Look(env:Env)(h:Heap)(m:Str->Option Value)(x:Str)(u:Value):Prop:=
 (env.kindOf x=some .local/\m x=some u)\/((env.kindOf x=some .cell\/env.kindOf x=some .free)/\∃ c,env.cells.lookup x=some c/\h.IsCell c (some u))
structure Cx.Ok(X:Cx):Prop where
 mod:Mod X.K X.mg X.base
 kind:X.env.scope.kind=.function
 glob:X.env.globals=mainGlobals
 blt:X.env.builtins=builtinsNs
 above:X.s₀.heap.objs.size<=X.env.locals
 inj:∀ x y c,X.env.cells.lookup x=some c->X.env.cells.lookup y=some c->x=y
 has:∀ x,(X.env.kindOf x=some .cell\/X.env.kindOf x=some .free)->∃ c,X.env.cells.lookup x=some c
 cab:∀ x c,X.fn x=true->X.env.cells.lookup x=some c->X.s₀.heap.objs.size<=c
 hd:X.calm=true->X.A.handled=none
 frames:X.A.frames=some X.stack
 stk:X.stack=X.outer\/(X.stack=X.env::X.outer/\X.env.frame=some X.env.locals)
 exf:∀ b∈X.ex,b≠X.env.locals/\∀ x c,X.env.cells.lookup x=some c->c≠b
 bs:∀ b o,X.base.get? b=some o->X.s₀.heap.get? b=some o/\X.H₀ b=none
 bsz:X.base.objs.size<=X.s₀.heap.objs.size
 noex:∀ b o,X.base.get? b=some o->b∉X.ex
 exfs:∀ b∈X.ex,b∉X.fs
 funs:X.s₀.heap.FunFrames X.base X.outer
 frf:∀ b∈X.fs,X.H₀ b=none
structure Inv(X:Cx)(Nz:List (Addr × Obj))(σ:List (Option V))(H:Hp)(s:Shared):Prop where
 ok:X.Ok
 os:s.os=X.s₀.os
 bare:AllBare s.gens
 base:Un X.fs X.ex X.H₀ H X.s₀.heap s.heap
 loc:∃ m,s.heap.Ns X.env.locals m/\∀(i:Nat) (x:Str) (v:V),X.N[i]? =some x->σ[i]? =some (some v)->Vis X.env.scope x->∃ u,RelV v u/\Look X.env s.heap m x u
 cell:∀ x c,X.env.cells.lookup x=some c->∃ v,s.heap.IsCell c v
 free:H X.env.locals=none
 freeC:∀ x c,X.env.cells.lookup x=some c->H c=none
 pin:∀ p∈X.pn++Nz,s.heap.get? p.1=some p.2/\H p.1=none/\p.1≠X.env.locals/\p.1∉X.fs/\∀ v,p.2.data≠.cell v
 hok:HOk X.prog X.w H s.heap
 len:σ.length=X.N.length
section
variable{X:Cx}{Nz:List (Addr × Obj)}{σ:List (Option V)}{H H':Hp}{s:Shared}{h':Heap}
def Cx.Ok.nofr(ok:X.Ok){b:Addr}{o:Obj}(e:X.base.get? b=some o):b∉X.fs:=fun hb=>by
 have:=(ok.funs.mem hb).1;rw[e] at this;cases this
def Inv.bs(I:Inv X Nz σ H s):∀ b o,X.base.get? b=some o->s.heap.get? b=some o/\H b=none:=fun b o e=>
 ⟨I.base.keep b o (I.ok.bs b o e).1 (I.ok.bs b o e).2 (I.ok.nofr e) (I.ok.noex b o e),I.base.free b o (I.ok.bs b o e).1 (I.ok.bs b o e).2 (I.ok.noex b o e)⟩
def Inv.bk(I:Inv X Nz σ H s):∀ b o,X.base.get? b=some o->s.heap.get? b=some o:=fun b o e=>(I.bs b o e).1
def Inv.mod(I:Inv X Nz σ H s):Mod X.K X.mg X.base:=I.ok.mod
def Inv.kIn(I:Inv X Nz σ H s):X.K.In s.heap:=I.ok.mod.kin.keeps I.bk
def Inv.lt(I:Inv X Nz σ H s):X.env.locals<s.heap.objs.size:=let ⟨_,hn,_⟩:=I.loc;hn.lt
def Inv.sz(I:Inv X Nz σ H s):X.s₀.heap.objs.size<=s.heap.objs.size:=NS I.ok.above (Ou I.lt)
def Inv.nofs(I:Inv X Nz σ H s){a:Addr}(h:s.heap.objs.size<=a):a∉X.fs:=fun hb=>by
 obtain⟨_,o,ho,_⟩:=I.ok.funs.mem hb;exact absurd (Ol (N6 ho) (NS I.sz h)) (O9 _)
def Inv.cne(I:Inv X Nz σ H s):∀ x c,X.env.cells.lookup x=some c->c≠X.env.locals:=fun x c e z=>by
 obtain⟨v,o,ho,hd⟩:=I.cell x c e;obtain⟨m,⟨o',es,ep,ho',hd',_⟩,_⟩:=I.loc;rw[z,ho'] at ho;cases ho;rw[hd'] at hd;cases hd
def Inv.funs(I:Inv X Nz σ H s):s.heap.FunFrames X.base X.outer:=by
 have all:∀(l:List Env),(∀ b∈frs l,b∈X.fs)->X.s₀.heap.FunFrames X.base l->s.heap.FunFrames X.base l:=by
  intro l
  induction l with
  | nil=>intro _ _;trivial
  | cons env r ih=>
   intro hs hl;obtain⟨hk,⟨L,o,hf,hn,ho,hd⟩,hr⟩:=hl;have hL:L∈X.fs:=hs L (by unfold frs;rw[Qe,hf];exact Oc);obtain⟨sl,e⟩:=I.base.slot L o ho (I.ok.frf L hL) hL fun z=>I.ok.exfs L z hL;exact⟨hk,⟨L,_,hf,hn,e,hd⟩,ih (fun b hb=>hs b (by unfold frs;rw[Qe,hf];exact N3 _ hb)) hr⟩
 exact all X.outer (fun _ hb=>hb) I.ok.funs
def Inv.stack(I:Inv X Nz σ H s):s.heap.FunFrames X.base X.stack:=by
 rcases I.ok.stk with e | ⟨e,hf⟩
 . rw[e];exact I.funs
 . rw[e];obtain⟨m,hn,_⟩:=I.loc;refine .cons (by rw[I.ok.kind];decide) hf hn ?_ I.funs;exact Heap.get?_none_of_le (NS I.ok.bsz I.ok.above)
def Inv.stkSub(I:Inv X Nz σ H s):∀ b∈frs X.stack,b∈X.env.locals::X.fs:=fun b hb=>by
 rcases I.ok.stk with e | ⟨e,hf⟩
 . rw[e] at hb;exact N3 _ hb
 . rw[e] at hb;unfold frs at hb;rw[Qe,hf] at hb;exact hb
def Inv.stkFree(I:Inv X Nz σ H s):∀ b∈frs X.stack,H b=none:=fun b hb=>by
 rcases N4.mp (I.stkSub b hb) with e | hb
 . rw[e];exact I.free
 . obtain⟨_,o,ho,_⟩:=I.ok.funs.mem hb;exact I.base.free b o ho (I.ok.frf b hb) fun z=>I.ok.exfs b z hb
def Inv.step {g':Array GenState} {t':Nat} {d':Drawn} {ch:List Addr} (I:Inv X Nz σ H s)
  (hch:∀ b∈ch,(b∈X.ex\/X.s₀.heap.objs.size<=b)/\b≠X.env.locals/\(∀ x c,X.env.cells.lookup x=some c->c≠b)/\∀ p∈X.pn++Nz,p.1≠b)
  (keep:∀ b o,b≠X.env.locals->b∉X.fs->b∉ch->s.heap.get? b=some o->H b=none->h'.get? b=some o)
  (slot:∀ b o,b≠X.env.locals->b∈X.fs->b∉ch->s.heap.get? b=some o->H b=none->∃ sl,h'.get? b=some {o with slots:=sl}) (free:∀ b o,b∉ch->s.heap.get? b=some o->H b=none->H' b=none)
  (there:∀ b o,b∉ch->s.heap.get? b=some o->∃ o',h'.get? b=some o')
  (tups:∀ b xs,H b=some (.tup xs)->H' b=some (.tup xs)) (frzs:∀ b o u,H b=some (.frz o u)->H' b=some (.frz o u)) (tbls:∀ b ps,H b=some (.tbl ps)->∃ more,H' b=some (.tbl (ps++more)))
  (ns:∀ m,s.heap.Ns X.env.locals m->h'.Ns X.env.locals m) (hok:HOk X.prog X.w H' h') (hg:AllBare g'):
  Inv X Nz σ H' {s with heap:=h',gens:=g',drawn:=d',toks:=t'}:=by
 have neL:∀ b o,X.s₀.heap.get? b=some o->b≠X.env.locals:=fun b o e=>Op (Ol (N6 e) I.ok.above)
 have neC:∀ b o,X.s₀.heap.get? b=some o->b∉X.ex->b∉ch:=fun b o e hx hb=>by
  rcases(hch b hb).1 with z | z
  . exact hx z
  . exact absurd (Ol (N6 e) z) (O9 _)
 have cellK:∀ x c,X.env.cells.lookup x=some c->∀ v,s.heap.IsCell c v->h'.IsCell c v:=fun x c e v ⟨o,ho,hd⟩=>by
  have nch:c∉ch:=fun z=>(hch c z).2.2.1 x c e rfl;by_cases hc:c∈X.fs
  . obtain⟨sl,q⟩:=slot c o (I.cne x c e) hc nch ho (I.freeC x c e);exact⟨_,q,hd⟩
  . exact⟨o,keep c o (I.cne x c e) hc nch ho (I.freeC x c e),hd⟩
 refine⟨I.ok,I.os,hg,⟨fun b o e n hb hx=>?_,fun b o e n hb hx=>?_,fun b o e n hx=>?_,fun b o e hx=>?_,fun b xs e=>tups b xs (I.base.tups b xs e),fun b o xs e=>frzs b o xs (I.base.frzs b o xs e),fun b ps e=>?_⟩,?_,fun x c e=>?_,?_,fun x c e=>?_,fun p hp=>?_,hok,I.len⟩
 . exact keep b o (neL b o e) hb (neC b o e hx) (I.base.keep b o e n hb hx) (I.base.free b o e n hx)
 . obtain⟨sl,e1⟩:=I.base.slot b o e n hb hx;obtain⟨sl',e2⟩:=slot b _ (neL b o e) hb (neC b o e hx) e1 (I.base.free b o e n hx);exact⟨sl',e2⟩
 . obtain⟨o',e1⟩:=I.base.there b o e hx;exact free b o' (neC b o e hx) e1 (I.base.free b o e n hx)
 . obtain⟨o',e1⟩:=I.base.there b o e hx;exact there b o' (neC b o e hx) e1
 . obtain⟨m1,e1⟩:=I.base.tbls b ps e;obtain⟨m2,e2⟩:=tbls b _ e1;exact⟨m1++m2,by rw[e2,Array.append_assoc]⟩
 . obtain⟨m,hn,hl⟩:=I.loc;refine⟨m,ns m hn,fun i x v e1 e2 e3=>?_⟩;obtain⟨u,r,l⟩:=hl i x v e1 e2 e3;refine⟨u,r,?_⟩;rcases l with l | ⟨k,c,e,z⟩
   . exact .inl l
   . exact .inr ⟨k,c,e,cellK x c e _ z⟩
 . obtain⟨v,z⟩:=I.cell x c e;exact⟨v,cellK x c e v z⟩
 . obtain⟨m,⟨o,_,_,ho,_⟩,_⟩:=I.loc;exact free _ o (fun z=>(hch _ z).2.1 rfl) ho I.free
 . obtain⟨v,o,ho,hd⟩:=I.cell x c e;exact free c o (fun z=>(hch c z).2.2.1 x c e rfl) ho (I.freeC x c e)
 . obtain⟨e,n,ne,nf,d⟩:=I.pin p hp;have nch:p.1∉ch:=fun z=>(hch p.1 z).2.2.2 p hp rfl;exact⟨keep p.1 p.2 ne nf nch e n,free p.1 p.2 nch e n,ne,nf,d⟩
def Inv.un{t':Nat}(I:Inv X Nz σ H s)(u:Un X.fs [] H H' s.heap h')(hok:HOk X.prog X.w H' h'):Inv X Nz σ H' {s with heap:=h',toks:=t'}:=by
 obtain⟨m,⟨o,es,ep,ho,r⟩,_⟩:=id I.loc;obtain⟨sl,hL⟩:=u.any ho I.free (by simp)
 exact I.step (g':=s.gens) (d':=s.drawn) (ch:=[]) (fun _ z=>nomatch z) (fun b o _ hb _ e n=>u.keep b o e n hb (by simp)) (fun b o _ hb _ e n=>u.slot b o e n hb (by simp)) (fun b o _ e n=>u.free b o e n (by simp)) (fun b o _ e=>u.there b o e (by simp)) u.tups u.frzs u.tbls (fun m' hm=>by
  obtain⟨o',es',ep',ho',r'⟩:=hm;rw[ho] at ho';cases ho';exact⟨_,es',ep',hL,r'⟩) hok I.bare
def Inv.call {g':Array GenState} {t':Nat} {d':Drawn} {ch:List Addr} (I:Inv X Nz σ H s) (u:Un (frs X.stack) ch H H' s.heap h') (hok:HOk X.prog X.w H' h') (hg:AllBare g')
  (hch:∀ b∈ch,(b∈X.ex\/X.s₀.heap.objs.size<=b)/\b≠X.env.locals/\(∀ x c,X.env.cells.lookup x=some c->c≠b)/\∀ p∈X.pn++Nz,p.1≠b):
  Inv X Nz σ H' {s with heap:=h',gens:=g',drawn:=d',toks:=t'}:=by
 obtain⟨m,⟨o,es,ep,ho,r⟩,_⟩:=id I.loc;obtain⟨sl,hL⟩:=u.any ho I.free fun z=>(hch _ z).2.1 rfl
 exact I.step (ch:=ch) hch (fun b o hL hb hc e n=>u.keep b o e n (fun z=>(N4.mp (I.stkSub b z)).elim hL hb) hc) (fun b o _ _ hc e n=>u.any e n hc) (fun b o hc e n=>u.free b o e n hc) (fun b o hc e=>u.there b o e hc) u.tups u.frzs u.tbls (fun m' hm=>by
  obtain⟨o',es',ep',ho',r'⟩:=hm;rw[ho] at ho';cases ho';exact⟨_,es',ep',hL,r'⟩) hok hg
def Inv.turned {t':Nat} {it:Addr} (I:Inv X Nz σ H s) (k:∀ b o,b≠it->s.heap.get? b=some o->h'.get? b=some o) (hn:H it=none) (hL:it≠X.env.locals)
  (h1:it∈X.ex\/X.s₀.heap.objs.size<=it) (h2:∀ x c,X.env.cells.lookup x=some c->c≠it) (h3:∀ p∈X.pn++Nz,p.1≠it):Inv X Nz σ H {s with heap:=h',toks:=t'}:=by
 have nit:∀ b u,H b=some u->b≠it:=fun b u e z=>by rw[z,hn] at e;cases e
 refine I.step (g':=s.gens) (d':=s.drawn) (ch:=[it]) (fun b hb=>?_) (fun b o _ _ hc e _=>k b o (fun z=>hc (by simp[z])) e) (fun b o _ _ hc e _=>⟨o.slots,k b o (fun z=>hc (by simp[z])) e⟩) (fun _ _ _ _ n=>n)
  (fun b o hc e=>⟨o,k b o (fun z=>hc (by simp[z])) e⟩) (fun _ _ e=>e) (fun _ _ _ e=>e) (fun b ps e=>⟨#[],by rw[e];simp⟩) (fun m hm=>?_) (fun b u e=>?_) I.bare
 . have e:b=it:=by simpa using hb
   subst e;exact⟨h1,hL,h2,h3⟩
 . obtain⟨o,es,ep,ho,r⟩:=hm;exact⟨o,es,ep,k _ o (Qz hL) ho,r⟩
 . refine(I.hok b u e).stay (fun c v hc q=>k c v ?_ q) (fun _ q=>q) fun _ _ q=>q;rcases hc with z | z
   . rw[z];exact nit b u e
   . exact nit c _ z
def Inv.tok(I:Inv X Nz σ H s)(t:Nat):Inv X Nz σ H {s with toks:=t}:=I.un (h':=s.heap) (t':=t) Un.refl I.hok
def Inv.kept{t':Nat}(I:Inv X Nz σ H s)(k:∀ b u,s.heap.get? b=some u->h'.get? b=some u):Inv X Nz σ H {s with heap:=h',toks:=t'}:=I.un (Un.kept k) (I.hok.kept k)
def Inv.laid{a:Addr}{o:HO}{t':Nat}(I:Inv X Nz σ H s)(k:∀ b u,s.heap.get? b=some u->h'.get? b=some u)(hp:s.heap.objs.size<=a)(new:ObjOk X.prog X.w (upd H a o) h' a o):
  Inv X Nz σ (upd H a o) {s with heap:=h',toks:=t'}:=I.un (Un.laid k hp (I.hok.fresh hp)) (I.hok.laid k hp new)
def Inv.write {x e:Addr} {o:HO} {t':Nat} (I:Inv X Nz σ H s) (mu:Mut (H x)) (he:e=x\/H e=some (.own x)) (k:∀ b u,b≠e->s.heap.get? b=some u->h'.get? b=some u) (heo:∃ u,h'.get? e=some u)
  (new:ObjOk X.prog X.w (upd H x o) h' x o):Inv X Nz σ (upd H x o) {s with heap:=h',toks:=t'}:=I.un (Un.write mu he k heo) (I.hok.write mu he k heo new)
def Inv.pins_of{pins':List (Addr × Obj)}(I:Inv X Nz σ H s)(h:∀ p∈pins',s.heap.get? p.1=some p.2/\H p.1=none/\p.1≠X.env.locals/\p.1∉X.fs/\∀ v,p.2.data≠.cell v):Inv X pins' σ H s:=
 ⟨I.ok,I.os,I.bare,I.base,I.loc,I.cell,I.free,I.freeC,fun p hp=>(Oj.mp hp).elim (fun z=>I.pin p (QC _ z)) (h p),I.hok,I.len⟩
def A1{N:List Str}(hN:N.Nodup){i j:Nat}{x:Str}(a:N[i]? =some x)(b:N[j]? =some x):i=j:=by
 obtain⟨h1,e1⟩:=NR.mp a;obtain⟨h2,e2⟩:=NR.mp b;exact(List.getElem_inj hN).mp (e1.trans e2.symm)
def zD {M:Model} {A:Around} {E:Value->Shared->Prop} {i:Nat} {x:Str} {v:V} {u:Value} {Q:Unit->Shared->Prop} (I:Inv X Nz σ H s) (hN:X.N.Nodup) (hi:X.N[i]? =some x) (hx:Loc X.env.scope x) (r:RelV v u)
  (h:∀ s',Inv X Nz (σ.set i (some v)) H s'->(∃ a,Heap.SameBut a s.heap s'.heap/\(a=X.env.locals\/X.env.cells.lookup x=some a))->Q () s') (hf:X.fn x=true\/X.env.scope.names.lookup x=some .local:=by first | exact .inl rfl | exact .inr rfl | assumption):wpAny M A (storeName X.env x u) Q E s:=by
 obtain⟨m,hn,hl⟩:=id I.loc;have hcls:(X.env.scope.kind==.class||(X.env.scope.kind==.module&&X.env.locals != X.env.globals))=false:=by rw[I.ok.kind];rfl
 have hiσ:i<σ.length:=by rw[I.len];exact(NR.mp hi).1
 have cne:=I.cne
 have tracked:∀{a:Addr} {h':Heap},(∃ o,s.heap.get? a=some o/\H a=none)->Heap.SameBut a s.heap h'->HOk X.prog X.w H h':=fun{a h'} ha hs b ob e=>by
  obtain⟨_,_,hfree⟩:=ha;refine(I.hok b ob e).stay (fun c w' hc q=>(hs.2 c ?_).trans q) (fun _ q=>q) fun _ _ q=>q;rintro rfl;rcases hc with rfl | hc
  . rw[hfree] at e;cases e
  . rw[hfree] at hc;cases hc
 rcases hx with hk | hk
 . refine wpAny_storeName_local hk hn (fun h' hn' hs=>?_) hcls;obtain⟨oL,_,_,hoL,_⟩:=id hn;refine h _ ⟨I.ok,I.os,I.bare,⟨fun b o e n hb hx=>?_,fun b o e n hb hx=>?_,I.base.free,fun b o e hx=>?_,I.base.tups,I.base.frzs,I.base.tbls⟩,⟨_,hn',fun j y v' e1 e2 e3=>?_⟩,fun y c e=>?_,I.free,I.freeC,fun p hp=>?_,tracked ⟨oL,hoL,I.free⟩ hs,by simpa using I.len⟩ ⟨_,hs,.inl rfl⟩
   . exact(hs.2 b (Op (Ol (N6 e) I.ok.above))).trans (I.base.keep b o e n hb hx)
   . obtain⟨sl,e1⟩:=I.base.slot b o e n hb hx;exact⟨sl,(hs.2 b (Op (Ol (N6 e) I.ok.above))).trans e1⟩
   . obtain⟨o',e1⟩:=I.base.there b o e hx;exact⟨o',(hs.2 b (Op (Ol (N6 e) I.ok.above))).trans e1⟩
   . by_cases hj:j=i
     . subst hj;rw[hi] at e1;cases e1;rw[Ru hiσ] at e2;cases e2;exact⟨u,r,.inl ⟨hk,by simp⟩⟩
     . rw[List.getElem?_set_ne (Qz hj)] at e2;obtain⟨u',r',q⟩:=hl j y v' e1 e2 e3;refine⟨u',r',?_⟩;rcases q with ⟨k,e⟩ | ⟨k,c,e,z⟩
       . refine .inl ⟨k,?_⟩;have:y≠x:=fun e=>hj (A1 hN e1 (e ▸ hi));simp[this,e]
       . exact .inr ⟨k,c,e,z.sameBut hs (cne y c e)⟩
   . obtain⟨w',z⟩:=I.cell y c e;exact⟨w',z.sameBut hs (cne y c e)⟩
   . obtain⟨e,n,ne,nf,d⟩:=I.pin p hp;exact⟨(hs.2 p.1 ne).trans e,n,ne,nf,d⟩
 . have hfn:X.fn x=true:=by
    rcases hf with z | z
    . exact z
    . rw[z] at hk;cases hk
   obtain⟨c,hc⟩:=I.ok.has x (.inl hk);obtain⟨w',z⟩:=I.cell x c hc;refine wpAny_storeName_cell I.ok.kind hk hc z (fun h' hc' hs=>?_);obtain⟨oc,hoc,hocd⟩:=id z;refine h {s with heap:=h'} ⟨I.ok,I.os,I.bare,⟨fun b o e n hb hx=>?_,fun b o e n hb hx=>?_,I.base.free,fun b o e hx=>?_,I.base.tups,I.base.frzs,I.base.tbls⟩,⟨m,hn.sameBut hs (Qz (cne x c hc)),fun j y v' e1 e2 e3=>?_⟩,fun y c' e=>?_,I.free,I.freeC,fun p hp=>?_,tracked ⟨oc,hoc,I.freeC x c hc⟩ hs,by simpa using I.len⟩ ⟨c,hs,.inr hc⟩
   . exact(hs.2 b (Op (Ol (N6 e) (I.ok.cab x c hfn hc)))).trans (I.base.keep b o e n hb hx)
   . obtain⟨sl,e1⟩:=I.base.slot b o e n hb hx;exact⟨sl,(hs.2 b (Op (Ol (N6 e) (I.ok.cab x c hfn hc)))).trans e1⟩
   . obtain⟨o',e1⟩:=I.base.there b o e hx;exact⟨o',(hs.2 b (Op (Ol (N6 e) (I.ok.cab x c hfn hc)))).trans e1⟩
   . by_cases hj:j=i
     . subst hj;rw[hi] at e1;cases e1;rw[Ru hiσ] at e2;cases e2;exact⟨u,r,.inr ⟨.inl hk,c,hc,hc'⟩⟩
     . rw[List.getElem?_set_ne (Qz hj)] at e2;obtain⟨u',r',q⟩:=hl j y v' e1 e2 e3;refine⟨u',r',?_⟩;rcases q with q | ⟨k,c',e,z'⟩
       . exact .inl q
       . refine .inr ⟨k,c',e,z'.sameBut hs ?_⟩;rintro rfl;exact hj (A1 hN e1 (I.ok.inj _ _ _ e hc ▸ hi))
   . by_cases hcc:c'=c
     . subst hcc;exact⟨_,hc'⟩
     . obtain⟨w2,z2⟩:=I.cell y c' e;exact⟨w2,z2.sameBut hs hcc⟩
   . obtain⟨e,n,ne,nf,d⟩:=I.pin p hp;refine⟨(hs.2 p.1 ?_).trans e,n,ne,nf,d⟩;intro q;rw[q,hoc] at e;have q':oc=p.2:=Pd e;exact d w' (by rw[← q'];exact hocd)
def A2 {M:Model} {A:Around} {E:Value->Shared->Prop} {i:Nat} {x:Str} {v:V} {u:Value} {Q:Unit->Shared->Prop} (I:Inv X Nz σ H s) (hN:X.N.Nodup) (hi:X.N[i]? =some x) (hx:Loc X.env.scope x) (r:RelV v u)
  (h:∀ s',Inv X Nz (σ.set i (some v)) H s'->Q () s') (hf:X.fn x=true\/X.env.scope.names.lookup x=some .local:=by first | exact .inl rfl | exact .inr rfl | assumption):wpAny M A (storeName X.env x u) Q E s:=
 zD I hN hi hx r (fun s' I' _=>h s' I') hf
def Inv.call' {s':Shared} {ch:List Addr} (I:Inv X Nz σ H s) (ho:s'.os=s.os) (u:Un (frs X.stack) ch H H' s.heap s'.heap) (hok:HOk X.prog X.w H' s'.heap) (hg:AllBare s'.gens)
  (hch:∀ b∈ch,(b∈X.ex\/X.s₀.heap.objs.size<=b)/\b≠X.env.locals/\(∀ x c,X.env.cells.lookup x=some c->c≠b)/\∀ p∈X.pn++Nz,p.1≠b):Inv X Nz σ H' s':=by
 obtain⟨h',g',d',t',o'⟩:=s';have e:o'=s.os:=ho;subst e;exact I.call (g':=g') (t':=t') (d':=d') u hok hg hch
end
abbrev XK:=Value->Option Addr->Hp->Prop
abbrev St:=List (Option V)
abbrev VK:=V->Hp->Prop
abbrev TE:=St->Hp->VK->Prop
abbrev TT:=St->Hp->(Bool->Hp->Prop)->Prop
abbrev TA:=St->Hp->(List V->Hp->Prop)->Prop
structure Ends where
 nx:St->Hp->Prop
 rt:VK
 bk:St->Hp->Prop:=fun _ _=>False
 ct:St->Hp->Prop:=fun _ _=>False
abbrev TS:=Ends->St->Hp->Prop
def EP(X:Cx)(Nz:List (Addr × Obj))(σ:St)(Q:VK)(u:Value)(s':Shared):Prop:=∃ v H',Inv X Nz σ H' s'/\RelV v u/\Q v H'
def TP(X:Cx)(Nz:List (Addr × Obj))(σ:St)(Q:Bool->Hp->Prop)(b:Bool)(s':Shared):Prop:=∃ H',Inv X Nz σ H' s'/\Q b H'
def AP(X:Cx)(Nz:List (Addr × Obj))(σ:St)(Q:List V->Hp->Prop)(us:List Value)(s':Shared):Prop:=∃ vs H',Inv X Nz σ H' s'/\Vals vs us/\Q vs H'
def SP(X:Cx)(Nz:List (Addr × Obj))(D:Ends)(f:Flow)(s':Shared):Prop:=
 match f with
 | .next=>∃ σ' H',Inv X Nz σ' H' s'/\D.nx σ' H'
 | .brk=>∃ σ' H',Inv X Nz σ' H' s'/\D.bk σ' H'
 | .cont=>∃ σ' H',Inv X Nz σ' H' s'/\D.ct σ' H'
 | .ret u=>∃ v σ' H',Inv X Nz σ' H' s'/\RelV v u/\D.rt v H'
def PE(X:Cx)(e:Expr)(t:TE):Prop:=
 ∀(Nz:List (Addr × Obj)) (s:Shared) (σ:St) (H:Hp) (Q:VK),Inv X Nz σ H s->t σ H Q->wpAny (model X.prog X.w) X.A (eval e X.env) (EP X Nz σ Q) X.xe s
def PT(X:Cx)(e:Expr)(t:TT):Prop:=
 ∀(Nz:List (Addr × Obj)) (s:Shared) (σ:St) (H:Hp) (Q:Bool->Hp->Prop),Inv X Nz σ H s->t σ H Q->wpAny (model X.prog X.w) X.A (isTrue e X.env (eval e X.env)) (TP X Nz σ Q) X.xe s
def PW(X:Cx)(e:Expr)(t:TT):Prop:=
 ∀(NG:Sem Value) (Nz:List (Addr × Obj)) (s:Shared) (σ:St) (H:Hp) (Q:Bool->Hp->Prop),Inv X Nz σ H s->t σ H Q->wpAny (model X.prog X.w) X.A (isTrue e X.env NG) (TP X Nz σ Q) X.xe s
def PW.pt{X:Cx}{e:Expr}{t:TT}(h:PW X e t):PT X e t:=h _
abbrev Pw:=@PW.pt
def PA(X:Cx)(es:List Expr)(t:TA):Prop:=
 ∀(pos:Pos) (Nz:List (Addr × Obj)) (s:Shared) (σ:St) (H:Hp) (Q:List V->Hp->Prop),Inv X Nz σ H s->t σ H Q->wpAny (model X.prog X.w) X.A (spliced (backTo pos (starEach es X.env))) (AP X Nz σ Q) X.xe s
def PS(X:Cx)(st:Stmt)(t:TS):Prop:=
 ∀(Nz:List (Addr × Obj)) (s:Shared) (σ:St) (H:Hp) (D:Ends),Inv X Nz σ H s->t D σ H->wpAny (model X.prog X.w) X.A (exec st X.env) (SP X Nz D) X.xe s
def PSs(X:Cx)(st:List Stmt)(t:TS):Prop:=
 ∀(Nz:List (Addr × Obj)) (s:Shared) (σ:St) (H:Hp) (D:Ends),Inv X Nz σ H s->t D σ H->wpAny (model X.prog X.w) X.A (execs st X.env) (SP X Nz D) X.xe s
def thn{α:Type}{t:Sem α}{Q Q':α->Shared->Prop}{M:Model}{A:Around}{E:Value->Shared->Prop}{s:Shared}(h:wpAny M A t Q E s)(hQ:∀ a s,Q a s->Q' a s):wpAny M A t Q' E s:=OY h hQ fun _ _ x=>x
section
variable{X:Cx}
def vB:Option (Option V)->(V->Prop)->Prop
 | some (some v),k=>k v
 | _,_=>False
def HE{o:Option (Option V)}{k:V->Prop}(h:vB o k):∃ v,o=some (some v)/\k v:=by
 rcases o with _ | _ | v
 . cases h
 . cases h
 . exact⟨v,rfl,h⟩
def qE{o:Option (Option V)}{k:V->Prop}{v:V}(e:o=some (some v))(h:k v):vB o k:=by subst e;exact h
def tVar(i:Nat):TE:=fun σ H Q=>vB σ[i]? fun v=>Q v H
def tC(v:V):TE:=fun _ H Q=>Q v H
def IZ{i:Nat}{x:Str}{pos:Pos}(hN:X.N[i]? =some x)(hv:Vis X.env.scope x)(hd:(x==("__debug__":Str))=false:=by decide)(hcd:(x==("__classdict__":Str))=false:=by decide):PE X (.Name x pos) (tVar i):=by
 intro Nz s σ H Q I h;obtain⟨v,e,h⟩:=HE h;obtain⟨m,hn,hl⟩:=I.loc;obtain⟨u,r,l⟩:=hl i x v hN e hv;have fin:EP X Nz σ Q u s:=⟨v,H,I,r,h⟩;rcases l with ⟨hk,hm⟩ | ⟨hk,c,hc,hcell⟩
 . exact wpAny_Name (wpAny_loadName_local I.ok.kind hk hn hm fin) hd
 . rcases hk with hk | hk
   . exact wpAny_Name (wpAny_loadName_cell I.ok.kind hk hc hcell fin) hd
   . exact wpAny_Name (wpAny_loadName_free I.ok.kind hk hc hcell fin hcd) hd
def ag{i j pos}:PE X (.Constant (.int i) j pos) (tC (.int i)):=fun _ _ _ H _ I h=>wpAny_Constant_int ⟨.int i,H,I.tok _,⟨_,rfl⟩,h⟩
def bj{b j pos}:PE X (.Constant (.bool b) j pos) (tC (.bl b)):=fun _ _ _ H _ I h=>Constant_bool ⟨.bl b,H,I,rfl,h⟩
def lT{j pos}:PE X (.Constant .none j pos) (tC .non):=fun _ _ _ H _ I h=>Constant_none ⟨.non,H,I,rfl,h⟩
def aw{x j pos}:PE X (.Constant (.str x) j pos) (tC (.str x)):=fun _ _ _ H _ I h=>Calls.Constant_str ⟨.str x,H,I.tok _,⟨_,rfl⟩,h⟩
def Gl(X:Cx)(x:Str):Prop:=X.env.kindOf x=some .globalImplicit
def yR {E:Value->Shared->Prop} {Nz:List (Addr × Obj)} {s:Shared} {σ:St} {H:Hp} {x:Str} {u:Value} {pos:Pos} {Q:Value->Shared->Prop} (I:Inv X Nz σ H s) (hg:Gl X x) (hm:X.mg x=some u) (h:Q u s)
  (hd:(x==("__debug__":Str))=false:=by decide):wpAny (model X.prog X.w) X.A (eval (.Name x pos) X.env) Q E s:=
 QQ I.ok.kind hg (Calls.loadGlobal_global (by rw[I.ok.glob];exact I.mod.glob.keeps I.bk) hm h) hd
def gF {E:Value->Shared->Prop} {Nz:List (Addr × Obj)} {s:Shared} {σ:St} {H:Hp} {x:Str} {u:Value} {pos:Pos} {Q:Value->Shared->Prop} (I:Inv X Nz σ H s) (hg:Gl X x) (hm:X.mg x=none) (hv:bootBuiltins x=some u) (h:Q u s)
  (hn:x≠"__name__":=by decide) (hd:(x==("__debug__":Str))=false:=by decide):wpAny (model X.prog X.w) X.A (eval (.Name x pos) X.env) Q E s:=by
 obtain⟨mb,h1,h2⟩:=I.mod.blt;exact QQ I.ok.kind hg (Calls.loadGlobal_builtin (by rw[I.ok.glob];exact I.mod.glob.keeps I.bk) hm (by rw[I.ok.blt];exact h1.keeps I.bk) ((h2 x hn).trans hv) h) hd
def cK{x:Str}{v:V}{u:Value}{pos:Pos}(hg:Gl X x)(hm:X.mg x=some u)(r:RelV v u)(hd:(x==("__debug__":Str))=false:=by decide):PE X (.Name x pos) (tC v):=
 fun _ _ _ H _ I h=>yR I hg hm ⟨v,H,I,r,h⟩ hd
def f6{x:Str}{v:V}{u:Value}{pos:Pos}(hg:Gl X x)(hm:X.mg x=none)(hv:bootBuiltins x=some u)(r:RelV v u)(hn:x≠"__name__":=by decide)(hd:(x==("__debug__":Str))=false:=by decide):PE X (.Name x pos) (tC v):=
 fun _ _ _ H _ I h=>gF I hg hm hv ⟨v,H,I,r,h⟩ hn hd
variable{a b:Expr}{ta tb:TE}{pos:Pos}
def tB(t:TE):TT:=fun σ H Q=>t σ H fun x H1=>∃ c,x=.bl c/\Q c H1
def aP{e:Expr}{t:TE}(h:PE X e t)(he:∀ NG,isTrue e X.env NG=(do let v ← NG;standAt e.pos;holding [v] (truthy v)):=by intro _;rfl):PT X e (tB t):=by
 intro Nz s σ H Q I hw;refine isTrue_plain (thn (h Nz s σ H _ I hw) fun v s1 ⟨x,H1,I1,r1,q1⟩=>?_) (he _);obtain⟨d,rfl,q⟩:=q1;cases r1;exact O4 ⟨H1,I1,q⟩
variable{tA tB':TT}{rest:List Expr}
def tAnd(t u:TT):TT:=fun σ H Q=>t σ H fun c H1=>if c=true then u σ H1 Q else Q false H1
def tOr(t u:TT):TT:=fun σ H Q=>t σ H fun c H1=>if c=true then Q true H1 else u σ H1 Q
def tNot(t:TT):TT:=fun σ H Q=>t σ H fun c H1=>Q (!c) H1
theorem dg(ha:PT X a tA):PW X (.BoolOp .And [a] pos) tA:=by
 intro wh Nz s σ H Q I h;refine isTrue_and (thn (ha Nz s σ H Q I h) fun c s1 e=>?_)
 cases c with
 | true=>exact isTrue_and_nil e
 | false=>exact e
theorem cV(ha:PT X a tA):PW X (.BoolOp .Or [a] pos) tA:=by
 intro wh Nz s σ H Q I h;refine isTrue_or (thn (ha Nz s σ H Q I h) fun c s1 e=>?_)
 cases c with
 | false=>exact isTrue_or_nil e
 | true=>exact e
theorem dm(ha:PT X a tA)(hb:PW X (.BoolOp .And (b::rest) pos) tB'):PW X (.BoolOp .And (a::b::rest) pos) (tAnd tA tB'):=by
 intro wh Nz s σ H Q I h;refine isTrue_and (thn (ha Nz s σ H _ I h) fun c s1 ⟨H1,I1,q1⟩=>?_)
 cases c with
 | true=>exact hb wh Nz s1 σ H1 Q I1 q1
 | false=>exact⟨H1,I1,q1⟩
theorem cm(ha:PT X a tA)(hb:PW X (.BoolOp .Or (b::rest) pos) tB'):PW X (.BoolOp .Or (a::b::rest) pos) (tOr tA tB'):=by
 intro wh Nz s σ H Q I h;refine isTrue_or (thn (ha Nz s σ H _ I h) fun c s1 ⟨H1,I1,q1⟩=>?_)
 cases c with
 | true=>exact⟨H1,I1,q1⟩
 | false=>exact hb wh Nz s1 σ H1 Q I1 q1
def bJ(ha:PT X a tA):PT X (.UnaryOp .Not a pos) (tNot tA):=by
 intro Nz s σ H Q I h;exact isTrue_not (ha Nz s σ H (fun c H1=>Q (!c) H1) I h)
def tAndV(ta tb:TE):TE:=fun σ H Q=>ta σ H fun x H1=>∃ c,x=.bl c/\if c=true then tb σ H1 Q else Q (.bl false) H1
def tOrV(ta tb:TE):TE:=fun σ H Q=>ta σ H fun x H1=>∃ c,x=.bl c/\if c=true then Q (.bl true) H1 else tb σ H1 Q
def tNotV(ta:TE):TE:=fun σ H Q=>ta σ H fun x H1=>∃ c,x=.bl c/\Q (.bl (!c)) H1
def bR{op}{t:TE}(h:PE X a t):PE X (.BoolOp op [a] pos) t:=fun Nz s σ H Q I hw=>BoolOp_one (h Nz s σ H Q I hw)
theorem bE(ha:PE X a ta)(hb:PE X (.BoolOp .And (b::rest) pos) tb):PE X (.BoolOp .And (a::b::rest) pos) (tAndV ta tb):=by
 intro Nz s σ H Q I h;refine BoolOp_and (thn (ha Nz s σ H _ I h) fun v s1 ⟨x,H1,I1,r1,q1⟩=>?_);obtain⟨c,rfl,q1⟩:=q1;cases r1;refine O4 ?_
 cases c with
 | true=>exact hb Nz s1 σ H1 Q I1 q1
 | false=>exact⟨.bl false,H1,I1,rfl,q1⟩
theorem AW(ha:PE X a ta)(hb:PE X (.BoolOp .Or (b::rest) pos) tb):PE X (.BoolOp .Or (a::b::rest) pos) (tOrV ta tb):=by
 intro Nz s σ H Q I h;refine BoolOp_or (thn (ha Nz s σ H _ I h) fun v s1 ⟨x,H1,I1,r1,q1⟩=>?_);obtain⟨c,rfl,q1⟩:=q1;cases r1;refine O4 ?_
 cases c with
 | false=>exact hb Nz s1 σ H1 Q I1 q1
 | true=>exact⟨.bl true,H1,I1,rfl,q1⟩
def Fu(ha:PE X a ta):PE X (.UnaryOp .Not a pos) (tNotV ta):=by
 intro Nz s σ H Q I h;refine UnaryOp_ (thn (ha Nz s σ H _ I h) fun v s1 ⟨x,H1,I1,r1,q1⟩=>?_);obtain⟨c,rfl,q1⟩:=q1;cases r1;exact not_of (O4 ⟨.bl (!c),H1,I1,rfl,q1⟩)
def tIf(t:TT)(ta tb:TE):TE:=fun σ H Q=>t σ H fun c H1=>if c=true then ta σ H1 Q else tb σ H1 Q
theorem mY{c:Expr}(hc:PT X c tA)(ha:PE X a ta)(hb:PE X b tb):PE X (.IfExp c a b pos) (tIf tA ta tb):=by
 intro Nz s σ H Q I h;refine wpAny_IfExp (thn (hc Nz s σ H _ I h) fun d s1 ⟨H1,I1,q1⟩=>?_)
 cases d with
 | true=>exact ha Nz s1 σ H1 Q I1 q1
 | false=>exact hb Nz s1 σ H1 Q I1 q1
end
def SqL(K:Frag)(H:Hp)(a:Addr)(xs:List V):Prop:=
 Rd H a (.lst xs)\/
  ∃(o:Obj) (ND:Array Value) (n:Nat),K.lookup a=some o/\o.cls=.type "list"/\o.dict=none/\o.data=.seq ND n/\ND.size<=sizeLine/\Vals xs ND.toList
def SqT(K:Frag)(H:Hp)(a:Addr)(xs:List V):Prop:=
 Rd H a (.tup xs)\/
  ∃(o:Obj) (ND:Array Value) (n:Nat),K.lookup a=some o/\o.cls=.type "tuple"/\o.data=.seq ND n/\ND.size<=sizeLine/\Vals xs ND.toList
def absV:Value->Option V
 | .none=>some .non
 | .bool b=>some (.bl b)
 | .int i _=>⇑i
 | .str x _=>some (.str x)
 | .bytes b _=>some (.byt b)
 | .float b _=>some (.flt b)
 | .ref a=>↑a
 | .type n=>some (.ty n)
 | _=>none
variable{u:Value}
theorem RelV.abs{x:V}(r:RelV x u):absV u=some x:=by
 cases x with
 | non=>cases r;rfl
 | bl _=>cases r;rfl
 | int _=>obtain⟨t,rfl⟩:=r;rfl
 | str _=>obtain⟨t,rfl⟩:=r;rfl
 | byt _=>obtain⟨t,rfl⟩:=r;rfl
 | flt _=>obtain⟨t,rfl⟩:=r;rfl
 | ref _=>cases r;rfl
 | ty _=>cases r;rfl
def RelV.inj{x y:V}(r:RelV x u)(q:RelV y u):x=y:=Pd (r.abs.symm.trans q.abs)
theorem Vals.inj:∀{xs ys:List V} {us:List Value},Vals xs us->Vals ys us->xs=ys
 | _,_,_,.nil,.nil=>rfl
 | _,_,_,.cons r t,.cons r' t'=>by rw[r.inj r',Vals.inj t t']
section
variable{X:Cx}{Nz:List (Addr × Obj)}{σ:St}{H:Hp}{s:Shared}{a:Addr}{xs ys:List V}
def SqL.of{K:Frag}(h:H a=↥xs):SqL K H a xs:=.inl (.inl h)
abbrev N5:=@SqL.of
def SqT.of{K:Frag}(h:H a=some (.tup xs)):SqT K H a xs:=.inl (.inl h)
def Inv.list(I:Inv X Nz σ H s)(h:SqL X.K H a xs):∃ ND:List Value,Vals xs ND/\PlainL s.heap a ND.toArray/\xs.length<=sizeLine:=by
 rcases h with h | ⟨o,ND,n,hk,hc,hd,hs,hz,r⟩
 . obtain⟨z,ND,n,r,e⟩:=h.ok I.hok;exact⟨ND,r,⟨_,n,e,rfl,rfl,rfl⟩,z⟩
 . refine⟨ND.toList,r,⟨o,n,I.kIn a o hk,hc,hd,by simpa using hs⟩,?_⟩;have e:=r.length;simp only[Ov] at e;omega
def Inv.tuple(I:Inv X Nz σ H s)(h:SqT X.K H a xs):∃ ND:List Value,Vals xs ND/\IsTup s.heap a ND.toArray/\xs.length<=sizeLine:=by
 rcases h with h | ⟨o,ND,n,hk,hc,hs,hz,r⟩
 . obtain⟨z,ND,r,p⟩:=h.ok I.hok;exact⟨ND,r,p,z⟩
 . refine⟨ND.toList,r,⟨o,I.kIn a o hk,hc,n,by simpa using hs⟩,?_⟩;have e:=r.length;simp only[Ov] at e;omega
def Inv.list_inj(I:Inv X Nz σ H s)(h:SqL X.K H a xs)(h':SqL X.K H a ys):xs=ys:=by
 obtain⟨ND,r,⟨o,n,e,_,_,d⟩,_⟩:=I.list h;obtain⟨its',r',⟨o',n',e',_,_,d'⟩,_⟩:=I.list h';rw[e] at e';cases e';rw[d] at d';injection d' with d1 _;have:ND=its':=by simpa using congrArg Array.toList d1
 subst this;exact r.inj r'
def Inv.tuple_inj(I:Inv X Nz σ H s)(h:SqT X.K H a xs)(h':SqT X.K H a ys):xs=ys:=by
 obtain⟨ND,r,⟨o,e,_,n,d⟩,_⟩:=I.tuple h;obtain⟨its',r',⟨o',e',_,n',d'⟩,_⟩:=I.tuple h';rw[e] at e';cases e';rw[d] at d';injection d' with d1 _;have:ND=its':=by simpa using congrArg Array.toList d1
 subst this;exact r.inj r'
end
abbrev Cx.wish(X:Cx)(E:Value->Shared->Prop):Cx:={X with xe:=E}
abbrev Cx.nox(X:Cx):Cx:=X.wish fun _ _=>False
variable{X:Cx}
def Cx.Ok.wish(ok:X.Ok)(E:Value->Shared->Prop):(X.wish E).Ok:=
 ⟨ok.mod,ok.kind,ok.glob,ok.blt,ok.above,ok.inj,ok.has,ok.cab,ok.hd,ok.frames,ok.stk,ok.exf,ok.bs,ok.bsz,ok.noex,ok.exfs,ok.funs,ok.frf⟩
variable{E:Value->Shared->Prop}
def Cx.Ok.unwish(ok:(X.wish E).Ok):X.Ok:=
 ⟨ok.mod,ok.kind,ok.glob,ok.blt,ok.above,ok.inj,ok.has,ok.cab,ok.hd,ok.frames,ok.stk,ok.exf,ok.bs,ok.bsz,ok.noex,ok.exfs,ok.funs,ok.frf⟩
section
variable{X:Cx}{Nz:List (Addr × Obj)}{σ:St}{H:Hp}{s:Shared}{E:Value->Shared->Prop}
def Inv.wish(I:Inv X Nz σ H s)(E:Value->Shared->Prop):Inv (X.wish E) Nz σ H s:=⟨I.ok.wish E,I.os,I.bare,I.base,I.loc,I.cell,I.free,I.freeC,I.pin,I.hok,I.len⟩
def Inv.unwish(I:Inv (X.wish E) Nz σ H s):Inv X Nz σ H s:=⟨I.ok.unwish,I.os,I.bare,I.base,I.loc,I.cell,I.free,I.freeC,I.pin,I.hok,I.len⟩
theorem SP.unwish{D:Ends}{f:Flow}{s':Shared}(h:SP (X.wish E) Nz D f s'):SP X Nz D f s':=by
 cases f with
 | next=>obtain⟨σ',H',I,q⟩:=h;exact⟨σ',H',I.unwish,q⟩
 | brk=>obtain⟨σ',H',I,q⟩:=h;exact⟨σ',H',I.unwish,q⟩
 | cont=>obtain⟨σ',H',I,q⟩:=h;exact⟨σ',H',I.unwish,q⟩
 | ret u=>obtain⟨v,σ',H',I,r,q⟩:=h;exact⟨v,σ',H',I.unwish,r,q⟩
def PSs.nox{st:List Stmt}{t:TS}(h:PSs X.nox st t):PSs X st t:=fun Nz s σ H D I hw=>
 OY (h Nz s σ H D (I.wish _) hw) (fun _ _ q=>q.unwish) fun _ _ z=>False.elim z
end
section
variable{X:Cx}{st:Stmt}{rest:List Stmt}{t u:TS}{e:Expr}{te:TE}{pos:Pos}
def tNext:TS:=fun D σ H=>D.nx σ H
def tSeq(t u:TS):TS:=fun D σ H=>t {D with nx:=u D} σ H
def ap:PSs X [] tNext:=fun _ _ σ H _ I h=>QE ⟨σ,H,I,h⟩
theorem af(h1:PS X st t)(h2:PSs X rest u):PSs X (st::rest) (tSeq t u):=by
 intro Nz s σ H D I h;refine wpAny_execs_cons (thn (h1 Nz s σ H {D with nx:=u D} I h) fun f s1 q=>?_)
 cases f with
 | next=>
  obtain⟨σ',H',I',q⟩:=q;exact h2 Nz s1 σ' H' D I' q
 | ret v=>exact q
 | brk=>exact q
 | cont=>exact q
theorem ah(h1:PS X st t):PSs X [st] t:=by
 intro Nz s σ H D I h;refine wpAny_execs_cons (thn (h1 Nz s σ H D I h) fun f s1 q=>?_)
 cases f with
 | next=>exact QE q
 | ret v=>exact q
 | brk=>exact q
 | cont=>exact q
def Inv.quiet{Nz:List (Addr × Obj)}{σ:St}{H:Hp}{s:Shared}(I:Inv X Nz σ H s):interactive X.env=false:=by simp[interactive,I.ok.kind]
def tDrop(te:TE):TS:=fun D σ H=>te σ H fun _ H1=>D.nx σ H1
def bG(he:PE X e te)(hs:swapsWith e none pos.line X.env=pure false:=by rfl):PS X (.Expr e pos) (tDrop te):=by
 intro Nz s σ H D I h;exact wpAny_Expr_any (thn (he Nz s σ H _ I h) fun v s1 ⟨x,H1,I1,r1,q1⟩=>⟨σ,H1,I1,q1⟩) I.quiet hs
def tRet(te:TE):TS:=fun D σ H=>te σ H D.rt
def ai(he:PE X e te):PS X (.Return (some e) pos) (tRet te):=by
 intro Nz s σ H D I h;exact wpAny_Return_some (thn (he Nz s σ H _ I h) fun v s1 ⟨x,H1,I1,r1,q1⟩=>⟨x,σ,H1,I1,r1,q1⟩)
def tRetN:TS:=fun D _ H=>D.rt .non H
def tIfS(c:TT)(t u:TS):TS:=fun D σ H=>c σ H fun b H1=>if b=true then t D σ H1 else u D σ H1
theorem av{c:Expr}{a b:List Stmt}{tc:TT}(hc:PT X c tc)(ha:PSs X a t)(hb:PSs X b u):PS X (.If c a b pos) (tIfS tc t u):=by
 intro Nz s σ H D I h;refine wpAny_If (thn (hc Nz s σ H _ I h) fun d s1 ⟨H1,I1,q1⟩=>?_)
 cases d with
 | true=>exact ha Nz s1 σ H1 D I1 q1
 | false=>exact hb Nz s1 σ H1 D I1 q1
def eF:TS:=fun _ _ _=>False
def cp:PS X st eF:=fun _ _ _ _ _ _ h=>h.elim
end
abbrev TG:=V->St->Hp->(St->Hp->Prop)->Prop
abbrev TGs:=List V->St->Hp->(St->Hp->Prop)->Prop
def PG(X:Cx)(target:Expr)(t:TG):Prop:=
 ∀(Nz:List (Addr × Obj)) (s:Shared) (σ:St) (H:Hp) (v:V) (u:Value) (Q:St->Hp->Prop),Inv X Nz σ H s->RelV v u->t v σ H Q->
  wpAny (model X.prog X.w) X.A (assign target X.env u) (fun _ s'=>∃ σ' H',Inv X Nz σ' H' s'/\Q σ' H') X.xe s
def PGs(X:Cx)(ts:List Expr)(t:TGs):Prop:=
 ∀(Nz:List (Addr × Obj)) (s:Shared) (σ:St) (H:Hp) (vs:List V) (us:List Value) (Q:St->Hp->Prop),Inv X Nz σ H s->Vals vs us->t vs σ H Q->
  wpAny (model X.prog X.w) X.A (assignInOrder ((assignEach ts X.env).map (·.2)) us) (fun _ s'=>∃ σ' H',Inv X Nz σ' H' s'/\Q σ' H') X.xe s
abbrev TSet:=V->V->V->Hp->(Hp->Prop)->Prop
def PSet(X:Cx)(t:TSet):Prop:=
 ∀(Nz:List (Addr × Obj)) (s:Shared) (σ:St) (H:Hp) (o i v:V) (ov iv u:Value) (Q:Hp->Prop),Inv X Nz σ H s->RelV o ov->RelV i iv->RelV v u->t o i v H Q->
  wpAny (model X.prog X.w) X.A (setItem ov iv u) (fun _ s'=>∃ H',Inv X Nz σ H' s'/\Q H') X.xe s
section
variable{X:Cx}{pos:Pos}
def gName(i:Nat):TG:=fun v σ H Q=>Q (σ.set i (some v)) H
def au{i:Nat}{x:Str}(hN:X.N.Nodup)(hi:X.N[i]? =some x)(hx:Loc X.env.scope x)(hf:X.fn x=true\/X.env.scope.names.lookup x=some .local:=by first | exact .inl rfl | exact .inr rfl | assumption):PG X (.Name x pos) (gName i):=by
 intro Nz s σ H v u Q I r h;exact wpAny_assign_Name (A2 I hN hi hx r (fun s' I'=>⟨_,H,I',h⟩) hf)
def gNil:TGs:=fun vs σ H Q=>vs=[]/\Q σ H
def gCons(t:TG)(u:TGs):TGs:=fun vs σ H Q=>∃ v r,vs=v::r/\t v σ H fun σ' H'=>u r σ' H' Q
def pS:PGs X [] gNil:=by
 intro Nz s σ H vs us Q I r h;obtain⟨e,h⟩:=h;subst e;cases r;exact assignInOrder_nil ⟨σ,H,I,h⟩
theorem dj {e:Expr} {es:List Expr} {t:TG} {u:TGs} (h1:PG X e t) (h2:PGs X es u)
  (hs:(assignEach (e::es) X.env).map (·.2)=assign e X.env::(assignEach es X.env).map (·.2):=by rfl):PGs X (e::es) (gCons t u):=by
 intro Nz s σ H vs us Q I r h;obtain⟨v,vr,e1,h⟩:=h;subst e1
 cases r with
 | cons r rr=>
  rw[hs];refine assignInOrder_cons (thn (h1 Nz s σ H _ _ _ I r h) fun _ s1 ⟨σ1,H1,I1,q1⟩=>?_);exact h2 Nz s1 σ1 H1 _ _ Q I1 rr q1
def gTup(K:Frag)(n:Nat)(t:TGs):TG:=fun v σ H Q=>∃ a xs,v=.ref a/\SqT K H a xs/\xs.length=n/\t xs σ H Q
def sx {es:List Expr} {k:Nat} {t:TGs} {n:Nat} (hc:X.calm=true) (h:PGs X es t)
  (hn:(assignEach es X.env).length=n:=by rfl) (hst:(assignEach es X.env).findIdx? (·.1)=none:=by rfl):PG X (.Tuple es k pos) (gTup X.K n t):=by
 intro Nz s σ H v u Q I r hw;obtain⟨a,xs,e1,hq,hl,hw⟩:=hw;subst e1;cases r;obtain⟨ND,rv,ht,hz⟩:=I.tuple hq;refine assign_Tuple_tuple (I.ok.hd hc) ht (by simp[hn,← hl,rv.length]) hst fun h' hx=>?_;have I1:Inv X Nz σ H {s with heap:=h'}:=I.kept (t':=s.toks) fun b o e=>hx b o (Op (N6 e)) e;exact h Nz _ σ H xs _ Q I1 (by simpa using rv) hw
def gSub(to ti:TE)(t:TSet):TG:=fun v σ H Q=>to σ H fun o H1=>ti σ H1 fun i H2=>t o i v H2 fun H3=>Q σ H3
def mZ {o i:Expr} {to ti:TE} {t:TSet} (ho:PE X o to) (hi:PE X i ti) (hs:PSet X t)
  (ha:∀ v,assign (.Subscript o i pos) X.env v=(do
   let ov ← holding [v] (eval o X.env);let iv ← holding [v,ov] (eval i X.env)
   standAt pos
   holding [v,ov,iv] (setItem ov iv v)
   release [v,ov,iv] []):=by intro _;rfl):PG X (.Subscript o i pos) (gSub to ti t):=by
 intro Nz s σ H v u Q I r h;rw[ha];refine NM (Pr (thn (ho Nz s σ H _ I h) fun ov s1 ⟨x,H1,I1,r1,q1⟩=>?_));refine NM (Pr (thn (hi Nz s1 σ H1 _ I1 q1) fun iv s2 ⟨y,H2,I2,r2,q2⟩=>?_));refine NM (RQ (NM (Pr (thn (hs Nz s2 σ H2 x y v ov iv u _ I2 r1 r2 r q2) fun _ s3 ⟨H3,I3,q3⟩=>?_))));exact wpAny_release ⟨σ,H3,I3,q3⟩
def tAsg(te:TE)(g:TG):TS:=fun D σ H=>te σ H fun x H1=>g x σ H1 D.nx
def jT {tg e:Expr} {te:TE} {g:TG} (he:PE X e te) (hg:PG X tg g) (hs:swapsWithSole [tg] e pos.line X.env=pure false:=by rfl) (hw:swappedStores [tg] e X.env=pure none:=by rfl)
  (h1:(assignEach [tg] X.env).map (·.2)=[assign tg X.env]:=by rfl):PS X (.Assign [tg] e pos) (tAsg te g):=by
 intro Nz s σ H D I h;refine wpAny_Assign_stores (thn (he Nz s σ H _ I h) fun v s1 ⟨x,H1,I1,r1,q1⟩=>?_) hs hw;rw[h1];exact thn (hg Nz s1 σ H1 x v _ I1 r1 q1) fun _ s2 q=>q
def dn{i:Nat}{x:Str}{e:Expr}{te:TE}{pos':Pos}(hN:X.N.Nodup)(hi:X.N[i]? =some x)(hx:Loc X.env.scope x)(he:PE X e te)(hs:swapsWith e (some (.Name x pos')) pos.line X.env=pure false:=by rfl)(hf:X.fn x=true\/X.env.scope.names.lookup x=some .local:=by first | exact .inl rfl | exact .inr rfl | assumption):
  PS X (.Assign [.Name x pos'] e pos) (tAsg te (gName i)):=by
 intro Nz s σ H D I h;refine wpAny_Assign_Name (thn (he Nz s σ H _ I h) fun v s1 ⟨y,H1,I1,r1,q1⟩=>?_) hs;exact A2 I1 hN hi hx r1 (fun s2 I2=>⟨_,H1,I2,q1⟩) hf
end
section
variable{X:Cx}{pos:Pos}
def A3(c:TT)(tb:TS):TS:=fun D σ H=>∃ W:Nat->St->Hp->Prop,(∃ m,W m σ H)/\∀ m σ H,W m σ H->
 c σ H fun b H1=>if b=true then ∃ N:St->Hp->Prop,(∀ σ' H',N σ' H'->∃ m',m'<m/\W m' σ' H')/\tb {D with nx:=N,ct:=N,bk:=D.nx} σ H1 else D.nx σ H1
theorem A4{c:Expr}{body:List Stmt}{tc:TT}{tb:TS}(hp:PassesOwn (model X.prog X.w) X.A X.env X.xe)(hc:PT X c tc)(hb:PSs X body tb):PS X (.While c body [] pos) (A3 tc tb):=by
 intro Nz s σ H D I h;obtain⟨W,⟨m0,w0⟩,turn⟩:=h;refine wpAny_While (codeAny_whileLoop (fun n s'=>∃ σ' H',Inv X Nz σ' H' s'/\W n σ' H') ?_ m0 ⟨σ,H,I,w0⟩);rintro n s1 ⟨σ1,H1,I1,w1⟩;refine Py hp (thn (hc Nz s1 σ1 H1 _ I1 (turn n σ1 H1 w1)) fun b s2 ⟨H2,I2,q2⟩=>?_)
 cases b with
 | true=>
  obtain⟨N,hN,q2⟩:=q2;rw[Oh rfl];refine Py hp (thn (hb Nz s2 σ1 H2 _ I2 q2) fun f s3 q3=>?_)
  cases f with
  | next=>
   obtain⟨σ3,H3,I3,n3⟩:=q3;obtain⟨m',hm,w3⟩:=hN σ3 H3 n3;exact⟨m',hm,σ3,H3,I3,w3⟩
  | cont=>
   obtain⟨σ3,H3,I3,n3⟩:=q3;obtain⟨m',hm,w3⟩:=hN σ3 H3 n3;exact⟨m',hm,σ3,H3,I3,w3⟩
  | brk=>exact q3
  | ret v=>exact q3
 | false=>
  rw[Ob NW];exact QE ⟨σ1,H2,I2,q2⟩
end
structure It where
 go:Nat->Hp->Prop
 yld:Nat->Hp->V->Hp->Prop
 stop:Nat->Hp->Prop
def FpOk(X:Cx)(Nz:List (Addr × Obj))(H:Hp)(b:Addr):Prop:=
 H b=none/\b≠X.env.locals/\b∉X.fs/\(b∈X.ex\/X.s₀.heap.objs.size<=b)/\(∀ x c,X.env.cells.lookup x=some c->c≠b)/\∀ p∈X.pn++Nz,p.1≠b
variable{s:Shared}
def Inv.fpOk{Nz:List (Addr × Obj)}{σ:St}{H H':Hp}{b:Addr}(I:Inv X Nz σ H s)(hb:s.heap.objs.size<=b)(hn:H' b=none):FpOk X Nz H' b:=by
 refine⟨hn,PY (Ol I.lt hb),I.nofs hb,.inr (NS I.sz hb),fun x c e z=>?_,fun p hp z=>?_⟩
 . obtain⟨v,q⟩:=I.cell x c e;exact absurd (Ol q.lt (by rw[z];exact hb)) (O9 _)
 . exact absurd (Ol (N6 (I.pin p hp).1) (by rw[z];exact hb)) (O9 _)
structure Turn(P:Program)(w:World)(K:Frag)(tg:Expr)(J:It)(fp:List Addr)(it:Addr)(tn:Nat->Heap->Prop):Prop where
 mem:it∈fp
 obj:∀ i h,tn i h->∀ b∈fp,∃ o,h.get? b=some o/\∀ v,o.data≠.cell v
 keep:∀ i h h',tn i h->(∀ b∈fp,∀ o,h.get? b=some o->h'.get? b=some o)->tn i h'
 item:∀(X:Cx),X.prog=P->X.w=w->X.K=K->X.calm=true->∀(i:Nat) (Nz:List (Addr × Obj)) (s:Shared) (σ:St) (H:Hp) (E:Value->Shared->Prop),Inv X Nz σ H s->(∀ b∈fp,FpOk X Nz H b)->tn i s.heap->J.go i H->
  wpAny (model P w) X.A (pyNext (.ref it)) (fun r s1=>∃ u,r=some u/\
   wpAny (model P w) X.A (letOwnedTupleGo tg (.ref it) u) (fun _ s2=>∃ x H',Inv X Nz σ H' s2/\RelV x u/\J.yld i H x H'/\tn (i+1) s2.heap/\∀ b∈fp,H' b=none) E s1) E s
 done:∀(X:Cx),X.prog=P->X.w=w->X.K=K->X.calm=true->∀(i:Nat) (Nz:List (Addr × Obj)) (s:Shared) (σ:St) (H:Hp) (E:Value->Shared->Prop),Inv X Nz σ H s->(∀ b∈fp,FpOk X Nz H b)->tn i s.heap->J.stop i H->
  wpAny (model P w) X.A (pyNext (.ref it)) (fun r s1=>r=none/\Inv X Nz σ H s1) E s
 self:∀(A:Around) (i:Nat) (s:Shared) (Q:Value->Shared->Prop) (E:Value->Shared->Prop),tn i s.heap->Q (.ref it) s->wpAny (model P w) A (pyIter (.ref it)) Q E s
abbrev TI:=St->Hp->(It->Hp->Prop)->Prop
def PIE(X:Cx)(Nz:List (Addr × Obj))(σ:St)(tg:Expr)(R:It->Hp->Prop)(itv:Value)(s2:Shared):Prop:=
 ∃(it:Addr) (fp:List Addr) (tn:Nat->Heap->Prop) (J:It) (H':Hp),itv=.ref it/\Inv X Nz σ H' s2/\Turn X.prog X.w X.K tg J fp it tn/\tn 0 s2.heap/\(∀ b∈fp,FpOk X Nz H' b)/\R J H'
def PI(X:Cx)(tg iter:Expr)(wi:TI):Prop:=
 ∀(Nz:List (Addr × Obj)) (s:Shared) (σ:St) (H:Hp) (R:It->Hp->Prop),Inv X Nz σ H s->wi σ H R->
  wpAny (model X.prog X.w) X.A (eval iter X.env) (fun v s1=>wpAny (model X.prog X.w) X.A (pyIter v) (PIE X Nz σ tg R) X.xe s1) X.xe s
variable{tg:Expr}
def AX {M:Model} {A:Around} {it:Addr} {o:Obj} {n:String} {vs:Array Value} {Q:Unit->Shared->Prop} (ho:s.heap.get? it=some o) (hc:o.cls=.type n) (hd:o.data=.fields vs)
  (hn:["enumerate","zip","dict_itemiterator","dict_reverseitemiterator","odict_iterator","itertools.zip_longest","itertools.pairwise"].contains n=false) (hQ:Q () s):wpAny M A (letOwnedTupleGo tg (.ref it) u) Q E s:=by
 unfold letOwnedTupleGo
 cases tg <;> first
  | exact NT hQ
  | (cases u <;> first
    | exact NT hQ
    | (refine NM (RU ho ?_)
       rw[hc,hd];show wpAny M A (if (["enumerate","zip","dict_itemiterator","dict_reverseitemiterator","odict_iterator","itertools.zip_longest","itertools.pairwise"].contains n&&vs[0]? ==some (rawInt _))=true then _ else _) Q E s;rw[Ob (by intro h;rw[hn,NZ] at h;cases h)];exact NT hQ))
def Itl(K:Frag)(a:Addr):It:=
 ⟨fun i H=>∃ xs x,SqL K H a xs/\xs[i]? =some x,fun i H x H'=>H'=H/\∀ xs,SqL K H a xs->xs[i]? =some x,fun i H=>∃ xs,SqL K H a xs/\xs.length<=i⟩
def Itt(K:Frag)(a:Addr):It:=
 ⟨fun i H=>∃ xs x,SqT K H a xs/\xs[i]? =some x,fun i H x H'=>H'=H/\∀ xs,SqT K H a xs->xs[i]? =some x,fun i H=>∃ xs,SqT K H a xs/\xs.length<=i⟩
def Itr(lo:Int)(n:Nat):It:=⟨fun i _=>i<n,fun i H x H'=>H'=H/\x=.int (lo+i),fun i _=>n<=i⟩
variable{P:Program}{w:World}{K:Frag}
def Fv(a it:Addr):Turn P w K tg (Itl K a) [it] it (fun i h=>h.IsListIter it a i) where
 mem:=by simp
 obj:=fun i h st b hb=>by
  have e:b=it:=by simpa using hb
  subst e;obtain⟨o,e,c,d⟩:=st;exact⟨o,e,fun v z=>by rw[d] at z;cases z⟩
 keep:=fun i h h' st k=>st.at fun o e=>k it (by simp) o e
 item:=by
  intro X hP hw hK hc i Nz s σ H E I hf st hg;subst hP hw hK;obtain⟨xs,x,hq,hx⟩:=hg;obtain⟨ND,rv,p,hz⟩:=I.list hq;obtain⟨u,hu,ru⟩:=rv.get hx;obtain⟨f0,f1,f2,f3,f4,f5⟩:=hf it (by simp);refine wpAny_pyNext_list_item st p.isList (x:=u) (by simpa using hu) fun h' st' sb=>?_;have I1:Inv X Nz σ H {s with heap:=h'}:=I.turned (t':=s.toks) (fun b o hb e=>(sb.2 b hb).trans e) f0 f1 f3 f4 f5;obtain⟨o,e,c,d⟩:=id st';exact⟨u,rfl,AX (s:={s with heap:=h'}) e c d #[1] ⟨x,H,I1,ru,⟨rfl,fun ys hy=>by rw[I.list_inj hy hq];exact hx⟩,st',fun b hb=>(hf b hb).1⟩⟩
 done:=by
  intro X hP hw hK hc i Nz s σ H E I hf st hg;subst hP hw hK;obtain⟨xs,hq,hx⟩:=hg;obtain⟨ND,rv,p,hz⟩:=I.list hq;obtain⟨f0,f1,f2,f3,f4,f5⟩:=hf it (by simp);have hl:=rv.length;exact wpAny_pyNext_list_end (I.ok.hd hc) st p.isList (by simp;omega) fun h' eb=>⟨rfl,I.turned (t':=s.toks) (fun b o hb e=>eb b o hb e) f0 f1 f3 f4 f5⟩
 self:=fun _ _ _ _ _ st h=>wpAny_pyIter_listiter st h
def Eh(a it:Addr):Turn P w K tg (Itt K a) [it] it (fun i h=>h.IsTupleIter it a i) where
 mem:=by simp
 obj:=fun i h st b hb=>by
  have e:b=it:=by simpa using hb
  subst e;obtain⟨o,e,c,d⟩:=st;exact⟨o,e,fun v z=>by rw[d] at z;cases z⟩
 keep:=fun i h h' st k=>st.at fun o e=>k it (by simp) o e
 item:=by
  intro X hP hw hK hc i Nz s σ H E I hf st hg;subst hP hw hK;obtain⟨xs,x,hq,hx⟩:=hg;obtain⟨ND,rv,p,hz⟩:=I.tuple hq;obtain⟨u,hu,ru⟩:=rv.get hx;obtain⟨f0,f1,f2,f3,f4,f5⟩:=hf it (by simp);refine wpAny_pyNext_tuple_item st (show s.heap.IsTuple a ND.toArray from p) (x:=u) (by simpa using hu) fun h' st' sb=>?_;have I1:Inv X Nz σ H {s with heap:=h'}:=I.turned (t':=s.toks) (fun b o hb e=>(sb.2 b hb).trans e) f0 f1 f3 f4 f5;obtain⟨o,e,c,d⟩:=id st';exact⟨u,rfl,AX (s:={s with heap:=h'}) e c d #[1] ⟨x,H,I1,ru,⟨rfl,fun ys hy=>by rw[I.tuple_inj hy hq];exact hx⟩,st',fun b hb=>(hf b hb).1⟩⟩
 done:=by
  intro X hP hw hK hc i Nz s σ H E I hf st hg;subst hP hw hK;obtain⟨xs,hq,hx⟩:=hg;obtain⟨ND,rv,p,hz⟩:=I.tuple hq;obtain⟨f0,f1,f2,f3,f4,f5⟩:=hf it (by simp);have hl:=rv.length;exact wpAny_pyNext_tuple_end (I.ok.hd hc) st (show s.heap.IsTuple a ND.toArray from p) (by simp;omega) fun h' eb=>⟨rfl,I.turned (t':=s.toks) (fun b o hb e=>eb b o hb e) f0 f1 f3 f4 f5⟩
 self:=fun _ _ _ _ _ st h=>wpAny_pyIter_tupleiter st h
def Ei(it:Addr)(lo:Int)(n:Nat):Turn P w K tg (Itr lo n) [it] it (fun i h=>IsRangeIter h it (lo+(i:Nat)*1) ((n:Int) - (i:Nat)) 1) where
 mem:=by simp
 obj:=fun i h st b hb=>by
  have e:b=it:=by simpa using hb
  subst e
  exact⟨_,st,fun v z=>by
   have z':Data.fields _=Data.cell v:=z;cases z'⟩
 keep:=fun i h h' st k=>k it (by simp) _ st
 item:=by
  intro X hP hw hK hc i Nz s σ H E I hf st hg;subst hP hw hK;obtain⟨f0,f1,f2,f3,f4,f5⟩:=hf it (by simp);have W:=Walks.range (prog:=X.prog) (w:=X.w) (I.ok.hd hc) it lo 1 n;refine W.item i s _ _ hg st fun v h' tk hv st' kk=>?_;obtain⟨t,rfl⟩:=hv;have I1:Inv X Nz σ H {s with heap:=h',toks:=tk}:=I.turned (fun b o hb e=>kk b o (by simpa using hb) e) f0 f1 f3 f4 f5;refine⟨_,rfl,AX (s:={s with heap:=h',toks:=tk}) (n:="range_iterator") st' rfl rfl #[1] ⟨.int (lo+i),H,I1,⟨t,?_⟩,⟨rfl,rfl⟩,st',fun b hb=>(hf b hb).1⟩⟩;rw[Int.mul_one]
 done:=by
  intro X hP hw hK hc i Nz s σ H E I hf st hg;subst hP hw hK;obtain⟨f0,f1,f2,f3,f4,f5⟩:=hf it (by simp);exact wpAny_pyNext_range_end (I.ok.hd hc) st (by have:n<=i:=hg;omega) fun h' eb=>⟨rfl,I.turned (t':=s.toks) (fun b o hb e=>eb b o hb e) f0 f1 f3 f4 f5⟩
 self:=fun _ _ _ _ _ st h=>wpAny_pyIter_rangeiter st h
section
variable{X:Cx}{tg:Expr}
def iList(K:Frag)(tl:TE):TI:=fun σ H R=>tl σ H fun x H1=>∃ a,x=.ref a/\(∃ xs,SqL K H1 a xs)/\R (Itl K a) H1
def iTup(K:Frag)(tl:TE):TI:=fun σ H R=>tl σ H fun x H1=>∃ a,x=.ref a/\(∃ xs,SqT K H1 a xs)/\R (Itt K a) H1
def aB{l:Expr}{tl:TE}(hl:PE X l tl):PI X tg l (iList X.K tl):=by
 intro Nz s σ H R I h;refine thn (hl Nz s σ H _ I h) fun v s1 ⟨x,H1,I1,r1,q1⟩=>?_;obtain⟨a,e,⟨xs,hq⟩,q⟩:=q1;subst e;cases r1;obtain⟨ND,rv,p,hz⟩:=I1.list hq;refine P6 p.isList ?_;refine⟨s1.heap.objs.size,[s1.heap.objs.size],_,_,H1,rfl,I1.kept (t':=s1.toks) fun b o e=>NQ _ e,Fv a _,⟨_,N7 _ rfl,rfl,rfl⟩,fun b hb=>?_,q⟩;have e:b=s1.heap.objs.size:=by simpa using hb
 subst e;exact I1.fpOk (NU _) (I1.hok.fresh (NU _))
def Fw{l:Expr}{tl:TE}(hl:PE X l tl):PI X tg l (iTup X.K tl):=by
 intro Nz s σ H R I h;refine thn (hl Nz s σ H _ I h) fun v s1 ⟨x,H1,I1,r1,q1⟩=>?_;obtain⟨a,e,⟨xs,hq⟩,q⟩:=q1;subst e;cases r1;obtain⟨ND,rv,p,hz⟩:=I1.tuple hq;refine wpAny_pyIter_tuple (show s1.heap.IsTuple a ND.toArray from p) ?_;refine⟨s1.heap.objs.size,[s1.heap.objs.size],_,_,H1,rfl,I1.kept (t':=s1.toks) fun b o e=>NQ _ e,Eh a _,⟨_,N7 _ rfl,rfl,rfl⟩,fun b hb=>?_,q⟩;have e:b=s1.heap.objs.size:=by simpa using hb
 subst e;exact I1.fpOk (NU _) (I1.hok.fresh (NU _))
def A5 {Nz:List (Addr × Obj)} {σ:St} {H:Hp} {s:Shared} {R:It->Hp->Prop} {E:Value->Shared->Prop} {lo hi:Int} {t u v:Tok} {tk:Nat} (I:Inv X Nz σ H s) (h1: -(2^62)<=lo) (h2:lo<2^62) (h3: -(2^62)<=hi) (h4:hi<2^62)
  (q:R (Itr lo (hi-lo).toNat) H):wpAny (model X.prog X.w) X.A (pyIter (.ref s.heap.objs.size)) (PIE X Nz σ tg R) E {s with heap:=s.heap.push {cls:=.type "range",data:=.fields #[.int lo t,.int hi u,.int 1 v]},toks:=tk}:=by
 refine wpAny_pyIter_range (IsRange.new ..) (small_one h1 h2 h3 h4) ?_;have I1:Inv X Nz σ H {s with heap:=s.heap.push {cls:=.type "range",data:=.fields #[.int lo t,.int hi u,.int 1 v]},toks:=tk}:=I.kept fun b o e=>NQ _ e
 refine⟨(s.heap.push {cls:=.type "range",data:=.fields #[.int lo t,.int hi u,.int 1 v]}).objs.size,[(s.heap.push {cls:=.type "range",data:=.fields #[.int lo t,.int hi u,.int 1 v]}).objs.size],_,_,H,rfl,
  I1.kept (t':=tk) fun b o e=>NQ _ e,Ei _ lo (hi-lo).toNat,?_,fun b hb=>?_,q⟩
 . have e1:lo+((0:Nat):Int)*1=lo:=by simp
   have e2:(((hi-lo).toNat:Nat):Int) - ((0:Nat):Int)=Builtin.Range.rangeSize lo hi 1:=by rw[rangeSize_one];split <;> omega
   show IsRangeIter _ _ (lo+((0:Nat):Int)*1) ((((hi-lo).toNat:Nat):Int) - ((0:Nat):Int)) 1;rw[e1,e2];exact N7 _ rfl
 . have e:b=(s.heap.push {cls:=.type "range",data:=.fields #[.int lo t,.int hi u,.int 1 v]}).objs.size:=by simpa using hb
   subst e;exact I1.fpOk (NU _) (I1.hok.fresh (NU _))
def cU(ta:TA):TI:=fun σ H R=>ta σ H fun vs H1=>∃ j:Int,vs=[.int j]/\ -(2^62)<=j/\j<2^62/\R (Itr 0 j.toNat) H1
def uB(ta:TA):TI:=fun σ H R=>ta σ H fun vs H1=>∃ i j:Int,vs=[.int i,.int j]/\(-(2^62)<=i/\i<2^62/\ -(2^62)<=j/\j<2^62)/\R (Itr i (j-i).toNat) H1
theorem bH{a:Expr}{ta:TA}{p pos:Pos}(hg:Gl X "range")(hm:X.mg "range"=none)(ha:PA X [a] ta)(hs:starEach [a] X.env=[(false,eval a X.env)]:=by rfl):PI X tg (.Call (.Name "range" p) [a] [] pos) (cU ta):=by
 intro Nz s σ H R I h;refine Call_ (gF I hg hm boot_range (OH (thn (ha pos Nz s σ H _ I h) fun us s1 ⟨vs,H1,I1,r1,q1⟩=>?_) hs rfl));obtain⟨j,e,q1,q2,q⟩:=q1;subst e
 cases r1 with
 | cons r rr=>
  cases rr;obtain⟨t,rfl⟩:=r;exact call_range_1 (A5 I1 #[0] #[0] q1 q2 (by simpa using q))
theorem zE{a b:Expr}{ta:TA}{p pos:Pos}(hg:Gl X "range")(hm:X.mg "range"=none)(ha:PA X [a,b] ta)(hs:starEach [a,b] X.env=[(false,eval a X.env),(false,eval b X.env)]:=by rfl)(hs2:starEach [b] X.env=[(false,eval b X.env)]:=by rfl):
  PI X tg (.Call (.Name "range" p) [a,b] [] pos) (uB ta):=by
 intro Nz s σ H R I h;refine Call_ (gF I hg hm boot_range (OH (thn (ha pos Nz s σ H _ I h) fun us s1 ⟨vs,H1,I1,r1,q1⟩=>?_) (by rw[hs,hs2]) (by rw[hs2];rfl)));obtain⟨i,j,e,⟨q1,q2,q3,q4⟩,q⟩:=q1;subst e
 cases r1 with
 | cons r rr=>
  cases rr with
  | cons r' rr=>
   cases rr;obtain⟨t,rfl⟩:=r;obtain⟨t',rfl⟩:=r';exact call_range_2 (A5 I1 q1 q2 q3 q4 q)
def tFor(wi:TI)(g:TG)(tb:TS):TS:=fun D σ H=>wi σ H fun J H1=>∃ W:Nat->Nat->St->Hp->Prop,(∃ m,W 0 m σ H1)/\∀ i m σ H,W i m σ H->
 (J.stop i H/\D.nx σ H)\/(J.go i H/\∃ N:St->Hp->Prop,(∀ σ' H',N σ' H'->∃ m',m'<m/\W (i+1) m' σ' H')/\∀ x H',J.yld i H x H'->g x σ H' fun σ2 H2=>tb {D with nx:=N,ct:=N,bk:=D.nx} σ2 H2)
def sy(fp:List Addr)(h:Heap):List (Addr × Obj):=fp.filterMap fun b=>(h.get? b).map fun o=>(b,o)
def mJ{fp:List Addr}{h:Heap}{b:Addr}{o:Obj}(hb:b∈fp)(e:h.get? b=some o):(b,o)∈sy fp h:=List.mem_filterMap.mpr ⟨b,hb,by rw[e];rfl⟩
theorem Fx{fp:List Addr}{h:Heap}{p:Addr × Obj}(hp:p∈sy fp h):p.1∈fp/\h.get? p.1=some p.2:=by
 obtain⟨b,hb,e⟩:=List.mem_filterMap.mp hp
 cases q:h.get? b with
 | none=>rw[q] at e;cases e
 | some o=>
  rw[q] at e;have e':(b,o)=p:=Pd e;subst e';exact⟨hb,q⟩
def Inv.pinned{Nz:List (Addr × Obj)}{σ:St}{H:Hp}{s:Shared}{fp:List Addr}(I:Inv X Nz σ H s)(hf:∀ b∈fp,FpOk X Nz H b)(ho:∀ b∈fp,∃ o,s.heap.get? b=some o/\∀ v,o.data≠.cell v):Inv X (Nz++sy fp s.heap) σ H s:=
 I.pins_of fun p hp=>(Oj.mp hp).elim (fun z=>I.pin p (OL _ z)) fun z=>by
  obtain⟨hb,e⟩:=Fx z;obtain⟨f0,f1,f2,_⟩:=hf p.1 hb;obtain⟨o,e',d⟩:=ho p.1 hb;rw[e] at e';cases e';exact⟨e,f0,f1,f2,d⟩
def Inv.unpinned{Nz pl:List (Addr × Obj)}{σ:St}{H:Hp}{s:Shared}(I:Inv X (Nz++pl) σ H s):Inv X Nz σ H s:=I.pins_of fun p hp=>I.pin p (OL _ (QC _ hp))
def bn {iter:Expr} {body:List Stmt} {wi:TI} {g:TG} {tb:TS} {pos:Pos} (hp:PassesOwn (model X.prog X.w) X.A X.env X.xe) (hc:X.calm=true) (hi:PI X tg iter wi) (hg:PG X tg g) (hb:PSs X body tb)
  (hs:∀ x,foldedSetIterable iter X.env x=pure x:=by intro _;rfl):PS X (.For tg iter body [] pos) (tFor wi g tb):=by
 intro Nz s σ H D I h;refine wpAny_For (thn (hi Nz s σ H _ I h) fun v s1 h1=>thn h1 fun itv s2 h2=>?_) hs;obtain⟨it,fp,tn,J,H2,e,I2,T,st2,f2,W,⟨m0,w0⟩,turn⟩:=h2;subst e;have stat:∀{H':Hp},(∀ b∈fp,H' b=none)->∀ b∈fp,FpOk X Nz H' b:=fun hn b hb=>⟨hn b hb,(f2 b hb).2⟩;refine codeAny_forLoop_any (fun n s'=>∃ i σ' H',Inv X Nz σ' H' s'/\tn i s'.heap/\(∀ b∈fp,H' b=none)/\W i n σ' H') ?_ m0 ⟨0,σ,H2,I2,st2,fun b hb=>(f2 b hb).1,w0⟩;rintro n s3 ⟨i,σ3,H3,I3,st3,fr3,w3⟩;rcases turn i n σ3 H3 w3 with ⟨stop,qn⟩ | ⟨go,N,hN,step⟩
 . refine Py hp (thn (T.done X rfl rfl rfl hc i Nz s3 σ3 H3 X.xe I3 (stat fr3) st3 stop) fun r s4 ⟨hr,I4⟩=>?_);subst hr;exact QE ⟨σ3,H3,I4,qn⟩
 . refine Py hp (thn (T.item X rfl rfl rfl hc i Nz s3 σ3 H3 X.xe I3 (stat fr3) st3 go) fun r s4 ⟨u,hr,h4⟩=>?_);subst hr;refine Py hp (thn h4 fun _ s5 ⟨x,H5,I5,r5,y5,st5,fr5⟩=>?_);have I5':=I5.pinned (stat fr5) (T.obj _ _ st5);refine Py hp (thn (hg _ s5 σ3 H5 x u _ I5' r5 (step x H5 y5)) fun _ s6 ⟨σ6,H6,I6,q6⟩=>?_);refine Py hp (thn (hb _ s6 σ6 H6 _ I6 q6) fun f s7 q7=>?_)
   have again:∀{σ7:St} {H7:Hp},Inv X (Nz++sy fp s5.heap) σ7 H7 s7->N σ7 H7->∃ m,m<n/\∃ i σ' H',Inv X Nz σ' H' s7/\tn i s7.heap/\(∀ b∈fp,H' b=none)/\W i m σ' H':=fun{σ7 H7} I7 n7=>by
    obtain⟨m',hm,w7⟩:=hN σ7 H7 n7;refine⟨m',hm,i+1,σ7,H7,I7.unpinned,T.keep _ _ _ st5 fun b hb o e=>(I7.pin (b,o) (OL _ (OL _ (mJ hb e)))).1,fun b hb=>?_,w7⟩;obtain⟨o,e,d⟩:=T.obj _ _ st5 b hb;exact(I7.pin (b,o) (OL _ (OL _ (mJ hb e)))).2.1
   cases f with
   | next=>obtain⟨σ7,H7,I7,n7⟩:=q7;exact again I7 n7
   | cont=>obtain⟨σ7,H7,I7,n7⟩:=q7;exact again I7 n7
   | brk=>obtain⟨σ7,H7,I7,q7⟩:=q7;exact⟨σ7,H7,I7.unpinned,q7⟩
   | ret v=>obtain⟨x7,σ7,H7,I7,r7,q7⟩:=q7;exact⟨x7,σ7,H7,I7.unpinned,r7,q7⟩
end
def b7 {K:Frag} {a:Addr} {xs:List V} {g:TG} {tb:TS} {D:Ends} {σ:St} {H:Hp} (Pv:Nat->St->Hp->Prop) (h0:Pv 0 σ H) (hl:∀ i σ H,i<=xs.length->Pv i σ H->SqL K H a xs)
  (hs:∀ i x σ H,xs[i]? =some x->Pv i σ H->g x σ H fun σ2 H2=>tb {D with nx:=Pv (i+1),ct:=Pv (i+1),bk:=D.nx} σ2 H2) (hd:∀ σ H,Pv xs.length σ H->D.nx σ H):
  ∃ W:Nat->Nat->St->Hp->Prop,(∃ m,W 0 m σ H)/\∀ i m σ H,W i m σ H->
   ((Itl K a).stop i H/\D.nx σ H)\/((Itl K a).go i H/\∃ N:St->Hp->Prop,(∀ σ' H',N σ' H'->∃ m',m'<m/\W (i+1) m' σ' H')/\∀ x H',(Itl K a).yld i H x H'->g x σ H' fun σ2 H2=>tb {D with nx:=N,ct:=N,bk:=D.nx} σ2 H2):=by
 refine⟨fun i m σ H=>m=xs.length-i/\i<=xs.length/\Pv i σ H,⟨xs.length,by simp,Ox _,h0⟩,?_⟩;rintro i m σ H ⟨rfl,hi,p⟩;have q:=hl i σ H hi p;by_cases hlt:i<xs.length
 . refine .inr ⟨⟨xs,xs[i],q,by simp[hlt]⟩,Pv (i+1),fun σ' H' p'=>⟨xs.length - (i+1),by omega,rfl,hlt,p'⟩,fun x H' y=>?_⟩;obtain⟨e,y⟩:=y;subst e;exact hs i x σ _ (y xs q) p
 . have e:i=xs.length:=by omega
   subst e;exact .inl ⟨⟨xs,q,NU _⟩,hd σ H p⟩
def or {lo:Int} {n:Nat} {g:TG} {tb:TS} {D:Ends} {σ:St} {H:Hp} (Pv:Nat->St->Hp->Prop) (h0:Pv 0 σ H)
  (hs:∀ i σ H,i<n->Pv i σ H->g (.int (lo+i)) σ H fun σ2 H2=>tb {D with nx:=Pv (i+1),ct:=Pv (i+1),bk:=D.nx} σ2 H2) (hd:∀ σ H,Pv n σ H->D.nx σ H):
  ∃ W:Nat->Nat->St->Hp->Prop,(∃ m,W 0 m σ H)/\∀ i m σ H,W i m σ H->
   ((Itr lo n).stop i H/\D.nx σ H)\/((Itr lo n).go i H/\∃ N:St->Hp->Prop,(∀ σ' H',N σ' H'->∃ m',m'<m/\W (i+1) m' σ' H')/\∀ x H',(Itr lo n).yld i H x H'->g x σ H' fun σ2 H2=>tb {D with nx:=N,ct:=N,bk:=D.nx} σ2 H2):=by
 refine⟨fun i m σ H=>m=n-i/\i<=n/\Pv i σ H,⟨n,by simp,Ox _,h0⟩,?_⟩;rintro i m σ H ⟨rfl,hi,p⟩;by_cases hlt:i<n
 . refine .inr ⟨hlt,Pv (i+1),fun σ' H' p'=>⟨n - (i+1),by omega,rfl,hlt,p'⟩,fun x H' y=>?_⟩;obtain⟨e,y⟩:=y;subst e y;exact hs i σ _ hlt p
 . have e:i=n:=by omega
   subst e;exact .inl ⟨NU _,hd σ H p⟩
abbrev R2:=V->V->Hp->VK->Prop
def OpR(X:Cx)(f:Value->Value->Sem Value)(r:R2):Prop:=
 ∀(Nz:List (Addr × Obj)) (s:Shared) (σ:St) (H:Hp) (x y:V) (v u:Value) (Q:VK),Inv X Nz σ H s->RelV x v->RelV y u->r x y H Q->
  wpAny (model X.prog X.w) X.A (f v u) (EP X Nz σ Q) X.xe s
def UnR(X:Cx)(f:Value->Sem Value)(r:V->Hp->VK->Prop):Prop:=
 ∀(Nz:List (Addr × Obj)) (s:Shared) (σ:St) (H:Hp) (x:V) (v:Value) (Q:VK),Inv X Nz σ H s->RelV x v->r x H Q->
  wpAny (model X.prog X.w) X.A (f v) (EP X Nz σ Q) X.xe s
def CallR(X:Cx)(f:Value)(r:List V->Hp->VK->Prop):Prop:=
 ∀(Nz:List (Addr × Obj)) (s:Shared) (σ:St) (H:Hp) (xs:List V) (us:List Value) (Q:VK),Inv X Nz σ H s->Vals xs us->r xs H Q->
  wpAny (model X.prog X.w) X.A (call f us) (EP X Nz σ Q) X.xe s
def tOp(r:R2)(ta tb:TE):TE:=fun σ H Q=>ta σ H fun x H1=>tb σ H1 fun y H2=>r x y H2 Q
def tUn(r:V->Hp->VK->Prop)(ta:TE):TE:=fun σ H Q=>ta σ H fun x H1=>r x H1 Q
def rI(C:Int->Int->Prop)(g:Int->Int->V):R2:=fun x y H Q=>∃ i j,x=.int i/\y=.int j/\C i j/\Q (g i j) H
def rI0(g:Int->Int->V):R2:=fun x y H Q=>∃ i j,x=.int i/\y=.int j/\Q (g i j) H
def rU(g:Int->V):V->Hp->VK->Prop:=fun x H Q=>∃ i,x=.int i/\Q (g i) H
section
variable{X:Cx}{a b c:Expr}{ta tb tc:TE}{pos:Pos}
def binT (ha:PE X a ta) (hb:PE X b tb) {Nz:List (Addr × Obj)} {s:Shared} {σ:St} {H:Hp} {R:V->V->Hp->Prop} (I:Inv X Nz σ H s)
  (h:ta σ H fun x H1=>tb σ H1 fun y H2=>R x y H2) {Q:Value->Shared->Prop} {f:Value->Value->Sem Value}
  (hf:∀ v u s2 x y H2,Inv X Nz σ H2 s2->RelV x v->RelV y u->R x y H2->wpAny (model X.prog X.w) X.A (f v u) Q X.xe s2):
  wpAny (model X.prog X.w) X.A (eval a X.env) (fun v s₁=>wpAny (model X.prog X.w) X.A (eval b X.env) (fun u s₂=>wpAny (model X.prog X.w) X.A (f v u) Q X.xe s₂) X.xe s₁) X.xe s:=by
 refine thn (ha Nz s σ H _ I h) fun v s1 ⟨x,H1,I1,r1,q1⟩=>?_;refine thn (hb Nz s1 σ H1 _ I1 q1) fun u s2 ⟨y,H2,I2,r2,q2⟩=>?_;exact hf v u s2 x y H2 I2 r1 r2 q2
def am{op:Operator}{r:R2}(ho:OpR X (binaryOp op) r)(ha:PE X a ta)(hb:PE X b tb):PE X (.BinOp a op b pos) (tOp r ta tb):=by
 intro Nz s σ H Q I h;exact wpAny_BinOp (binT ha hb I h fun v u s2 x y H2 I2 rx ry q=>ho Nz s2 σ H2 x y v u Q I2 rx ry q)
def Ej{op:UnaryOp}{r:V->Hp->VK->Prop}(ho:UnR X (unaryOp op) r)(ha:PE X a ta):PE X (.UnaryOp op a pos) (tUn r ta):=by
 intro Nz s σ H Q I h;exact UnaryOp_ (thn (ha Nz s σ H _ I h) fun v s1 ⟨x,H1,I1,r1,q1⟩=>ho Nz s1 σ H1 x v Q I1 r1 q1)
def opI {f:Value->Value->Sem Value} {C:Int->Int->Prop} {g:Int->Int->Int}
  (rule:∀(i j:Int) (t u:Tok) (s:Shared) (Q:Value->Shared->Prop) (E:Value->Shared->Prop),C i j->Q (.int (g i j) s.toks) {s with toks:=s.toks+1}->wpAny (model X.prog X.w) X.A (f (.int i t) (.int j u)) Q E s):
  OpR X f (rI C fun i j=>.int (g i j)):=by
 intro Nz s σ H x y v u Q I rx ry h;obtain⟨i,j,rfl,rfl,hc,q⟩:=h;obtain⟨t,rfl⟩:=rx;obtain⟨t',rfl⟩:=ry;exact rule i j t t' s _ _ hc ⟨.int (g i j),H,I.tok _,⟨_,rfl⟩,q⟩
def Ek {f:Value->Value->Sem Value} {g:Int->Int->Int}
  (rule:∀(i j:Int) (t u:Tok) (s:Shared) (Q:Value->Shared->Prop) (E:Value->Shared->Prop),Q (.int (g i j) s.toks) {s with toks:=s.toks+1}->wpAny (model X.prog X.w) X.A (f (.int i t) (.int j u)) Q E s):
  OpR X f (rI0 fun i j=>.int (g i j)):=by
 intro Nz s σ H x y v u Q I rx ry h;obtain⟨i,j,rfl,rfl,q⟩:=h;obtain⟨t,rfl⟩:=rx;obtain⟨t',rfl⟩:=ry;exact rule i j t t' s _ _ ⟨.int (g i j),H,I.tok _,⟨_,rfl⟩,q⟩
def El {f:Value->Value->Sem Value} {g:Int->Int->Bool}
  (rule:∀(i j:Int) (t u:Tok) (s:Shared) (Q:Value->Shared->Prop) (E:Value->Shared->Prop),Q (.bool (g i j)) s->wpAny (model X.prog X.w) X.A (f (.int i t) (.int j u)) Q E s):
  OpR X f (rI0 fun i j=>.bl (g i j)):=by
 intro Nz s σ H x y v u Q I rx ry h;obtain⟨i,j,rfl,rfl,q⟩:=h;obtain⟨t,rfl⟩:=rx;obtain⟨t',rfl⟩:=ry;exact rule i j t t' s _ _ ⟨.bl (g i j),H,I,rfl,q⟩
def CDiv(i j:Int):Prop:=0<j/\j<1073741824
def CPow(i j:Int):Prop:=0<=j/\j<=1000000/\i.natAbs<2^64
def CMul(i j:Int):Prop:=(-(2^64)<i/\i<2^64)\/(-(2^64)<j/\j<2^64)
def CMul.ok{i j:Int}(h:CMul i j):IntMulOk i j:=by
 rcases h with ⟨h1,h2⟩ | ⟨h1,h2⟩
 . exact .of_left (intBits_le_64 h1 h2)
 . exact .of_right (intBits_le_64 h1 h2)
def Em(k:Nat):(0:Int)<=2^k:=by
 rw[two_pow_cast];exact Int.natCast_nonneg _
def I0:OpR X (binaryOp .Add) (rI0 fun i j=>.int (i+j)):=Ek fun _ _ _ _ _ _ _ q=>add_int q
def Ja:OpR X (binaryOp .Sub) (rI0 fun i j=>.int (i-j)):=Ek fun _ _ _ _ _ _ _ q=>sub_int q
def Jb:OpR X (binaryOp .Mult) (rI CMul fun i j=>.int (i*j)):=opI fun _ _ _ _ _ _ _ hc q=>mul_int q hc.ok
def HP:OpR X (binaryOp .FloorDiv) (rI CDiv fun i j=>.int (i/j)):=opI fun i j _ _ _ _ _ hc q=>by
 have h1:(0:Int)<j:=hc.1;have h2:j<1073741824:=hc.2;exact floordiv_int #[0] (by rw[P9 i #[0]];exact q) (.inl (Rv #[0]))
def Jc:OpR X (binaryOp .Mod) (rI (fun _ j=>0<j) fun i j=>.int (i%j)):=opI fun i j _ _ _ _ _ hc q=>by
 have h1:(0:Int)<j:=hc;exact mod_int' #[0] (by rw[QR i #[0]];exact q)
def Jd:OpR X (binaryOp .LShift) (rI CPow fun i j=>.int (i*2^j.toNat)):=opI fun _ _ _ _ _ _ _ hc q=>lshift_int_small hc.1 hc.2.1 hc.2.2 q
def Je:OpR X (binaryOp .RShift) (rI (fun _ j=>0<=j) fun i j=>.int (i/2^j.toNat)):=opI fun i j _ _ _ _ _ hc q=>
 rshift_int hc (by rw[P9 i (Em _)];exact q)
def Jf:OpR X (binaryOp .BitAnd) (rI0 fun i j=>.int (Builtin.bitAnd i j)):=Ek fun _ _ _ _ _ _ _ q=>and_int q
def J5:OpR X (binaryOp .BitOr) (rI0 fun i j=>.int (Builtin.bitOr i j)):=Ek fun _ _ _ _ _ _ _ q=>or_int q
def unI {f:Value->Sem Value} {g:Int->Int}
  (rule:∀(i:Int) (t:Tok) (s:Shared) (Q:Value->Shared->Prop) (E:Value->Shared->Prop),Q (.int (g i) s.toks) {s with toks:=s.toks+1}->wpAny (model X.prog X.w) X.A (f (.int i t)) Q E s):
  UnR X f (rU fun i=>.int (g i)):=by
 intro Nz s σ H x v Q I rx h;obtain⟨i,rfl,q⟩:=h;obtain⟨t,rfl⟩:=rx;exact rule i t s _ _ ⟨.int (g i),H,I.tok _,⟨_,rfl⟩,q⟩
def A6:UnR X (unaryOp .USub) (rU fun i=>.int (-i)):=unI fun _ _ _ _ _ q=>neg_int q
end
def scal:V->V->Bool
 | .non,.non=>true | .non,.int _=>true | .int _,.non=>true | .non,.bl _=>true | .bl _,.non=>true | .non,.str _=>true | .str _,.non=>true
 | .int _,.int _=>true | .bl _,.bl _=>true | .str _,.str _=>true | .byt _,.byt _=>true
 | .int _,.str _=>true | .str _,.int _=>true | .bl _,.str _=>true | .str _,.bl _=>true
 | _,_=>false
def rEq:R2:=fun x y H Q=>scal x y=true/\Q (.bl (decide (x=y))) H
def rNe:R2:=fun x y H Q=>scal x y=true/\Q (.bl (!decide (x=y))) H
def DC{i j:Int}:decide (V.int i=V.int j)=(i==j):=by
 rw[Oi];simp
def Fy{i j:Bool}:decide (V.bl i=V.bl j)=(i==j):=by
 rw[Oi];simp
def DD{i j:Str}:decide (V.str i=V.str j)=(i==j):=by
 rw[Oi];simp
def DE{i j:Array UInt8}:decide (V.byt i=V.byt j)=(i.toList==j.toList):=by
 rw[Oi];cases i;cases j;simp
section
variable{X:Cx}{a b c:Expr}{ta tb tc:TE}{pos:Pos}
def aZ{Nz:List (Addr × Obj)}{σ:St}{H:Hp}{s:Shared}{Q:VK}{k k':Bool}(I:Inv X Nz σ H s)(q:Q (.bl k) H)(e:k=k'):EP X Nz σ Q (.bool k') s:=by
 subst e;exact⟨.bl k,H,I,rfl,q⟩
theorem En:OpR X (compareOp .Eq) rEq:=by
 intro Nz s σ H x y v u Q I rx ry h;obtain⟨hs,q⟩:=h
 cases x with
 | non=>
  cases rx
  cases y with
  | non=>cases ry;exact PySem.EqNone.eq_none_none (aZ I q (by simp))
  | bl j=>cases ry;exact PySem.EqNone.eq_none_bool (aZ I q (by simp))
  | int j=>obtain⟨t',rfl⟩:=ry;exact PySem.EqNone.eq_none_int (aZ I q (by simp))
  | str j=>obtain⟨t',rfl⟩:=ry;exact PySem.EqNone.eq_none_str (aZ I q (by simp))
  | _=>exact absurd (show false=true from hs) NW
 | bl i=>
  cases rx
  cases y with
  | non=>cases ry;exact PySem.EqNone.eq_bool_none (aZ I q (by simp))
  | bl j=>cases ry;exact eq_bool (aZ I q Fy)
  | str j=>obtain⟨t',rfl⟩:=ry;exact PySem.EqMixed.eq_bool_str (aZ I q (by simp))
  | _=>exact absurd (show false=true from hs) NW
 | int i=>
  obtain⟨t,rfl⟩:=rx
  cases y with
  | non=>cases ry;exact PySem.EqNone.eq_int_none (aZ I q (by simp))
  | int j=>obtain⟨t',rfl⟩:=ry;exact eq_int (aZ I q DC)
  | str j=>obtain⟨t',rfl⟩:=ry;exact PySem.EqMixed.eq_int_str (aZ I q (by simp))
  | _=>exact absurd (show false=true from hs) NW
 | str i=>
  obtain⟨t,rfl⟩:=rx
  cases y with
  | non=>cases ry;exact PySem.EqNone.eq_str_none (aZ I q (by simp))
  | bl j=>cases ry;exact PySem.EqMixed.eq_str_bool (aZ I q (by simp))
  | int j=>obtain⟨t',rfl⟩:=ry;exact PySem.EqMixed.eq_str_int (aZ I q (by simp))
  | str j=>obtain⟨t',rfl⟩:=ry;exact eq_str (aZ I q DD)
  | _=>exact absurd (show false=true from hs) NW
 | byt i=>
  obtain⟨t,rfl⟩:=rx
  cases y with
  | byt j=>obtain⟨t',rfl⟩:=ry;exact PySem.W.eq_bytes (aZ I q DE)
  | _=>exact absurd (show false=true from hs) NW
 | _=>cases y <;> exact absurd (show false=true from hs) NW
theorem Eo:OpR X (compareOp .NotEq) rNe:=by
 intro Nz s σ H x y v u Q I rx ry h;obtain⟨hs,q⟩:=h
 cases x with
 | non=>
  cases rx
  cases y with
  | non=>cases ry;exact PySem.EqNone.ne_none_none (aZ I q (by simp))
  | bl j=>cases ry;exact PySem.EqNone.ne_none_bool (aZ I q (by simp))
  | int j=>obtain⟨t',rfl⟩:=ry;exact PySem.EqNone.ne_none_int (aZ I q (by simp))
  | str j=>obtain⟨t',rfl⟩:=ry;exact PySem.EqNone.ne_none_str (aZ I q (by simp))
  | _=>exact absurd (show false=true from hs) NW
 | bl i=>
  cases rx
  cases y with
  | non=>cases ry;exact PySem.EqNone.ne_bool_none (aZ I q (by simp))
  | bl j=>cases ry;exact ne_bool (aZ I q (congrArg not Fy))
  | str j=>obtain⟨t',rfl⟩:=ry;exact PySem.EqMixed.ne_bool_str (aZ I q (by simp))
  | _=>exact absurd (show false=true from hs) NW
 | int i=>
  obtain⟨t,rfl⟩:=rx
  cases y with
  | non=>cases ry;exact PySem.EqNone.ne_int_none (aZ I q (by simp))
  | int j=>obtain⟨t',rfl⟩:=ry;exact ne_int (aZ I q (congrArg not DC))
  | str j=>obtain⟨t',rfl⟩:=ry;exact PySem.EqMixed.ne_int_str (aZ I q (by simp))
  | _=>exact absurd (show false=true from hs) NW
 | str i=>
  obtain⟨t,rfl⟩:=rx
  cases y with
  | non=>cases ry;exact PySem.EqNone.ne_str_none (aZ I q (by simp))
  | bl j=>cases ry;exact PySem.EqMixed.ne_str_bool (aZ I q (by simp))
  | int j=>obtain⟨t',rfl⟩:=ry;exact PySem.EqMixed.ne_str_int (aZ I q (by simp))
  | str j=>obtain⟨t',rfl⟩:=ry;exact ne_str (aZ I q (congrArg not DD))
  | _=>exact absurd (show false=true from hs) NW
 | byt i=>
  obtain⟨t,rfl⟩:=rx
  cases y with
  | byt j=>obtain⟨t',rfl⟩:=ry;exact PySem.W.ne_bytes (aZ I q (congrArg not DE))
  | _=>exact absurd (show false=true from hs) NW
 | _=>cases y <;> exact absurd (show false=true from hs) NW
def J6:OpR X (compareOp .Lt) (rI0 fun i j=>.bl (decide (i<j))):=El fun _ _ _ _ _ _ _ q=>lt_int q
def J7:OpR X (compareOp .LtE) (rI0 fun i j=>.bl (decide (i<=j))):=El fun _ _ _ _ _ _ _ q=>le_int q
def J8:OpR X (compareOp .Gt) (rI0 fun i j=>.bl (decide (j<i))):=El fun _ _ _ _ _ _ _ q=>gt_int q
def J9:OpR X (compareOp .GtE) (rI0 fun i j=>.bl (decide (j<=i))):=El fun _ _ _ _ _ _ _ q=>ge_int q
def Fz:OpR X (compareOp .In) (fun x y H Q=>∃ i j,x=.str i/\y=.str j/\Q (.bl (!(Builtin.Str.occurrences j i 0 j.length 1).isEmpty)) H):=by
 intro Nz s σ H x y v u Q I rx ry h;obtain⟨i,j,rfl,rfl,q⟩:=h;obtain⟨t,rfl⟩:=rx;obtain⟨t',rfl⟩:=ry;exact in_str (aZ I q rfl)
def FA:OpR X (compareOp .Is) (fun x y H Q=>y=.non/\Q (.bl (decide (x=.non))) H):=by
 intro Nz s σ H x y v u Q I rx ry h;obtain⟨rfl,q⟩:=h;cases ry;refine is_none_gen (aZ I q ?_)
 cases x <;> first
  | (cases rx;rfl)
  | (obtain⟨t,rfl⟩:=rx;rfl)
def HQ:OpR X (compareOp .IsNot) (fun x y H Q=>y=.non/\Q (.bl (!decide (x=.non))) H):=by
 intro Nz s σ H x y v u Q I rx ry h;obtain⟨rfl,q⟩:=h;cases ry;refine isnot_none_gen (aZ I q ?_)
 cases x <;> first
  | (cases rx;rfl)
  | (obtain⟨t,rfl⟩:=rx;rfl)
def aj(b:Expr){op:CmpOp}(h:op≠.In:=by decide)(h2:op≠.NotIn:=by decide):behindInMarks op b=false:=by
 have e1:(op==CmpOp.In)=false:=by cases op <;> first | rfl | exact absurd rfl h
 have e2:(op==CmpOp.NotIn)=false:=by cases op <;> first | rfl | exact absurd rfl h2
 cases b <;> simp[behindInMarks,e1,e2]
def aE{op:CmpOp}{r:R2}(ho:OpR X (compareOp op) r)(ha:PE X a ta)(hb:PE X b tb)(hm:behindInMarks op b=false):PE X (.Compare a [op] [b] pos) (tOp r ta tb):=by
 intro Nz s σ H Q I h;exact wpAny_Compare1 (binT ha hb I h fun v u s2 x y H2 I2 rx ry q=>ho Nz s2 σ H2 x y v u Q I2 rx ry q) hm
def tTest(t:TE):TT:=fun σ H Q=>t σ H fun x H'=>∃ k,x=.bl k/\Q k H'
def ak{op:CmpOp}{r:R2}(ho:OpR X (compareOp op) r)(ha:PE X a ta)(hb:PE X b tb)(hm:behindInMarks op b=false):PT X (.Compare a [op] [b] pos) (tTest (tOp r ta tb)):=by
 intro Nz s σ H Q I h
 refine wpAny_isTrue_Compare1 (thn (ha Nz s σ H _ I h) fun v s1 ⟨x,H1,I1,r1,q1⟩=>thn (hb Nz s1 σ H1 _ I1 q1) fun u s2 ⟨y,H2,I2,r2,q2⟩=>
  thn (ho Nz s2 σ H2 x y v u _ I2 r1 r2 q2) fun c s3 ⟨z,H3,I3,r3,k,e,q3⟩=>?_) hm
 subst e;cases r3;exact O4 ⟨H3,I3,q3⟩
def wQ(r r':R2)(ta tb tc:TE):TE:=fun σ H Q=>ta σ H fun x H1=>tb σ H1 fun y H2=>r x y H2 fun z H3=>∃ k,z=.bl k/\
 (if k=true then tc σ H3 fun w' H4=>r' y w' H4 Q else Q (.bl false) H3)
theorem A7 {op op':CmpOp} {r r':R2} (ho:OpR X (compareOp op) r) (ho':OpR X (compareOp op') r') (ha:PE X a ta) (hb:PE X b tb) (hc:PE X c tc)
  (hm:lastMarks [op,op'] [b,c]=false:=by with_unfolding_all rfl):PT X (.Compare a [op,op'] [b,c] pos) (tTest (wQ r r' ta tb tc)):=by
 intro Nz s σ H Q I h
 refine isTrue_chain (thn (ha Nz s σ H _ I h) fun v s1 ⟨x,H1,I1,r1,q1⟩=>test_link (thn (hb Nz s1 σ H1 _ I1 q1) fun u s2 ⟨y,H2,I2,r2,q2⟩=>
  thn (ho Nz s2 σ H2 x y v u _ I2 r1 r2 q2) fun d s3 ⟨z,H3,I3,r3,k,e,q3⟩=>?_)) hm
 subst e;cases r3;refine O4 ?_
 cases k with
 | false=>
  obtain⟨k',e',q'⟩:=q3;cases e';exact ite_ff ⟨H3,I3,q'⟩
 | true=>
  refine ite_tt (test_last (thn (hc Nz s3 σ H3 _ I3 q3) fun w' s4 ⟨z',H4,I4,r4,q4⟩=>thn (ho' Nz s4 σ H4 y z' u w' _ I4 r2 r4 q4) fun d' s5 ⟨z2,H5,I5,r5,k2,e2,q5⟩=>?_));subst e2;cases r5;exact O4 ⟨H5,I5,q5⟩
def sA:(sizeLine:Nat)<2^63:=by rw[RN];decide
def Ep:OpR X (binaryOp .Add) (fun x y H Q=>∃ i j,x=.str i/\y=.str j/\i.length+j.length<=sizeLine/\Q (.str (i++j)) H):=by
 intro Nz s σ H x y v u Q I rx ry h;obtain⟨i,j,rfl,rfl,hz,q⟩:=h;obtain⟨t,rfl⟩:=rx;obtain⟨t',rfl⟩:=ry;exact add_str (fun t' tk=>⟨.str (i++j),H,I.tok _,⟨_,rfl⟩,q⟩) hz
theorem fj{x:V}{us:List Value}(r:Vals [x] us):∃ u,us=[u]/\RelV x u:=by
 cases r with
 | cons r1 r2=>cases r2;exact⟨_,rfl,r1⟩
theorem wR{x y:V}{us:List Value}(r:Vals [x,y] us):∃ u w',us=[u,w']/\RelV x u/\RelV y w':=by
 cases r with
 | cons r1 r2=>
  cases r2 with
  | cons r3 r4=>cases r4;exact⟨_,_,rfl,r1,r3⟩
def FB(hc:X.calm=true):CallR X (.builtin "max") (fun xs H Q=>∃ i j,xs=[.int i,.int j]/\Q (.int (if j>i then j else i)) H):=by
 intro Nz s σ H xs us Q I r h;obtain⟨i,j,rfl,q⟩:=h;obtain⟨u,w',rfl,⟨t,rfl⟩,⟨t',rfl⟩⟩:=wR r;refine max_two_ints (I.ok.hd hc) fun h' tk k=>⟨_,H,I.kept k,?_,q⟩;by_cases hj:j>i
 . rw[Oh hj,Oh hj];exact⟨_,rfl⟩
 . rw[Ob hj,Ob hj];exact⟨_,rfl⟩
def FC(hc:X.calm=true):CallR X (.builtin "min") (fun xs H Q=>∃ i j,xs=[.int i,.int j]/\Q (.int (if j<i then j else i)) H):=by
 intro Nz s σ H xs us Q I r h;obtain⟨i,j,rfl,q⟩:=h;obtain⟨u,w',rfl,⟨t,rfl⟩,⟨t',rfl⟩⟩:=wR r;refine min_two_ints (I.ok.hd hc) fun h' tk k=>⟨_,H,I.kept k,?_,q⟩;by_cases hj:j<i
 . rw[Oh hj,Oh hj];exact⟨_,rfl⟩
 . rw[Ob hj,Ob hj];exact⟨_,rfl⟩
def zF:CallR X (.type "int") (fun xs H Q=>(∃ i,xs=[.int i]/\Q (.int i) H)\/∃ k,xs=[.bl k]/\Q (.int (if k then 1 else 0)) H):=by
 intro Nz s σ H xs us Q I r h;rcases h with ⟨i,rfl,q⟩ | ⟨k,rfl,q⟩
 . obtain⟨u,rfl,t,rfl⟩:=fj r;exact call_int_int ⟨.int i,H,I,⟨_,rfl⟩,q⟩
 . obtain⟨u,rfl,r1⟩:=fj r;cases r1;exact call_int_bool ⟨.int (if k then 1 else 0),H,I.tok _,⟨_,rfl⟩,q⟩
def C4:CallR X (.builtin "divmod") (fun xs H Q=>∃ i j,xs=[.int i,.int j]/\CDiv i j/\∀ p,H p=none->Q (.ref p) (upd H p (.tup [.int (i/j),.int (i%j)]))):=by
 intro Nz s σ H xs us Q I r h;obtain⟨i,j,rfl,⟨h1,h2⟩,q⟩:=h;obtain⟨u,w',rfl,⟨t,rfl⟩,⟨t',rfl⟩⟩:=wR r;refine divmod_int #[0] ?_ (.inl (Rv #[0]));rw[P9 i #[0],QR i #[0]];have hn:H s.heap.objs.size=none:=I.hok.fresh (NU _);refine⟨.ref s.heap.objs.size,_,?_,rfl,q _ hn⟩;refine I.laid (fun b o e=>NQ _ e) (NU _) ⟨by simp only[Oq,RE];rw[RN];decide,[.int (i/j) s.toks,.int (i%j) (s.toks+1)],.cons ⟨_,rfl⟩ (.cons ⟨_,rfl⟩ .nil),?_⟩;exact⟨_,N7 s.heap rfl,rfl,0,rfl⟩
end
structure ObjM(h:Heap)(x dx C:Addr)(mA:Str->Option Value):Prop where
 obj:h.get? x=some (PySem.W.instObj C dx)
 ns:h.Ns1 dx mA
 ne:dx≠x
variable{mA:Str->Option Value}
def FD{h:Heap}{dx:Addr}(n:h.Ns1 dx mA):∃ od,h.get? dx=some od/\∀ name,PySem.W.lookIn name od=some (mA name):=by
 obtain⟨o,es,ep,ho,hd,hk,_,hm⟩:=n;refine⟨o,ho,fun name=>?_⟩;have e:=hm name;unfold nsFind findBy at e;rw[← Array.find?_toList] at e;unfold PySem.W.lookIn;rw[hd];dsimp only
 split
 . rename_i y q
   rw[q] at e;exact congrArg some e
 . rename_i q
   rw[q] at e
   have a:es.toList.any (·.refKey)=false:=by
    rw[List.any_eq_false];intro y hy;obtain⟨z,t,hkey⟩:=hk y (Array.mem_toList_iff.mp hy);simp[DictEntry.refKey,hkey]
   have a':¬ es.toList.any (·.refKey)=true:=by rw[a];exact NW
   rw[Ob a'];exact congrArg some e
variable{C:Addr}
def ObjM.look{h:Heap}{x dx:Addr}(I:ObjM h x dx C mA):∃ od,PySem.W.InstAt h x (PySem.W.instObj C dx) C (some od)/\∀ name,PySem.W.lookIn name od=some (mA name):=
 let ⟨od,ho,hl⟩:=FD I.ns
 ⟨od,⟨I.obj,rfl,rfl,ho⟩,hl⟩
section
variable{prog:Program}{w:World}{A:Around}{E:Value->Shared->Prop}{s:Shared}{K:Frag}{x dx C f:Addr}{mA:Str->Option Value}{name:Str}{v:Value}
def HR {expr:Bool} {Q:Value->Shared->Prop} (X:K.In s.heap) (I:ObjM s.heap x dx C mA) (hg:PySem.W.plainGet K C name=true) (hh:PySem.W.hasDictIn K C=true)
  (ha:findIn K (.ref C) name=some none) (hv:mA name=some v) (hv':PySem.W.handedIn v=true) (h:Q v {s with toks:=s.toks+1}):
  wpAny (model prog w) A (getAttr (.ref x) name expr) Q E s:=by
 obtain⟨od,J,hl⟩:=I.look;exact PySem.W.get_value X J (QJ hg).1 (PySem.W.findObj_own hh ha rfl (by rw[hl,hv])) hv' h
def GW {pl:Sem Bool} {Q:Value × List Value->Shared->Prop} (X:K.In s.heap) (I:ObjM s.heap x dx C mA) (hg:PySem.W.plainGet K C name=true)
  (hf:findIn K (.ref C) name=some ↑f) (ht:isFn K (.ref f)=true) (hv:mA name=none) (h:Q (.ref f,[.ref x]) s):
  wpAny (model prog w) A (getMethod (.ref x) name pl) Q E s:=by
 obtain⟨od,J,hl⟩:=I.look;exact PySem.W.method_fn X J (QJ hg).1 (QJ hg).2 hf (Pe.mp ht) (by show(PySem.W.lookIn name od).map (·.isSome)=some false;rw[hl,hv];rfl) h
def HS {ns:List Str} {Q:Unit->Shared->Prop} (X:K.In s.heap) (I:ObjM s.heap x dx C mA)
  (hs:findIn K (.ref C) "__setattr__"=some (some (.builtin "object.__setattr__"))) (hp:PySem.W.plainOver K C=true) (ht:PySem.W.takerIn K C name=some none) (hh:PySem.W.hasDictIn K C=true)
  (hw:PySem.Within mA ns) (hsz:ns.length<=sizeLine)
  (h:∀ h',ObjM h' x dx C (fun y=>if y=name then some v else mA y)->Heap.SameBut dx s.heap h'->Q () {s with heap:=h',toks:=s.toks+2}):
  wpAny (model prog w) A (setAttr (.ref x) name v) Q E s:=by
 obtain⟨od,J,hl⟩:=I.look;refine PySem.W.set_plain X J hs (PySem.W.osa_open (s:={s with toks:=s.toks+1}) (r:=none) X J hp ht fun b=>?_);obtain⟨cd,hc,hd'⟩:=PySem.W.any_some hh;have hx:s.heap.get? x=some ⟨.ref C,some dx,.plain,#[]⟩:=I.obj;refine NM (NT (NM (NM (wpAny_loadPart hx (NM (PySem.W.Looks.here (s:={s with toks:=s.toks+1}) (PySem.W.looks_clsIn X hc) ?_))))));rw[hd'];refine NT (a:=some dx) (NM (NT (NM ?_)));refine wpAny_nsSet1 (s:={s with toks:=s.toks+1}) I.ns fun h' hn2 hs2=>?_;obtain⟨oD,esD,epD,hoD,hdD,hcD⟩:=hn2.count (PySem.Within.cons name v hw);refine NM (wpAny_lookBehind hoD (by rw[hdD];exact pastItsLine_dict (NS hcD (by rw[Oq];omega))) ?_);exact NT (h _ ⟨(hs2.2 _ (Qz I.ne)).trans I.obj,hn2,I.ne⟩ hs2)
def GX {R:Result->Shared->Prop} {vs:List Value} {kw:List (Str × Value)} (X:K.In s.heap) (hm:PySem.W.makesIn K C=true)
  (hi:findIn K (.ref C) "__init__"=some ↑f) (hf:PySem.W.typeIn K (.ref f)=some (.type "function"))
  (h:codeAny (model prog w) (A.under (.builtin "type.__call__" ⟨.ref C::vs,kw⟩)) (.call (.ref f) ⟨.ref (s.heap.objs.size+1)::vs,kw⟩) (PySem.W.InitBack (s.heap.objs.size+1) R)
   {s with heap:=(s.heap.push PySem.W.emptyDict).push (PySem.W.instObj C s.heap.objs.size)}):
  codeAny (model prog w) A (.call (.ref C) ⟨vs,kw⟩) R s:=by
 obtain⟨hh,g,d,t,os⟩:=s;exact PySem.W.make_core (PySem.W.makes_of X hm) (PySem.W.looks_findIn X hi) (fun self=>PySem.W.bind_fn X self hf) (.inl rfl) h
end
def putF(f:Str)(v:V):List (Str × V)->List (Str × V)
 | []=>[(f,v)]
 | (g,x)::r=>if g=f then(g,v)::r else(g,x)::putF f v r
theorem vf(f g:Str)(v:V):∀ fs:List (Str × V),(putF f v fs).lookup g=if g=f then some v else fs.lookup g
 | []=>by
  show List.lookup g [(f,v)]=_;by_cases h:g=f
  . have hb:(g==f)=true:=Pe.mpr h;simp only[List.lookup,hb,Oh h]
  . have hb:(g==f)=false:=Po.mpr h;simp only[List.lookup,hb,Ob h]
 | (k,x)::r=>by
  have ih:=vf f g v r;rw[show putF f v ((k,x)::r)=(if k=f then(k,v)::r else(k,x)::putF f v r) from rfl];by_cases hk:k=f
  . rw[Oh hk];by_cases h:g=k
    . have hb:(g==k)=true:=Pe.mpr h;simp only[List.lookup,hb,Oh (h.trans hk)]
    . have hb:(g==k)=false:=Po.mpr h;simp only[List.lookup,hb,Ob (fun e:g=f=>h (e.trans hk.symm))]
  . rw[Ob hk];by_cases h:g=k
    . have hb:(g==k)=true:=Pe.mpr h;simp only[List.lookup,hb,Ob (fun e:g=f=>hk (h.symm.trans e))]
    . have hb:(g==k)=false:=Po.mpr h;simp only[List.lookup,hb];exact ih
theorem sB(f:Str)(v:V):∀ fs:List (Str × V),f∈(putF f v fs).map (·.1)/\∀ g,g∈fs.map (·.1)->g∈(putF f v fs).map (·.1)
 | []=>⟨by simp[putF],fun g h=>by simp at h⟩
 | (k,x)::r=>by
  obtain⟨i1,i2⟩:=sB f v r;rw[show putF f v ((k,x)::r)=(if k=f then(k,v)::r else(k,x)::putF f v r) from rfl];by_cases hk:k=f
  . rw[Oh hk];subst hk;exact⟨by simp,fun g h=>by simpa using h⟩
  . rw[Ob hk];refine⟨?_,fun g h=>?_⟩
    . rw[Os];exact N3 _ i1
    . rw[Os] at h ⊢;rcases N4.mp h with e | e
      . exact N4.mpr (.inl e)
      . exact N3 _ (i2 g e)
theorem vg(f:Str)(v:V):∀ fs:List (Str × V),(putF f v fs).length<=fs.length+1
 | []=>by simp[putF]
 | (k,x)::r=>by
  have ih:=vg f v r;rw[show putF f v ((k,x)::r)=(if k=f then(k,v)::r else(k,x)::putF f v r) from rfl];by_cases hk:k=f
  . rw[Oh hk,Oq,Oq];omega
  . rw[Ob hk,Oq,Oq];omega
variable{o:Option Value}
theorem RelO.some_of{v:V}(r:RelO (some v) o):∃ u,o=some u/\RelV v u:=by
 cases o with
 | none=>exact(show False from r).elim
 | some u=>exact⟨u,rfl,r⟩
abbrev RX:=@RelO.some_of
theorem RelO.none_of(r:RelO none o):o=none:=by
 cases o with
 | none=>rfl
 | some u=>exact(show False from r).elim
theorem FE{v:V}{u:Value}(r:RelV v u):PySem.W.handedIn u=true:=by
 cases v with
 | non=>cases (show u=Value.none from r);rfl
 | bl b=>cases (show u=Value.bool b from r);rfl
 | int i=>obtain⟨t,e⟩:=(show ∃ t,u=Value.int i t from r);cases e;rfl
 | str x=>obtain⟨t,e⟩:=(show ∃ t,u=Value.str x t from r);cases e;rfl
 | byt b=>obtain⟨t,e⟩:=(show ∃ t,u=Value.bytes b t from r);cases e;rfl
 | flt b=>obtain⟨t,e⟩:=(show ∃ t,u=Value.float b t from r);cases e;rfl
 | ref a=>cases (show u=Value.ref a from r);rfl
 | ty n=>cases (show u=Value.type n from r);rfl
section
variable{P:Program}{w:World}{H H':Hp}{h h':Heap}{a C dx:Addr}{fs fs':List (Str × V)}
def uC(hok:HOk P w H h)(e:H a=some (.ins C dx fs)):∃ mA,ObjM h a dx C mA/\(∀ f,RelO (fs.lookup f) (mA f))/\PySem.Within mA (fs.map (·.1))/\fs.length<=1000/\H dx=some (.own a):=by
 obtain⟨d,z,ne,ob,mA,n,r,q⟩:=(show ObjOk P w H h a (.ins C dx fs) from hok a _ e);exact⟨mA,⟨ob,n,ne⟩,r,q,z,d⟩
end
structure Cls(K:Frag)(C:Addr):Prop where
 pg:PySem.W.plainGet K C Str.empty=true
 hd:PySem.W.hasDictIn K C=true
 po:PySem.W.plainOver K C=true
 sa:findIn K (.ref C) "__setattr__"=some (some (.builtin "object.__setattr__"))
def Cls.get{K:Frag}(c:Cls K C)(f:Str):PySem.W.plainGet K C f=true:=c.pg
def NoAttr(K:Frag)(C:Addr)(f:Str):Prop:=findIn K (.ref C) f=some none
def NoAttr.taker{K:Frag}{f:Str}(n:NoAttr K C f):PySem.W.takerIn K C f=some none:=by
 unfold PySem.W.takerIn;rw[show findIn K (.ref C) f=some none from n];rfl
structure Meth(K:Frag)(C:Addr)(m:Str)(f:Addr):Prop where
 at_:findIn K (.ref C) m=some ↑f
 fn:isFn K (.ref f)=true
 kp:keepIn K (.ref f)=true
section
variable{X:Cx}{Nz:List (Addr × Obj)}{σ:St}{H:Hp}{s:Shared}{a C dx:Addr}{fs:List (Str × V)}{f:Str}{v:V}{A:Around}{E:Value->Shared->Prop}
def Er {b:Bool} {Q:Value->Shared->Prop} (I:Inv X Nz σ H s) (e:H a=some (.ins C dx fs)) (c:Cls X.K C) (n:NoAttr X.K C f) (l:fs.lookup f=some v)
  (h:∀ u s',Inv X Nz σ H s'->RelV v u->Q u s'):wpAny (model X.prog X.w) A (getAttr (.ref a) f b) Q E s:=by
 obtain⟨mA,O,r,_,_,_⟩:=uC I.hok e;obtain⟨u,hu,ru⟩:=RX (v:=v) (o:=mA f) (by rw[← l];exact r f);exact HR I.kIn O (c.get f) c.hd n hu (FE ru) (h u _ (I.tok _) ru)
def wS {m:Str} {g:Addr} {pl:Sem Bool} {Q:Value × List Value->Shared->Prop} (I:Inv X Nz σ H s) (e:H a=some (.ins C dx fs)) (c:Cls X.K C) (k:Meth X.K C m g) (l:fs.lookup m=none)
  (h:Q (.ref g,[.ref a]) s):wpAny (model X.prog X.w) A (getMethod (.ref a) m pl) Q E s:=by
 obtain⟨mA,O,r,_,_,_⟩:=uC I.hok e;have hn:mA m=none:=RelO.none_of (by rw[← l];exact r m);exact GW I.kIn O (c.get m) k.at_ k.fn hn h
def Es {y:V} {u:Value} {Q:Unit->Shared->Prop} (I:Inv X Nz σ H s) (e:H a=some (.ins C dx fs)) (c:Cls X.K C) (n:NoAttr X.K C f) (hl:fs.length<1000) (ry:RelV y u)
  (h:∀ s',Inv X Nz σ (upd H a (.ins C dx (putF f y fs))) s'->Q () s'):wpAny (model X.prog X.w) A (setAttr (.ref a) f u) Q E s:=by
 obtain⟨mA,O,r,wi,_,ho⟩:=uC I.hok e;have hz:(fs.map (·.1)).length<=sizeLine:=by rw[NI,RN];omega
 refine HS I.kIn O c.sa c.po n.taker c.hd wi hz fun h' O' sb=>h _ ?_;have hd:∃ o,h'.get? dx=some o:=let ⟨o,_,_,e',_⟩:=O'.ns;⟨o,e'⟩;refine I.write (x:=a) (e:=dx) (by rw[e];exact True.intro) (.inr ho) (fun b q hb z=>(sb.2 b hb).trans z) hd ?_;refine⟨by rw[ar O.ne];exact ho,?_,O.ne,O'.obj,_,O'.ns,fun g=>?_,fun g hg=>?_⟩
 . have:=vg f y fs;omega
 . show RelO ((putF f y fs).lookup g) (if g=f then some u else mA g);rw[vf];by_cases q:g=f
   . rw[Oh q,Oh q];exact ry
   . rw[Ob q,Ob q];exact r g
 . by_cases q:g=f
   . rw[q];exact(sB f y fs).1
   . refine(sB f y fs).2 g (wi g fun z=>hg ?_);show(if g=f then some u else mA g)=none;rw[Ob q];exact z
def Inv.made(I:Inv X Nz σ H s):Inv X Nz σ (upd (upd H s.heap.objs.size (.own (s.heap.objs.size+1))) (s.heap.objs.size+1) (.ins C s.heap.objs.size []))
  {s with heap:=(s.heap.push PySem.W.emptyDict).push (PySem.W.instObj C s.heap.objs.size)}:=by
 have e1:(s.heap.push PySem.W.emptyDict).get? s.heap.objs.size=some PySem.W.emptyDict:=N7 s.heap rfl
 have e2:((s.heap.push PySem.W.emptyDict).push (PySem.W.instObj C s.heap.objs.size)).get? (s.heap.objs.size+1)=some (PySem.W.instObj C s.heap.objs.size):=by
  have:=N7 (s.heap.push PySem.W.emptyDict) (o:=PySem.W.instObj C s.heap.objs.size) rfl
  rwa [OR] at this
 have e3:(s.heap.push PySem.W.emptyDict).Ns s.heap.objs.size (fun _=>none):=⟨PySem.W.emptyDict,#[],_,e1,rfl,(fun e he=>absurd he (by simp)),fun _=>rfl⟩;have I1:=I.laid (a:=s.heap.objs.size) (o:=.own (s.heap.objs.size+1)) (h':=s.heap.push PySem.W.emptyDict) (t':=s.toks) (fun b u q=>NQ _ q) (NU _) ⟨_,e1⟩;refine I1.laid (a:=s.heap.objs.size+1) (o:=.ins C s.heap.objs.size []) (t':=s.toks) (fun b u q=>NQ _ q) (Nat.le_of_eq (OR _ _)) ?_;have ne:s.heap.objs.size≠s.heap.objs.size+1:=Op (O1 _);refine⟨by rw[ar ne,ao],Ox _,ne,e2,fun _=>none,(Heap.Ns1.of_empty e3).at fun o q=>NQ _ q,fun _=>True.intro,fun y hy=>absurd rfl hy⟩
def HU {prog:Program} {w:World} {env:Env} {e:Expr} {f:Str} {pos:Pos} {s:Shared} {Q:Value->Shared->Prop} (hb:attributeBase e f env (eval e env)=eval e env)
  (h:wpAny (model prog w) A (eval e env) (fun o s₁=>wpAny (model prog w) A (getAttr o f true) Q E s₁) E s):wpAny (model prog w) A (eval (.Attribute e f pos) env) Q E s:=
 Attribute_any_ h (by rw[arm_eval_Attribute,hb])
end
section
variable{X:Cx}{o e value:Expr}{f:Str}{pos pos' tpos:Pos}{ta tv:TE}
end
section
variable{X:Cx}{Nz:List (Addr × Obj)}{σ:St}{H:Hp}{s:Shared}{A:Around}{E:Value->Shared->Prop}{Q:Value->Shared->Prop}{c:Value}{b:Bool}
inductive TyOf(K:Frag)(H:Hp):V->Value->Prop where
 | non:TyOf K H .non (.type "NoneType")
 | bl (x:Bool):TyOf K H (.bl x) (.type "bool")
 | int (i:Int):TyOf K H (.int i) (.type "int")
 | str (x:Str):TyOf K H (.str x) (.type "str")
 | flt (x:UInt64):TyOf K H (.flt x) (.type "float")
 | lst {a:Addr} {xs:List V} (e:H a=↥xs):TyOf K H (.ref a) (.type "list")
 | frz {a:Addr} {o:Obj} {xs:List V} (e:H a=some (.frz o (.lst xs))):TyOf K H (.ref a) (.type "list")
 | tup {a:Addr} {xs:List V} (e:H a=some (.tup xs)):TyOf K H (.ref a) (.type "tuple")
 | dK {a:Addr} {NC:List (Key × V)} (e:H a=some (.dK NC)):TyOf K H (.ref a) (.type "dict")
 | dT {a:Addr} {NC:List (List Key × V)} (e:H a=some (.dT NC)):TyOf K H (.ref a) (.type "dict")
 | ins {a C dx:Addr} {fs:List (Str × V)} (e:H a=some (.ins C dx fs)) (cl:Cls K C) (ha:findIn K (.ref C) "__class__"=some (some (.builtin "object.__class__")))
   (hn:PySem.W.specialIn K (.builtin "object.__class__") "__get__"=some (some (.builtin "getset_descriptor.__get__"))) (htk:PySem.W.takesIn K (.builtin "object.__class__")=some true)
   (hm:PySem.W.mroIn K C (.type "object")=some true):TyOf K H (.ref a) (.ref C)
theorem FF{x:V}{u t:Value}(I:Inv X Nz σ H s)(rx:RelV x u)(ty:TyOf X.K H x t)(e:PySem.W.kitOne X.K t c=some b)(h:∀ tk,Q (.bool b) {s with toks:=tk}):
  wpAny (model X.prog X.w) A (call (.builtin "isinstance") [u,c]) Q E s:=by
 cases ty with
 | non=>cases (show u=Value.none from rx);exact O0 PySem.W.kitx_none I.kIn True.intro e (fun z=>nomatch z) h
 | bl y=>cases (show u=Value.bool y from rx);exact O0 PySem.W.kitx_bool I.kIn True.intro e (fun z=>nomatch z) h
 | int i=>obtain⟨t,q⟩:=(show ∃ t,u=Value.int i t from rx);cases q;exact O0 PySem.W.kitx_int I.kIn True.intro e (fun z=>nomatch z) h
 | str y=>obtain⟨t,q⟩:=(show ∃ t,u=Value.str y t from rx);cases q;exact O0 PySem.W.kitx_str I.kIn True.intro e (fun z=>nomatch z) h
 | flt y=>obtain⟨t,q⟩:=(show ∃ t,u=Value.float y t from rx);cases q;exact O0 PySem.W.kitx_float I.kIn True.intro e (fun z=>nomatch z) h
 | @lst a xs ea=>
  cases (show u=Value.ref a from rx);obtain⟨_,_,n,_,h1⟩:=(show ObjOk X.prog X.w H s.heap a (.lst xs) from I.hok a _ ea);exact O0 PySem.W.kitx_list I.kIn ⟨_,h1,rfl⟩ e (fun z=>nomatch z) h
 | @frz a ob xs ea=>
  cases (show u=Value.ref a from rx);obtain⟨_,_,_,n,_,h1⟩:=(show ObjOk X.prog X.w H s.heap a (.frz ob (.lst xs)) from I.hok a _ ea);exact O0 PySem.W.kitx_list I.kIn ⟨_,h1,rfl⟩ e (fun z=>nomatch z) h
 | @tup a xs ea=>
  cases (show u=Value.ref a from rx);obtain⟨_,_,_,p⟩:=(show ObjOk X.prog X.w H s.heap a (.tup xs) from I.hok a _ ea);obtain⟨o,h1,h2,_⟩:=p;exact O0 PySem.W.kitx_tuple I.kIn ⟨o,h1,h2⟩ e (fun z=>nomatch z) h
 | @dK a NC ea=>
  cases (show u=Value.ref a from rx);obtain⟨_,_,vs,_,p⟩:=(show ObjOk X.prog X.w H s.heap a (.dK NC) from I.hok a _ ea);obtain⟨o,es,ep,h1,h2,_⟩:=p;exact O0 PySem.W.kitx_dict I.kIn ⟨o,h1,h2.1⟩ e (fun z=>nomatch z) h
 | @dT a NC ea=>
  cases (show u=Value.ref a from rx);obtain⟨_,_,xs,_,o,es,ep,h1,h2,_⟩:=(show ObjOk X.prog X.w H s.heap a (.dT NC) from I.hok a _ ea);exact O0 PySem.W.kitx_dict I.kIn ⟨o,h1,h2.1⟩ e (fun z=>nomatch z) h
 | @ins a C dx fs ea cl ha hn htk hm=>
  cases (show u=Value.ref a from rx);obtain⟨mA,O,_⟩:=uC I.hok ea;obtain⟨od,J,_⟩:=O.look;exact O0 (PySem.W.kitx_own (cl.get _) cl.hd ha hn htk hm) I.kIn J e (fun z=>nomatch z) h
end
structure Room(k:Nat)(A:Around):Prop where
 hd:A.handled=none
 dp:A.depth+3*k+5<recursionLimit
 un:A.units+16*k+200<cLine
variable{A:Around}
def Room.mono{j k:Nat}(r:Room k A)(h:j<=k):Room j A:=⟨r.hd,by have:=r.dp;omega,by have:=r.un;omega⟩
def Room.deeper{k:Nat}(r:Room (k+1) A)(env:Env):Room k (A.deeper env):=
 ⟨r.hd,by have:=r.dp;show A.depth+1+3*k+5<_;omega,by have:=r.un;show A.units+3+16*k+200<_;omega⟩
variable{us:List Value}{kw:List (Str × Value)}
def Et{C:Addr}:(A.under (.builtin "type.__call__" ⟨.ref C::us,kw⟩)).depth=A.depth+1:=by
 first | rfl | simp[Around.under,Code.weight,Code.isCreation,Code.isGuard,Code.isCaller,Code.frames,Code.isFrame,guardIds]
def Eu{C:Addr}:(A.under (.builtin "type.__call__" ⟨.ref C::us,kw⟩)).units=A.units+1:=by
 first | rfl | simp[Around.under,Code.cUnits,Code.frames,Code.isFrame]
def Room.make{k:Nat}(r:Room (k+1) A)(C:Addr)(us:List Value)(kw:List (Str × Value)):Room k (A.under (.builtin "type.__call__" ⟨.ref C::us,kw⟩)):=
 ⟨r.hd,by have:=r.dp;rw[Et];omega,by have:=r.un;rw[Eu];omega⟩
def Room.depth{k:Nat}(r:Room k A):A.depth<recursionLimit:=by have:=r.dp;omega
def Room.units{k:Nat}(r:Room k A):A.units+64<cLine:=by have:=r.un;omega
def tNil:TA:=fun _ H Q=>Q [] H
def tCons(ta:TE)(tr:TA):TA:=fun σ H Q=>ta σ H fun x H1=>tr σ H1 fun xs H2=>Q (x::xs) H2
section
variable{X:Cx}{e:Expr}{es:List Expr}{te:TE}{t:TA}{pos:Pos}
def ae:PA X [] tNil:=fun _ _ _ _ H Q I h=>PB ⟨[],H,I,.nil,h⟩
def aa(ha:PE X e te)(hr:PA X es t)(hs:starEach (e::es) X.env=(false,eval e X.env)::starEach es X.env:=by rfl):PA X (e::es) (tCons te t):=by
 intro pos Nz s σ H Q I h;rw[hs];show wpAny _ _ (spliced ((false,eval e X.env)::backTo pos (starEach es X.env))) _ _ s;refine Pt (thn (ha Nz s σ H _ I h) fun u s1 ⟨x,H1,I1,r1,q1⟩=>?_);exact thn (hr pos Nz s1 σ H1 _ I1 q1) fun us s2 ⟨xs,H2,I2,r2,q2⟩=>⟨x::xs,H2,I2,.cons r1 r2,q2⟩
def tTup(t:TA):TE:=fun σ H Q=>t σ H fun xs H1=>xs.length<=sizeLine/\∀ p,H1 p=none->Q (.ref p) (upd H1 p (.tup xs))
def tLst(t:TA):TE:=fun σ H Q=>t σ H fun xs H1=>xs.length<=sizeLine/\∀ p,H1 p=none->Q (.ref p) (upd H1 p (.lst xs))
def dc{x1}(h:PA X es t):PE X (.Tuple es x1 pos) (tTup t):=by
 intro Nz s σ H Q I hq;refine wpAny_Tuple_spliced (thn (h pos Nz s σ H _ I hq) fun us s1 ⟨xs,H1,I1,r,z,q⟩=>⟨by rw[← r.length];exact z,?_⟩);have hf:H1 s1.heap.objs.size=none:=I1.hok.fresh (NU _);refine⟨.ref s1.heap.objs.size,upd H1 s1.heap.objs.size (.tup xs),I1.laid (t':=s1.toks) (fun b u e=>NQ _ e) (NU _) ?_,rfl,q _ hf⟩;exact⟨z,us,r,⟨_,N7 _ rfl,rfl,_,rfl⟩⟩
def aD(h:PA X es t):PE X (.List es pos) (tLst t):=by
 intro Nz s σ H Q I hq;refine wpAny_List_spliced (thn (h pos Nz s σ H _ I hq) fun us s1 ⟨xs,H1,I1,r,z,q⟩=>⟨by rw[← r.length];exact z,?_⟩);have hf:H1 s1.heap.objs.size=none:=I1.hok.fresh (NU _);refine⟨.ref s1.heap.objs.size,upd H1 s1.heap.objs.size (.lst xs),I1.laid (t':=s1.toks) (fun b u e=>NQ _ e) (NU _) ?_,rfl,q _ hf⟩;exact⟨z,us,0,r,N7 _ rfl⟩
end
abbrev Sp:=List V->Hp->VK->XK->Prop
abbrev CXT:=List Env->Hp->Shared->XK->Value->Shared->Prop
structure Env0(P:Program)(w:World)(K:Frag)(mg:Str->Option Value)(base:Heap)(A:Around)(outer:List Env)(s:Shared)(H:Hp):Prop where
 frames:A.frames=some outer
 mod:Mod K mg base
 bs:∀ b o,base.get? b=some o->s.heap.get? b=some o/\H b=none
 bsz:base.objs.size<=s.heap.objs.size
 funs:s.heap.FunFrames base outer
 frf:∀ b∈frs outer,H b=none
 hok:HOk P w H s.heap
 bare:AllBare s.gens
def CE(outer:List Env)(P:Program)(w:World)(H:Hp)(s:Shared)(Q:VK)(u:Value)(s':Shared):Prop:=
 ∃ v H',s'.os=s.os/\AllBare s'.gens/\Un (frs outer) [] H H' s.heap s'.heap/\HOk P w H' s'.heap/\RelV v u/\Q v H'
def CR(CX:CXT)(outer:List Env)(P:Program)(w:World)(H:Hp)(s:Shared)(Q:VK)(E:XK)(r:Result)(s':Shared):Prop:=
 match r with
 | .ok (.ret u)=>CE outer P w H s Q u s'
 | .ok _=>False
 | .error e=>CX outer H s E e s'
structure FnOk(P:Program)(w:World)(K:Frag)(mg:Str->Option Value)(base:Heap)(CX:CXT)(k:Nat)(f:Addr)(fd:FuncData)(ps:List Str)(sp:Sp):Prop where
 len:∀ vs H Q E,sp vs H Q E->vs.length=ps.length
 run:∀(A:Around) (outer:List Env) (s:Shared) (H:Hp) (args:Args) (us:List Value) (vs:List V) (Q:VK) (E:XK),Room k A->Env0 P w K mg base A outer s H->BindsTo s fd args (ps.zip us)->Vals vs us->sp vs H Q E->
  codeAny (model P w) A (.call (.ref f) args) (CR CX outer P w H s Q E) s
variable{P:Program}{w:World}{K:Frag}{mg:Str->Option Value}{base:Heap}{CX:CXT}{f:Addr}{fd:FuncData}{ps:List Str}
def FnOk.mono{j k:Nat}{sp:Sp}(F:FnOk P w K mg base CX j f fd ps sp)(h:j<=k):
  FnOk P w K mg base CX k f fd ps sp:=⟨F.len,fun A outer s H args us vs Q E hr=>F.run A outer s H args us vs Q E (hr.mono h)⟩
def FnOk.imp {k:Nat} {sp sp':Sp} (F:FnOk P w K mg base CX k f fd ps sp)
  (h:∀ vs H Q E,sp' vs H Q E->sp vs H Q E):FnOk P w K mg base CX k f fd ps sp':=
 ⟨fun vs H Q E q=>F.len vs H Q E (h _ _ _ _ q),fun A outer s H args us vs Q E hr he hb hv hs=>F.run A outer s H args us vs Q E hr he hb hv (h _ _ _ _ hs)⟩
variable{outer:List Env}
def Env0.make{s:Shared}{H:Hp}(e:Env0 P w K mg base A outer s H)(C:Addr)(us:List Value)(kw:List (Str × Value)):
  Env0 P w K mg base (A.under (.builtin "type.__call__" ⟨.ref C::us,kw⟩)) outer s H:=⟨by first | exact e.frames | (simpa [Around.under,Code.envs,Code.isFrame,pushEnvs] using e.frames),e.mod,e.bs,e.bsz,e.funs,e.frf,e.hok,e.bare⟩
section
variable{X:Cx}{Nz:List (Addr × Obj)}{σ:St}{H:Hp}{s s':Shared}
def Inv.env0(I:Inv X Nz σ H s):Env0 X.prog X.w X.K X.mg X.base X.A X.stack s H:=
 ⟨I.ok.frames,I.ok.mod,I.bs,NS I.ok.bsz I.sz,I.stack,I.stkFree,I.hok,I.bare⟩
def Inv.after{Q:VK}{u:Value}(I:Inv X Nz σ H s)(h:CE X.stack X.prog X.w H s Q u s'):EP X Nz σ Q u s':=by
 obtain⟨v,H',os,bare,un,hok,r,q⟩:=h;obtain⟨hh,g,d,t,os'⟩:=s';obtain rfl:os'=s.os:=os;exact⟨v,H',I.call (h':=hh) (g':=g) (d':=d) (t':=t) (ch:=[]) un hok bare (fun b z=>absurd z (by simp)),r,q⟩
end
def tCall(sp:Sp)(dvs:List V)(E:XK)(t:TA):TE:=fun σ H Q=>t σ H fun vs H1=>sp (vs++dvs) H1 Q E
def tMake(C:Addr)(sp:Sp)(dvs:List V)(E:XK)(t:TA):TE:=fun σ H Q=>t σ H fun vs H1=>∀ x dx,H1 x=none->H1 dx=none->dx≠x->
 sp (.ref x::(vs++dvs)) (upd (upd H1 dx (.own x)) x (.ins C dx [])) (fun v H2=>v=.non/\Q (.ref x) H2) E
def Binds(K:Frag)(fd:FuncData)(ps:List Str)(ds:List Value):Prop:=
 ∀(s:Shared) (us:List Value),K.In s.heap->(us++ds).length=ps.length->BindsTo s fd ⟨us,[]⟩ (ps.zip (us++ds))
def Binds.all(h:∀ us:List Value,us.length=ps.length->bindArgs fd ⟨us,[]⟩=pure (ps.zip us)):Binds K fd ps []:=fun s us _ hl=>by
 rw[QF] at hl ⊢;exact .of_eq (h us hl)
def sC(CX:CXT)(X:Cx)(E:XK):Prop:=∀(Nz:List (Addr × Obj)) (σ:St) (H:Hp) (s:Shared) (e:Value) (s':Shared),Inv X Nz σ H s->CX X.stack H s E e s'->X.xe e s'
section
variable{X:Cx}{CX:CXT}{k:Nat}{f C:Addr}{fd:FuncData}{ps:List Str}{sp:Sp}{dvs:List V}{ds:List Value}{E:XK}{x m:Str}{p pos apos:Pos}{e o:Expr}{es:List Expr}{ta:TE}{t:TA}
theorem A8 {Nz:List (Addr × Obj)} {σ:St} {H:Hp} {s:Shared} {Q:VK} {us:List Value} {vs:List V} (F:FnOk X.prog X.w X.K X.mg X.base CX k f fd ps sp) (hr:Room k X.A) (hb:Binds X.K fd ps ds) (hd:Vals dvs ds) (hx:sC CX X E)
  (I:Inv X Nz σ H s) (r:Vals vs us) (h:sp (vs++dvs) H Q E):wpAny (model X.prog X.w) X.A (call (.ref f) us) (EP X Nz σ Q) X.xe s:=by
 have r2:Vals (vs++dvs) (us++ds):=r.append hd;have hl:(us++ds).length=ps.length:=by rw[← r2.length];exact F.len _ _ _ _ h
 refine wpAny_call (QN (F.run X.A X.stack s H ⟨us,[]⟩ (us++ds) (vs++dvs) Q E hr I.env0 (hb s us I.kIn hl) r2 h) fun r s' hq=>?_)
 cases r with
 | error e=>exact hx Nz σ H s e s' I hq
 | ok fl=>
  cases fl with
  | ret u=>exact I.after hq
  | next=>exact False.elim hq
  | brk=>exact False.elim hq
  | cont=>exact False.elim hq
def HV (F:FnOk X.prog X.w X.K X.mg X.base CX k f fd ps sp) (hr:Room k X.A) (hg:Gl X x) (hm:X.mg x=↑f) (hk:keepIn X.K (.ref f)=true) (hb:Binds X.K fd ps ds) (hd:Vals dvs ds) (hx:sC CX X E)
  (ha:PA X (e::es) t) (hdb:(x==("__debug__":Str))=false:=by decide) (he:starEach (e::es) X.env=(false,eval e X.env)::starEach es X.env:=by rfl) (hpl:(backTo pos (starEach es X.env)).any (·.1)=false:=by rfl):
  PE X (.Call (.Name x p) (e::es) [] pos) (tCall sp dvs E t):=by
 intro Nz s σ H Q I h;refine OZ (yR I hg hm ?_ hdb);refine QS (h₀:=X.base) I.ok.mod.kin hk (thn (ha pos Nz s σ H _ I h) fun us s1 ⟨vs,H1,I1,r,q⟩=>⟨I1.kIn,?_⟩) he hpl;exact A8 F hr hb hd hx I1 r q
structure Mk(K:Frag)(C f:Addr):Prop where
 makes:PySem.W.makesIn K C=true
 init:findIn K (.ref C) "__init__"=some ↑f
 fn:isFn K (.ref f)=true
 kp:keepIn K (.ref C)=true
theorem GY {Nz:List (Addr × Obj)} {σ:St} {H:Hp} {s:Shared} {Q:VK} {us:List Value} {vs:List V} (M:Mk X.K C f) (F:FnOk X.prog X.w X.K X.mg X.base CX k f fd ps sp) (hr:Room (k+1) X.A) (hb:Binds X.K fd ps ds) (hd:Vals dvs ds)
  (hx:sC CX X E) (I:Inv X Nz σ H s) (r:Vals vs us)
  (h:∀ x dx,H x=none->H dx=none->dx≠x->sp (.ref x::(vs++dvs)) (upd (upd H dx (.own x)) x (.ins C dx [])) (fun v H2=>v=.non/\Q (.ref x) H2) E):
  wpAny (model X.prog X.w) X.A (call (.ref C) us) (EP X Nz σ Q) X.xe s:=by
 have hq:=h (s.heap.objs.size+1) s.heap.objs.size (I.hok.fresh (Ps _)) (I.hok.fresh (NU _)) (Op (O1 _));have I2:=Inv.made (C:=C) I;have r2:Vals (V.ref (s.heap.objs.size+1)::(vs++dvs)) (Value.ref (s.heap.objs.size+1)::(us++ds)):=.cons rfl (r.append hd)
 have hl:(Value.ref (s.heap.objs.size+1)::us++ds).length=ps.length:=by
  have e:=r2.length;rw[F.len _ _ _ _ hq] at e;exact e.symm
 refine wpAny_call (GX (f:=f) I.kIn M.makes M.init (Pe.mp M.fn) (QN (F.run _ X.stack _ _ ⟨Value.ref (s.heap.objs.size+1)::us,[]⟩ (Value.ref (s.heap.objs.size+1)::(us++ds)) _ _ E (hr.make C us [])
  (I2.env0.make C us []) (hb _ (Value.ref (s.heap.objs.size+1)::us) I2.kIn hl) r2 hq) fun r s' hq'=>?_))
 cases r with
 | error e=>exact hx Nz σ _ _ e s' I2 hq'
 | ok fl=>
  cases fl with
  | ret u=>
   obtain⟨v,H',I3,rv,ev,q3⟩:=I2.after hq';subst ev;exact⟨rv,⟨V.ref (s.heap.objs.size+1),H',I3,rfl,q3⟩⟩
  | next=>exact False.elim hq'
  | brk=>exact False.elim hq'
  | cont=>exact False.elim hq'
def HW (M:Mk X.K C f) (F:FnOk X.prog X.w X.K X.mg X.base CX k f fd ps sp) (hr:Room (k+1) X.A) (hg:Gl X x) (hm:X.mg x=↑C) (hb:Binds X.K fd ps ds) (hd:Vals dvs ds) (hx:sC CX X E)
  (ha:PA X (e::es) t) (hdb:(x==("__debug__":Str))=false:=by decide) (he:starEach (e::es) X.env=(false,eval e X.env)::starEach es X.env:=by rfl) (hpl:(backTo pos (starEach es X.env)).any (·.1)=false:=by rfl):
  PE X (.Call (.Name x p) (e::es) [] pos) (tMake C sp dvs E t):=by
 intro Nz s σ H Q I h;refine OZ (yR I hg hm ?_ hdb);refine QS (h₀:=X.base) I.ok.mod.kin M.kp (thn (ha pos Nz s σ H _ I h) fun us s1 ⟨vs,H1,I1,r,q⟩=>⟨I1.kIn,?_⟩) he hpl;exact GY M F hr hb hd hx I1 r q
end
section
variable{X:Cx}{CX:CXT}{k:Nat}{f C:Addr}{fd:FuncData}{ps ks:List Str}{sp:Sp}{E:XK}{x m:Str}{p pos apos kpos:Pos}{e o:Expr}{es:List Expr}{kws:List Keyword}{te ta:TE}{t tk:TA}{nm:Option Str}
variable{g:List Value->List Value->List Value}{gV:List V->List V->List V}
end
structure mT(N P:List Str)(sc:Scope):Prop where
 kind:sc.kind=.function
 co:sc.isCoroutine=false
 gen:sc.isGenerator=false
 nd:N.Nodup
 pre:N.take P.length=P
 par:∀ x∈P,sc.names.lookup x=some .local\/sc.names.lookup x=some .cell
 nofree:∀ y∈sc.names,y.2≠.free
theorem zG{kindOf:Str->Option NameKind}{x:Str}:∀{binds:List (Str × Value)} {m:Str->Option Value},(∀ v,(x,v)∉binds)->bindL kindOf binds m x=m x
 | [],_,_=>rfl
 | (n,v)::r,m,h=>by
  unfold bindL;rw[zG fun w hw=>h w (N3 _ hw)]
  split
  . have:x≠n:=by rintro rfl;exact h v Oc
    simp[this]
  . rfl
theorem zH{kindOf:Str->Option NameKind}{x:Str}:∀{binds:List (Str × Value)} {m:Str->Option Value},(∀ v,(x,v)∉binds)->bindC kindOf binds m x=m x
 | [],_,_=>rfl
 | (n,v)::r,m,h=>by
  unfold bindC;rw[zH fun w hw=>h w (N3 _ hw)]
  split
  . rfl
  . have:x≠n:=by rintro rfl;exact h v Oc
    simp[this]
theorem zI{kindOf:Str->Option NameKind}{x:Str}{v:Value}:∀{P:List Str} {vs:List Value} {i:Nat} {m:Str->Option Value},P.Nodup->P[i]? =some x->vs[i]? =some v->kindOf x=some .local->
  bindL kindOf (P.zip vs) m x=some v
 | [],_,_,_,_,h,_,_=>by simp at h
 | _::_,[],_,_,_,_,h,_=>by simp at h
 | p::P,w::vs,0,m,nd,h1,h2,hk=>by
  simp at h1 h2;subst h1;subst h2;show bindL kindOf ((p,w)::P.zip vs) m p=_;unfold bindL;rw[zG fun v hv=>(O7.mp nd).1 (RF hv).1,Oh hk];simp
 | p::P,w::vs,i+1,m,nd,h1,h2,hk=>by
  show bindL kindOf ((p,w)::P.zip vs) m x=_;unfold bindL;exact zI (i:=i) (O7.mp nd).2 (by simpa using h1) (by simpa using h2) hk
theorem zJ{kindOf:Str->Option NameKind}{x:Str}{v:Value}:∀{P:List Str} {vs:List Value} {i:Nat} {m:Str->Option Value},P.Nodup->P[i]? =some x->vs[i]? =some v->kindOf x≠some .local->
  bindC kindOf (P.zip vs) m x=some v
 | [],_,_,_,_,h,_,_=>by simp at h
 | _::_,[],_,_,_,_,h,_=>by simp at h
 | p::P,w::vs,0,m,nd,h1,h2,hk=>by
  simp at h1 h2;subst h1;subst h2;show bindC kindOf ((p,w)::P.zip vs) m p=_;unfold bindC;rw[zH fun v hv=>(O7.mp nd).1 (RF hv).1,Ob hk];simp
 | p::P,w::vs,i+1,m,nd,h1,h2,hk=>by
  show bindC kindOf ((p,w)::P.zip vs) m x=_;unfold bindC;exact zJ (i:=i) (O7.mp nd).2 (by simpa using h1) (by simpa using h2) hk
def start(N:List Str)(vs:List V):St:=vs.map some++List.replicate (N.length-vs.length) none
def cxOf(CX:CXT)(P:Program)(w:World)(K:Frag)(mg:Str->Option Value)(base:Heap)(N:List Str)(qual:Str)(scope:Scope)(f:Addr)(cd:Value)(A:Around)(outer:List Env)(s:Shared)(H:Hp)(E:XK):Cx where
 prog:=P
 w:=w
 K:=K
 mg:=mg
 base:=base
 A:=A.deeper (envOfC qual scope s.heap.objs.size f cd)
 N:=N
 s₀:=s
 H₀:=H
 env:=envOfC qual scope s.heap.objs.size f cd
 outer:=outer
 stack:=envOfC qual scope s.heap.objs.size f cd::outer
 ex:=[]
 calm:=true
 fn:=fun _=>true
 pn:=[]
 xe:=fun e s'=>wpAny (model P w) (A.deeper (envOfC qual scope s.heap.objs.size f cd)) (leaving (envOfC qual scope s.heap.objs.size f cd) e) (fun _ s''=>CX outer H s E e s'') (fun e' s''=>CX outer H s E e' s'') s'
def qF{sc:Scope}{n:Nat}{x:Str}(h:sc.names.lookup x=some .cell):∃ c,(cellsFrom n sc.names []).lookup x=some c:=by
 have q:=Rw sc.names n [] (.inl h);exact Rc.mp q
variable{scope:Scope}
def FG {N:List Str} {qual:Str} {cd:Value} {s s1:Shared} {H:Hp} {E:XK} {vs:List V}
  (S:mT N ps scope) (hd:A.handled=none) (e0:Env0 P w K mg base A outer s H) (hl:vs.length=ps.length) (r:Vals vs us)
  (x:InCallC s s.heap.objs.size (bindL (envOfC qual scope s.heap.objs.size f cd).kindOf (ps.zip us) fun _=>none) (cellsFrom (s.heap.objs.size+1) scope.names []) (bindC (envOfC qual scope s.heap.objs.size f cd).kindOf (ps.zip us) fun _=>none) s1):
  Inv (cxOf CX P w K mg base N qual scope f cd A outer s H E) [] (start N vs) H s1:=by
 have hpl:ps.length<=N.length:=by have:=congrArg List.length S.pre;rw[OP] at this;omega
 obtain⟨h1,tk,rfl,hk⟩:=x.done;have noA:∀ b:Addr,b∉(cxOf CX P w K mg base N qual scope f cd A outer s H E).ex:=fun b z=>absurd (show b∈([]:List Addr) from z) (by simp)
 refine⟨⟨e0.mod,S.kind,rfl,rfl,NU _,fun y z c h1 h2=>?_,fun y hy=>?_,fun y c _ h=>?_,fun _=>hd,Around.frames_deeper e0.frames,.inr ⟨rfl,rfl⟩,fun b z=>absurd z (noA b),e0.bs,e0.bsz,fun b _ _=>noA b,fun b z=>absurd z (noA b),e0.funs,e0.frf⟩,
  rfl,e0.bare,Un.kept hk,⟨_,x.toInCall.ns,fun i y v h1 h2 h3=>?_⟩,fun y c h=>⟨_,x.cell y c h⟩,e0.hok.fresh (NU _),fun y c h=>?_,fun p hp=>absurd (show p∈([]:List (Addr × Obj)) from hp) (by simp),e0.hok.kept hk,?_⟩
 . exact name_of_addr x.apart (OW h1) (OW h2)
 . have hy:scope.names.lookup y=some .cell\/scope.names.lookup y=some .free:=hy;rcases hy with hy | hy
   . exact qF hy
   . exact absurd rfl (S.nofree _ (OW hy))
 . exact Ou (x.above y c (OW h))
 . have hi:i<vs.length:=by
    unfold start at h2;by_cases hi:i<vs.length
    . exact hi
    . rw[OT (by simpa using hi)] at h2;rw[List.getElem?_replicate] at h2
      split at h2 <;> cases h2
   have ha:vs[i]? =some v:=by
    unfold start at h2;rw[OG (by simpa using hi),NN] at h2
    cases e:vs[i]? with
    | none=>rw[e] at h2;cases h2
    | some a=>rw[e] at h2;cases h2;rfl
   obtain⟨u,hu,rv⟩:=r.get ha
   have hp:ps[i]? =some y:=by
    rw[← S.pre,List.getElem?_take_of_lt #[0]];exact h1
   have ndP:ps.Nodup:=by rw[← S.pre];exact S.nd.sublist (List.take_sublist _ _)
   refine⟨u,rv,?_⟩;rcases S.par y (NV hp) with k | k
   . exact .inl ⟨k,zI ndP hp hu k⟩
   . obtain⟨c,e⟩:=qF (n:=s.heap.objs.size+1) k;refine .inr ⟨.inl k,c,e,?_⟩;have q:=x.cell y c e;rw[zJ ndP hp hu (by show scope.names.lookup y≠_;rw[k];decide)] at q;exact q
 . exact e0.hok.fresh (Ou (x.above y c (OW h)))
 . unfold start;show _=N.length;rw[N0,NI,List.length_replicate];omega
theorem Ka {k:Nat} {name qual:Str} {params:Arguments} {body:List Stmt} {dV kV doc pm NB ct oc:Value} {an od:Option Addr}
  {osl:Array (Option Value)} {N ps:List Str} {sp:Sp} (lk:K.lookup f=some ⟨oc,od,.func (fnOf name qual params body scope dV kV doc pm an NB ct),osl⟩) (hcd:codeIn K NB qual=true) (S:mT N ps scope)
  (len:∀ vs H Q E,sp vs H Q E->vs.length=ps.length)
  (hbody:∀(A:Around) (outer:List Env) (s:Shared) (H:Hp) (vs:List V) (Q:VK) (E:XK),Room k (A.deeper (envOfC qual scope s.heap.objs.size f NB))->sp vs H Q E->
   ∃ t,PSs (cxOf CX P w K mg base N qual scope f NB A outer s H E) body t/\t {nx:=fun _ H'=>Q .non H',rt:=Q} (start N vs) H):
  FnOk P w K mg base CX (k+1) f (fnOf name qual params body scope dV kV doc pm an NB ct) ps sp:=by
 refine⟨len,fun A outer s H args us vs Q E hr e0 hb r hsp=>?_⟩;have hl:=len _ _ _ _ hsp;have KX:K.In s.heap:=e0.mod.kin.keeps fun b o e=>(e0.bs b o e).1;have lim:s.heap.NoLimit:=e0.mod.nolimit.keeps fun b o e=>(e0.bs b o e).1
 have hkind:∀ y∈ps.zip us,scope.names.lookup y.1=some .local\/(scope.names.lookup y.1=some .cell/\((cellsFrom (s.heap.objs.size+1) scope.names []).lookup y.1).isSome=true):=fun⟨n,v⟩ hy=>by
  rcases S.par n (RF hy).1 with q | q
  . exact .inl q
  . exact .inr ⟨q,Rw _ _ _ (.inl q)⟩
 refine codeAny_call_function hr.depth (KX _ _ lk) rfl S.co S.gen rfl (PySem.W.codeRec_of KX hcd) (hb _ _ _ _ ?_);refine wpAny_newFunctionEnv_cells S.kind hkind fun env he s1 x=>?_;subst he;refine⟨lim.keeps x.toInCall.keep,codeAny_func ?_⟩;obtain⟨t,ht,hq⟩:=hbody A outer s H vs Q E (hr.deeper _) hsp;have I:Inv (cxOf CX P w K mg base N qual scope f NB A outer s H E) [] (start N vs) H s1:=FG S hr.hd e0 hl r x;refine OY (ht [] s1 (start N vs) H _ I hq) (fun fl s' hs=>?_) fun e s' hs=>hs
 have fin:∀{σ':St} {H':Hp} {v:V} {u:Value},Inv (cxOf CX P w K mg base N qual scope f NB A outer s H E) [] σ' H' s'->RelV v u->Q v H'->CE outer P w H s Q u s':=
  fun{σ' H' v u} J rv q=>⟨v,H',J.os,J.bare,J.base,J.hok,rv,q⟩
 cases fl with
 | ret u=>
  obtain⟨v,σ',H',J,rv,q⟩:=hs;exact fin J rv q
 | next=>
  obtain⟨σ',H',J,q⟩:=hs;exact fin (v:=V.non) (u:=Value.none) J rfl q
 | brk=>
  obtain⟨_,_,_,q⟩:=hs;exact False.elim q
 | cont=>
  obtain⟨_,_,_,q⟩:=hs;exact False.elim q
section
variable{X:Cx}{x:Str}{p pos:Pos}{e:Expr}{es:List Expr}{t:TA}{id T:String}{r:List V->Hp->VK->Prop}
def tCB(r:List V->Hp->VK->Prop)(t:TA):TE:=fun σ H Q=>t σ H fun vs H1=>r vs H1 Q
def aq (hc:CallR X (.builtin id) r) (hg:Gl X x) (hm:X.mg x=none) (hv:bootBuiltins x=some (.builtin id)) (ha:PA X (e::es) t) (hn:x≠"__name__":=by decide) (hdb:(x==("__debug__":Str))=false:=by decide)
  (he:starEach (e::es) X.env=(false,eval e X.env)::starEach es X.env:=by rfl) (hpl:(backTo pos (starEach es X.env)).any (·.1)=false:=by rfl):PE X (.Call (.Name x p) (e::es) [] pos) (tCB r t):=by
 intro Nz s σ H Q I h;refine OZ (gF I hg hm hv ?_ hn hdb);exact PR (thn (ha pos Nz s σ H _ I h) fun us s1 ⟨vs,H1,I1,r1,q1⟩=>hc Nz s1 σ H1 vs us Q I1 r1 q1) he hpl
def bc (hc:CallR X (.type T) r) (hg:Gl X x) (hm:X.mg x=none) (hv:bootBuiltins x=some (.type T)) (ha:PA X (e::es) t) (hn:x≠"__name__":=by decide) (hdb:(x==("__debug__":Str))=false:=by decide)
  (he:starEach (e::es) X.env=(false,eval e X.env)::starEach es X.env:=by rfl) (hpl:(backTo pos (starEach es X.env)).any (·.1)=false:=by rfl):PE X (.Call (.Name x p) (e::es) [] pos) (tCB r t):=by
 intro Nz s σ H Q I h;refine OZ (gF I hg hm hv ?_ hn hdb);exact OH (thn (ha pos Nz s σ H _ I h) fun us s1 ⟨vs,H1,I1,r1,q1⟩=>hc Nz s1 σ H1 vs us Q I1 r1 q1) he hpl
end
end L2
namespace HT
open PySem PyProof.Rows
section
open PySem.SeqAt
open PySem.AutoSeq1 (wpAny_loadPart')
open PySem.MeetsSeq PySem.MeetsSeq2 PySem.MeetsSeq3
end
section
variable{prog:Program}{w:World}{A:Around}{E:Value->Shared->Prop}{s:Shared}
def sIx(n d:Nat):Option Int->Nat
 | none=>d
 | some v=>if v<0 then(v+(n:Int)).toNat else min v.toNat n
def sIx_none(n d:Nat):sIx n d none=d:=rfl
def sIx_nat(n d k:Nat):sIx n d (some (k:Int))=min k n:=by
 show(if (k:Int)<0 then((k:Int)+(n:Int)).toNat else min (k:Int).toNat n)=min k n;rw[if_neg #[0],Int.toNat_natCast]
end
end HT
namespace L2
open PySem PySem.Spec PyProof.Rows
abbrev TO:=St->Hp->(Option Int->Hp->Prop)->Prop
def PO(X:Cx)(e:Option Expr)(t:TO):Prop:=
 ∀(Nz:List (Addr × Obj)) (s:Shared) (σ:St) (H:Hp) (Q:Option Int->Hp->Prop),Inv X Nz σ H s->t σ H Q->
  wpAny (model X.prog X.w) X.A (evalPart e X.env) (fun u s'=>∃ o H',Inv X Nz σ H' s'/\IsPart u o/\Q o H') X.xe s
def jL:TO:=fun _ H Q=>Q none H
def tPart(t:TE):TO:=fun σ H Q=>t σ H fun x H1=>∃ i,x=.int i/\Q (some i) H1
theorem qG{ns:∅}:∀{us:List Value},Vals (ns.map V.int) us->IntsAre us ns:=by
 induction ns with
 | nil=>intro us r;rw[RY] at r;cases r;exact .nil
 | cons n ns ih=>
  intro us r;rw[Os] at r
  cases r with
  | cons r1 r2=>
   obtain⟨t,e⟩:=r1;subst e;exact .cons n t (ih r2)
section
variable{X:Cx}{e:Expr}{te:TE}{lo hi:Option Expr}{tl th:TO}{pos p2:Pos}
def pT:PO X none jL:=by
 intro Nz s σ H Q I h;rw[evalPart_none];exact NT ⟨none,H,I,.none,h⟩
def iE(h:PE X e te):PO X (some e) (tPart te):=by
 intro Nz s σ H Q I hw;rw[evalPart_some];refine thn (h Nz s σ H _ I hw) fun u s1 ⟨x,H1,I1,r1,q1⟩=>?_;obtain⟨i,rfl,q⟩:=q1;obtain⟨t,rfl⟩:=r1;exact⟨some i,H1,I1,.int i t,q⟩
def SlR(X:Cx)(r:V->Option Int->Option Int->Hp->VK->Prop):Prop:=
 ∀(Nz:List (Addr × Obj)) (s:Shared) (σ:St) (H:Hp) (x:V) (v vl vu:Value) (lo hi:Option Int) (sl:Addr) (Q:VK),Inv X Nz σ H s->RelV x v->s.heap.IsSliceOf sl vl vu .none->IsPart vl lo->IsPart vu hi->r x lo hi H Q->
  ∃ T id,typeLookup (.type T) "__getitem__"=pure (some (.builtin id))/\s.TypeIs v T/\wpAny (model X.prog X.w) X.A (getItem v (.ref sl)) (EP X Nz σ Q) X.xe s
def tSl(r:V->Option Int->Option Int->Hp->VK->Prop)(te:TE)(tl th:TO):TE:=fun σ H Q=>te σ H fun x H1=>tl σ H1 fun l H2=>th σ H2 fun u H3=>r x l u H3 Q
def ji{r:V->Option Int->Option Int->Hp->VK->Prop}(hr:SlR X r)(he:PE X e te)(hl:PO X lo tl)(hu:PO X hi th):PE X (.Subscript e (.Slice lo hi none p2) pos) (tSl r te tl th):=by
 intro Nz s σ H Q I h;refine Subscript_ (thn (he Nz s σ H _ I h) fun v s1 ⟨x,H1,I1,r1,q1⟩=>?_);refine wpAny_Slice (thn (hl Nz s1 σ H1 _ I1 q1) fun vl s2 ⟨l,H2,I2,pl,q2⟩=>thn (hu Nz s2 σ H2 _ I2 q2) fun vu s3 ⟨u,H3,I3,pu,q3⟩=>?_);rw[evalPart_none];refine NT ?_;have I4:Inv X Nz σ H3 {s3 with heap:=s3.heap.push {cls:=.type "slice",data:=.fields #[vl,vu,.none]}}:=I3.kept (t':=s3.toks) fun b ob q=>NQ _ q;obtain⟨T,id,hT,ht,hg⟩:=hr Nz {s3 with heap:=s3.heap.push {cls:=.type "slice",data:=.fields #[vl,vu,.none]}} σ H3 x v vl vu l u s3.heap.objs.size Q I4 r1 (Heap.IsSliceOf.new ..) pl pu q3;show wpAny (model X.prog X.w) X.A (subscriptTail e (.Slice lo hi none p2) v (.ref s3.heap.objs.size)) (EP X Nz σ Q) X.xe {s3 with heap:=s3.heap.push {cls:=.type "slice",data:=.fields #[vl,vu,.none]}};exact tail_any (ops:=[.ref s3.heap.objs.size,v]) ht hT hg (by with_unfolding_all rfl)
def cutV(xs:List V)(lo hi:Option Int):List V:=(xs.drop (HT.sIx xs.length 0 lo)).take (HT.sIx xs.length xs.length hi-HT.sIx xs.length 0 lo)
def C5(xs:List V)(lo hi:Option Int):(cutV xs lo hi).length<=xs.length:=by
 unfold cutV;rw[OP,Rn];omega
end
def ixN(n:Nat)(i:Int):Option Nat:=if 0<=i then(if i<n then some i.toNat else none) else if -(n:Int)<=i then some (i+n).toNat else none
def atI{α:Type}(xs:List α)(i:Int):Option α:=(ixN xs.length i).bind fun j=>xs[j]?
def HX{n:Nat}{i:Int}{j:Nat}(h:ixN n i=some j):seqIndex? i n=some j/\j<n/\ -(n:Int)<=i/\i<n:=by
 unfold ixN at h;by_cases h0:0<=i
 . rw[Oh h0] at h;by_cases h1:i<n
   . rw[Oh h1] at h;have e:i.toNat=j:=Pd h;exact⟨by rw[seqIndex_of h0 h1,e],by omega,by omega,h1⟩
   . rw[Ob h1] at h;cases h
 . rw[Ob h0] at h;by_cases h1: -(n:Int)<=i
   . rw[Oh h1] at h;have e:(i+n).toNat=j:=Pd h;exact⟨by rw[seqIndex_neg #[0] h1,e],by omega,h1,by omega⟩
   . rw[Ob h1] at h;cases h
theorem yS{α:Type}{xs:List α}{i:Int}{v:α}(h:atI xs i=some v):∃ j,seqIndex? i xs.length=some j/\xs[j]? =some v/\j<xs.length/\ -(xs.length:Int)<=i/\i<xs.length:=by
 unfold atI at h
 cases e:ixN xs.length i with
 | none=>rw[e] at h;cases h
 | some j=>
  rw[e] at h;obtain⟨h1,h2,h3,h4⟩:=HX e;exact⟨j,h1,h,h2,h3,h4⟩
def f7{α:Type}{xs:List α}{j:Nat}{v:α}(h:xs[j]? =some v):atI xs (j:Int)=some v:=by
 have hj:j<xs.length:=(NR.mp h).1
 have e:ixN xs.length (j:Int)=some j:=by
  unfold ixN;rw[Oh #[0],Oh #[0]];simp
 unfold atI;rw[e];exact h
def yT(b:Expr):Prop:=∀ o i,subscripted b false o i=operate [o,i] (getItem o i)
def IxR(X:Cx)(r:R2):Prop:=
 ∀(value slice:Expr) (Nz:List (Addr × Obj)) (s:Shared) (σ:St) (H:Hp) (x y:V) (v u:Value) (Q:VK),Inv X Nz σ H s->RelV x v->RelV y u->r x y H Q->
  subscripted slice false v u=operate [v,u] (getItem v u)->wpAny (model X.prog X.w) X.A (subscriptTail value slice v u) (EP X Nz σ Q) X.xe s
def MtR(X:Cx)(id:String)(r:V->List V->Hp->VK->Prop):Prop:=
 ∀(Nz:List (Addr × Obj)) (s:Shared) (σ:St) (H:Hp) (x:V) (xs:List V) (v:Value) (us:List Value) (Q:VK),Inv X Nz σ H s->RelV x v->Vals xs us->r x xs H Q->
  wpAny (model X.prog X.w) X.A (call (.builtin id) (v::us)) (EP X Nz σ Q) X.xe s
section
variable{X:Cx}{a b:Expr}{ta tb:TE}{pos:Pos}
def wT{r:R2}(hr:IxR X r)(ha:PE X a ta)(hb:PE X b tb)(hs:yT b):PE X (.Subscript a b pos) (tOp r ta tb):=by
 intro Nz s σ H Q I h;exact Subscript_ (binT ha hb I h fun v u s2 x y H2 I2 rx ry q=>hr a b Nz s2 σ H2 x y v u Q I2 rx ry q (hs _ _))
def rIxL(K:Frag):R2:=fun x y H Q=>∃ p xs i v,x=.ref p/\y=.int i/\SqL K H p xs/\atI xs i=some v/\Q v H
def rIxT(K:Frag):R2:=fun x y H Q=>∃ p xs i v,x=.ref p/\y=.int i/\SqT K H p xs/\atI xs i=some v/\Q v H
def rIxS:R2:=fun x y H Q=>∃ z i c,x=.str z/\y=.int i/\z.length<=sizeLine/\atI z.cps.toList i=some c/\Q (.str ⟨#[c]⟩) H
def DF:IxR X (rIxL X.K):=by
 intro value slice Nz s σ H x y v u Q I rx ry h hs;obtain⟨p,xs,i,z,rfl,rfl,hq,he,q⟩:=h;cases rx;obtain⟨t,rfl⟩:=ry;obtain⟨ND,r,pl,hz⟩:=I.list hq;obtain⟨j,h1,h2,h3,h4,h5⟩:=yS he;obtain⟨w,ew,rw'⟩:=r.get h2;have hl:=r.length;have hn:=sA;have fin:EP X Nz σ Q w s:=⟨z,H,I,rw',q⟩;by_cases h0:0<=i
 . have hj:i.toNat=j:=by
    rw[seqIndex_of h0 h5] at h1;exact Pd h1
   exact item_listR pl.isList h0 #[0] (by rw[hj];simpa using ew) fin hs
 . have hj:(i+(ND.toArray.size:Int)).toNat=j:=by
    rw[seqIndex_neg #[0] h4] at h1;rw[N1,← hl];exact Pd h1
   exact Rx (x:=w) pl.isList.typeIs slot_list_getitem.lookup
    (wpAny_getItem_list_neg (Q:=fun r s'=>r=w/\EP X Nz σ Q r s') pl.isList #[0] (by rw[N1] <;> omega) #[0] (by rw[hj];simpa using ew) ⟨rfl,fin⟩) hs
def Jg:IxR X (rIxT X.K):=by
 intro value slice Nz s σ H x y v u Q I rx ry h hs;obtain⟨p,xs,i,z,rfl,rfl,hq,he,q⟩:=h;cases rx;obtain⟨t,rfl⟩:=ry;obtain⟨ND,r,pl,hz⟩:=I.tuple hq;obtain⟨j,h1,h2,h3,h4,h5⟩:=yS he;obtain⟨w,ew,rw'⟩:=r.get h2;have hl:=r.length;have hn:=sA;have fin:EP X Nz σ Q w s:=⟨z,H,I,rw',q⟩
 exact Rx (x:=w) pl.typeIs slot_tuple_getitem.lookup
  (getItem_tuple (j:=j) (Q:=fun r s'=>r=w/\EP X Nz σ Q r s') pl #[0] #[0] (by rw[N1,← hl];exact h1) (by simpa using ew) ⟨rfl,fin⟩) hs
def Jh:IxR X rIxS:=by
 intro value slice Nz s σ H x y v u Q I rx ry h hs;obtain⟨z,i,c,rfl,rfl,hz,he,q⟩:=h;obtain⟨t,rfl⟩:=rx;obtain⟨t',rfl⟩:=ry;obtain⟨j,h1,h2,h3,h4,h5⟩:=yS he;have hl:z.cps.toList.length=z.length:=by simp[Str.length]
 rw[hl] at h1 h4 h5;have hn:=sA
 exact tail_any (Qw s z t) slot_str_getitem.lookup (getItem_str (c:=c) (by
  have e1:decide (i < -(2^63:Int))=false:=NL #[0];have e2:decide (i ≥ 2^63)=false:=NL #[0];rw[e1,e2,Bool.or_false]) (by rw[h1];simpa using h2) ⟨.str ⟨#[c]⟩,H,I.tok _,⟨_,rfl⟩,q⟩) hs
def Inv.lst{Nz:List (Addr × Obj)}{σ:St}{H:Hp}{s:Shared}{p:Addr}{xs:List V}(I:Inv X Nz σ H s)(h:H p=↥xs):
  ∃(ND:List Value) (n:Nat),Vals xs ND/\s.heap.get? p=some {cls:=.type "list",data:=.seq ND.toArray n}/\xs.length<=sizeLine:=by
 obtain⟨z,ND,n,r,e⟩:=I.hok p _ h;exact⟨ND,n,r,e,z⟩
def A9(lo hi:Option Int)(n:Nat):(sliceBounds lo hi none n).1=((HT.sIx n 0 lo:Nat):Int)/\(sliceBounds lo hi none n).2.1=((HT.sIx n n hi:Nat):Int)/\(sliceBounds lo hi none n).2.2=1:=by
 refine⟨?_,?_,rfl⟩
 . cases lo with
   | none=>simp[sliceBounds,HT.sIx]
   | some i=>
    simp only[sliceBounds,HT.sIx,Option.getD_none,show(1:Int)>0 by decide,RZ];by_cases h:i<0
    . simp only[h,RZ] <;> omega
    . simp only[h,if_false] <;> omega
 . cases hi with
   | none=>simp[sliceBounds,HT.sIx]
   | some i=>
    simp only[sliceBounds,HT.sIx,Option.getD_none,show(1:Int)>0 by decide,RZ];by_cases h:i<0
    . simp only[h,RZ] <;> omega
    . simp only[h,if_false] <;> omega
def Aq(ND:List Value)(lo hi:Option Int):slicePick ND.toArray lo hi none=((ND.drop (HT.sIx ND.length 0 lo)).take (HT.sIx ND.length ND.length hi-HT.sIx ND.length 0 lo)).toArray:=by
 obtain⟨h1,h2,h3⟩:=A9 lo hi ND.toArray.size;unfold slicePick;rw[h1,h2,h3];simp only[sliceRange_one,pick_run,N1] <;> rfl
def rSlL(K:Frag):V->Option Int->Option Int->Hp->VK->Prop:=fun x lo hi H Q=>∃ a xs,x=.ref a/\SqL K H a xs/\∀ p,H p=none->Q (.ref p) (upd H p (.lst (cutV xs lo hi)))
def HY:SlR X (rSlL X.K):=by
 intro Nz s σ H x v vl vu lo hi sl Q I rx hs pl pu h;obtain⟨a,xs,rfl,hx,q⟩:=h;cases rx;obtain⟨ND,r,ht,hz⟩:=I.list hx;have NF:=r.length;refine⟨"list",_,slot_list_getitem.lookup,ht.isList.typeIs,?_⟩;refine wpAny_getItem_list_slice ht.isList hs pl pu .none (by simp) ?_ (by rw[N1] <;> omega);rw[Aq,← NF];refine⟨.ref s.heap.objs.size,_,I.laid (t':=s.toks) (o:=.lst (cutV xs lo hi)) (fun b ob q=>NQ _ q) (NU _) ?_,rfl,q _ (I.hok.fresh (NU _))⟩;exact⟨NS (C5 xs lo hi) hz,_,0,(r.drop (HT.sIx xs.length 0 lo)).take (HT.sIx xs.length xs.length hi-HT.sIx xs.length 0 lo),N7 _ rfl⟩
def flatV:V->Bool
 | .non=>true
 | .bl _=>true
 | .int _=>true
 | .str _=>true
 | _=>false
def eqV:V->V->Bool
 | .non,.non=>true
 | .bl a,.bl b=>a==b
 | .bl a,.int b=>(if a then 1 else 0)==b
 | .int a,.bl b=>a==(if b then 1 else 0)
 | .int a,.int b=>a==b
 | .str a,.str b=>a==b
 | _,_=>false
theorem Ji{A:Around}{s:Shared}{y x:V}{u v:Value}(ry:RelV y u)(rx:RelV x v)(fy:flatV y=true)(fx:flatV x=true):SeqAt.EqAt A s u v (eqV y x):=by
 cases y with
 | non=>
  cases ry
  cases x with
  | non=>cases rx;exact SeqAt.EqAt.same _
  | bl b=>cases rx;exact SeqAt.EqAt.none_bool b
  | int b=>obtain⟨t,rfl⟩:=rx;exact SeqAt.EqAt.none_int b t
  | str b=>obtain⟨t,rfl⟩:=rx;exact SeqAt.EqAt.none_str b t
  | _=>exact absurd (show false=true from fx) NW
 | bl a=>
  cases ry
  cases x with
  | non=>cases rx;exact SeqAt.EqAt.bool_none a
  | bl b=>cases rx;exact SeqAt.EqAt.bool_bool a b
  | int b=>obtain⟨t,rfl⟩:=rx;exact SeqAt.EqAt.bool_int a b t
  | str b=>obtain⟨t,rfl⟩:=rx;exact SeqAt.EqAt.bool_str a b t
  | _=>exact absurd (show false=true from fx) NW
 | int a=>
  obtain⟨t',rfl⟩:=ry
  cases x with
  | non=>cases rx;exact SeqAt.EqAt.int_none a t'
  | bl b=>cases rx;exact SeqAt.EqAt.int_bool a t' b
  | int b=>obtain⟨t,rfl⟩:=rx;exact SeqAt.EqAt.int_int a t' b t
  | str b=>obtain⟨t,rfl⟩:=rx;exact SeqAt.EqAt.int_str a t' b t
  | _=>exact absurd (show false=true from fx) NW
 | str a=>
  obtain⟨t',rfl⟩:=ry
  cases x with
  | non=>cases rx;exact SeqAt.EqAt.str_none a t'
  | bl b=>cases rx;exact SeqAt.EqAt.str_bool a t' b
  | int b=>obtain⟨t,rfl⟩:=rx;exact SeqAt.EqAt.str_int a t' b t
  | str b=>obtain⟨t,rfl⟩:=rx;exact SeqAt.EqAt.str_str a t' b t
  | _=>exact absurd (show false=true from fx) NW
 | _=>exact absurd (show false=true from fy) NW
def eqU(x:V)(u:Value):Bool:=match u with
 | .none=>eqV .non x
 | .bool b=>eqV (.bl b) x
 | .int i _=>eqV (.int i) x
 | .str z _=>eqV (.str z) x
 | _=>false
theorem FH{x y:V}{u:Value}(r:RelV y u)(f:flatV y=true):eqU x u=eqV y x:=by
 cases y with
 | non=>cases r;rfl
 | bl b=>cases r;rfl
 | int i=>obtain⟨t,rfl⟩:=r;rfl
 | str z=>obtain⟨t,rfl⟩:=r;rfl
 | _=>exact absurd (show false=true from f) NW
theorem pU{x:V}:∀{xs:List V} {us:List Value},Vals xs us->xs.all flatV=true->us.any (eqU x)=xs.any fun y=>eqV y x
 | _,_,.nil,_=>rfl
 | y::xs,u::us,.cons r t,f=>by
  rw[QA,Om] at f;rw[P5,P5,FH r f.1,pU t f.2]
theorem m3{A:Around}{s:Shared}{x:V}{v:Value}(rx:RelV x v)(fx:flatV x=true):∀{xs:List V} {us:List Value},Vals xs us->xs.all flatV=true->∀ u∈us,SeqAt.EqAt A s u v (eqU x u)
 | _,_,.nil,_=>fun u hu=>by cases hu
 | y::xs,u::us,.cons r t,f=>fun u' hu=>by
  rw[QA,Om] at f;rcases N4.mp hu with rfl | hu
  . rw[FH r f.1];exact Ji r rx f.1 fx
  . exact m3 rx fx t f.2 u' hu
def inV(x:V)(xs:List V):Bool:=xs.any fun y=>eqV y x
def rIn(K:Frag)(neg:Bool):R2:=fun x y H Q=>∃ p xs,y=.ref p/\(SqL K H p xs\/SqT K H p xs)/\flatV x=true/\xs.all flatV=true/\Q (.bl (if neg then !inV x xs else inV x xs)) H
def sD:OpR X (compareOp .In) (rIn X.K false):=by
 intro Nz s σ H x y v u Q I rx ry h;obtain⟨p,xs,rfl,hq,fx,fs,q⟩:=h;cases ry;rcases hq with hq | hq
 . obtain⟨ND,r,pl,hz⟩:=I.list hq;refine SeqAt.in_listAt (eqU x) pl.isList (fun w hw=>m3 rx fx r fs w (by simpa using hw)) ⟨.bl _,H,I,rfl,?_⟩;rw[show ND.toArray.any (eqU x)=ND.any (eqU x) by simp,pU r fs];exact q
 . obtain⟨ND,r,pl,hz⟩:=I.tuple hq;refine SeqAt.in_tupleAt (eqU x) pl (fun w hw=>m3 rx fx r fs w (by simpa using hw)) ⟨.bl _,H,I,rfl,?_⟩;rw[show ND.toArray.any (eqU x)=ND.any (eqU x) by simp,pU r fs];exact q
def sE:OpR X (compareOp .NotIn) (rIn X.K true):=by
 intro Nz s σ H x y v u Q I rx ry h;obtain⟨p,xs,rfl,hq,fx,fs,q⟩:=h;cases ry;rcases hq with hq | hq
 . obtain⟨ND,r,pl,hz⟩:=I.list hq;refine SeqAt.notIn_listAt (eqU x) pl.isList (fun w hw=>m3 rx fx r fs w (by simpa using hw)) ⟨.bl _,H,I,rfl,?_⟩;rw[show ND.toArray.any (eqU x)=ND.any (eqU x) by simp,pU r fs];exact q
 . obtain⟨ND,r,pl,hz⟩:=I.tuple hq;refine SeqAt.notIn_tupleAt (eqU x) pl (fun w hw=>m3 rx fx r fs w (by simpa using hw)) ⟨.bl _,H,I,rfl,?_⟩;rw[show ND.toArray.any (eqU x)=ND.any (eqU x) by simp,pU r fs];exact q
def Ba:OpR X (compareOp .NotIn) (fun x y H Q=>∃ i j,x=.str i/\y=.str j/\Q (.bl (!(!(Builtin.Str.occurrences j i 0 j.length 1).isEmpty))) H):=by
 intro Nz s σ H x y v u Q I rx ry h;obtain⟨i,j,rfl,rfl,q⟩:=h;obtain⟨t,rfl⟩:=rx;obtain⟨t',rfl⟩:=ry;exact notIn_str ⟨.bl _,H,I,rfl,q⟩
def hJ:CallR X (.builtin "len") (fun xs H Q=>∃ p ys,xs=[.ref p]/\(SqL X.K H p ys\/SqT X.K H p ys)/\Q (.int ys.length) H):=by
 intro Nz s σ H xs us Q I r h;obtain⟨p,ys,rfl,hq,q⟩:=h;obtain⟨u,rfl,rx⟩:=fj r;cases rx;have hn:=sA;rcases hq with hq | hq
 . obtain⟨ND,r',pl,hz⟩:=I.list hq;have NF:=r'.length;exact Calls.call_len_list pl.isList (by simp only[N1] <;> omega) ⟨.int ys.length,H,I.tok _,⟨s.toks+1,by rw[N1,NF]⟩,q⟩
 . obtain⟨ND,r',pl,hz⟩:=I.tuple hq;have NF:=r'.length;exact len_tuple pl (by simp only[N1] <;> omega) ⟨.int ys.length,H,I.tok _,⟨s.toks+1,by rw[N1,NF]⟩,q⟩
def Bb:CallR X (.builtin "len") (fun xs H Q=>∃ z,xs=[.str z]/\z.length<=sizeLine/\Q (.int z.length) H):=by
 intro Nz s σ H xs us Q I r h;obtain⟨z,rfl,hz,q⟩:=h;obtain⟨u,rfl,t,rfl⟩:=fj r;have hn:=sA;exact len_str #[0] ⟨.int z.length,H,I.tok _,⟨_,rfl⟩,q⟩
def Bc:CallR X (.type "list") (fun xs H Q=>∃ p ys,xs=[.ref p]/\(SqL X.K H p ys\/SqT X.K H p ys)/\∀ l,H l=none->Q (.ref l) (upd H l (.lst ys))):=by
 intro Nz s σ H xs us Q I r h;obtain⟨p,ys,rfl,hq,q⟩:=h;obtain⟨u,rfl,rx⟩:=fj r;cases rx
 have fin:∀(ND:List Value),Vals ys ND->ys.length<=sizeLine->∀(h':Heap) (c':Nat),(∀ b o',s.heap.get? b=some o'->h'.get? b=some o')->
   h'.get? s.heap.objs.size=some {cls:=.type "list",dict:=none,data:=.seq ND.toArray c',slots:=#[]}->EP X Nz σ Q (.ref s.heap.objs.size) {s with heap:=h'}:=fun ND r' hz h' c' kp e=>
  ⟨.ref s.heap.objs.size,_,I.laid (t':=s.toks) kp (NU _) (show ObjOk X.prog X.w _ h' _ (.lst ys) from⟨hz,ND,c',r',e⟩),rfl,q _ (I.hok.fresh (NU _))⟩
 rcases hq with hq | hq
 . obtain⟨ND,r',pl,hz⟩:=I.list hq;have NF:=r'.length;obtain⟨o,ho,hc,n,hd⟩:=pl.isList;exact call_list_seq p (.inl rfl) ho hc hd (fun h' c' kp e=>fin ND r' hz h' c' kp e) (by simp only[N1] <;> omega)
 . obtain⟨ND,r',pl,hz⟩:=I.tuple hq;have NF:=r'.length;obtain⟨o,ho,hc,n,hd⟩:=pl;exact call_list_seq p (.inr rfl) ho hc hd (fun h' c' kp e=>fin ND r' hz h' c' kp e) (by simp only[N1] <;> omega)
def Ar:CallR X (.type "tuple") (fun xs H Q=>∃ p ys,xs=[.ref p]/\((SqL X.K H p ys/\∀ l,H l=none->Q (.ref l) (upd H l (.tup ys)))\/(SqT X.K H p ys/\Q (.ref p) H))):=by
 intro Nz s σ H xs us Q I r h;obtain⟨p,ys,rfl,h⟩:=h;obtain⟨u,rfl,rx⟩:=fj r;cases rx;rcases h with ⟨hq,q⟩ | ⟨hq,q⟩
 . obtain⟨ND,r',pl,hz⟩:=I.list hq;have NF:=r'.length;refine call_tuple_list pl.isList (fun h' kp=>?_) (by simp only[N1] <;> omega);have I1:Inv X Nz σ H {s with heap:=h'}:=I.kept (t':=s.toks) kp
   have I2:Inv X Nz σ (upd H h'.objs.size (.tup ys)) {s with heap:=h'.push {cls:=.type "tuple",data:=.seq ND.toArray}}:=
    I1.laid (t':=s.toks) (fun b o e=>NQ _ e) (NU _) (show ObjOk X.prog X.w _ _ _ (.tup ys) from⟨hz,ND,r',IsTup.new _ _⟩)
   exact⟨.ref h'.objs.size,_,I2,rfl,q _ (I1.hok.fresh (NU _))⟩
 . obtain⟨ND,r',pl,hz⟩:=I.tuple hq;exact call_tuple_same pl ⟨.ref p,H,I,rfl,q⟩
def tyV(K:Frag)(T:String)(x:V)(H:Hp):Prop:=match x with
 | .str _=>T="str"
 | .int _=>T="int"
 | .ref p=>(T="list"/\∃ xs,SqL K H p xs)\/(T="tuple"/\∃ o,K.lookup p=some o/\o.cls=.type "tuple"/\o.dict=none)\/
   (T="dict"/\((∃ NC,H p=some (.dK NC))\/∃ NC,H p=some (.dT NC)))\/(T="set"/\∃ S n,H p=some (.set S n))
 | _=>False
theorem FI{Nz:List (Addr × Obj)}{σ:St}{H:Hp}{s:Shared}{T:String}{x:V}{v:Value}(I:Inv X Nz σ H s)(r:RelV x v)(ty:tyV X.K T x H):
  s.TypeIs v T/\∀ a,v=.ref a->∃ ob,s.heap.get? a=some ob/\ob.dict=none:=by
 cases x with
 | str z=>
  obtain⟨t,rfl⟩:=r;cases (show T="str" from ty);exact⟨Qw s z t,fun _ e=>nomatch e⟩
 | int i=>
  obtain⟨t,rfl⟩:=r;cases (show T="int" from ty);exact⟨typeIs_int s i t,fun _ e=>nomatch e⟩
 | ref p=>
  cases r;rcases ty with ⟨rfl,xs,hq⟩ | ⟨rfl,o,hk,hc,hd⟩ | ⟨rfl,hk⟩ | ⟨rfl,S,n,hk⟩
  . obtain⟨ND,_,pl,_⟩:=I.list hq;refine⟨pl.isList.typeIs,fun a e=>?_⟩;cases e;obtain⟨o,n,e,c,hd,_⟩:=pl;exact⟨o,e,hd⟩
  . refine⟨⟨o,I.kIn p o hk,hc⟩,fun a e=>?_⟩;cases e;exact⟨o,I.kIn _ o hk,hd⟩
  . have z:∃ o,s.heap.get? p=some o/\o.ExactDict:=by
     rcases hk with ⟨NC,hk⟩ | ⟨NC,hk⟩
     . obtain⟨_,_,_,_,o,_,_,e,ex,_⟩:=I.hok p _ hk;exact⟨o,e,ex⟩
     . obtain⟨_,_,_,_,o,_,_,e,ex,_⟩:=I.hok p _ hk;exact⟨o,e,ex⟩
    obtain⟨o,e,ex⟩:=z;refine⟨⟨o,e,ex.1⟩,fun a e2=>?_⟩;cases e2;exact⟨o,e,ex.2.1⟩
  . obtain⟨o,_,_,_,e,ex,_⟩:=I.hok p _ hk;refine⟨⟨o,e,ex.1⟩,fun a e2=>?_⟩;cases e2;exact⟨o,e,ex.2.1⟩
 | _=>exact False.elim ty
def Ev(K:Frag)(T:String)(r:V->List V->Hp->VK->Prop)(to:TE):TE:=fun σ H Q=>to σ H fun x H1=>tyV K T x H1/\r x [] H1 Q
def tBM(K:Frag)(T:String)(r:V->List V->Hp->VK->Prop)(to:TE)(t:TA):TE:=fun σ H Q=>to σ H fun x H1=>tyV K T x H1/\t σ H1 fun xs H2=>r x xs H2 Q
variable{o e:Expr}{es:List Expr}{to:TE}{t:TA}{name:Str}{apos cpos:Pos}{T id:String}{r:V->List V->Hp->VK->Prop}
def FJ (pa:PlainAttrs T) (slot:Slot T name id) (hty:typeOf (.builtin id)=pure (.type "method_descriptor")) (hm:MtR X id r) (ho:PE X o to)
  (hbase:attributeBase o name X.env (eval o X.env)=eval o X.env:=by rfl) (hline:(apos.endLine==cpos.line)=true:=by rfl):PE X (.Call (.Attribute o name apos) [] [] cpos) (Ev X.K T r to):=by
 intro Nz s σ H Q I h;refine wpAny_Call_method0_late hbase hline (thn (ho Nz s σ H _ I h) fun v s1 ⟨x,H1,I1,r1,ty,q1⟩=>?_);obtain⟨h1,h2⟩:=FI I1 r1 ty;exact⟨T,id,pa,slot,hty,h1,h2,Ry rfl (PySem.evalArgs_none (hm Nz s1 σ H1 x [] v [] Q I1 r1 .nil q1))⟩
def bw (pa:PlainAttrs T) (slot:Slot T name id) (hty:typeOf (.builtin id)=pure (.type "method_descriptor")) (hm:MtR X id r) (ho:PE X o to) (ha:PA X (e::es) t)
  (hbase:attributeBase o name X.env (eval o X.env)=eval o X.env:=by rfl)
  (hfew:((backTo cpos (starEach (e::es) X.env)).all (fun x=>!x.1)&&(backToKw cpos (keywordEach [] X.env)).all (fun x=>x.1.isSome)
   &&decide ((e::es).length+([]:List Keyword).length+(if ([]:List Keyword).isEmpty then 0 else 1)<30))=true:=by rfl)
  (hline:(apos.endLine==cpos.line)=true:=by rfl) (hs:starEach (e::es) X.env=(false,eval e X.env)::starEach es X.env:=by rfl) (hplain:(backTo cpos (starEach es X.env)).any (·.1)=false:=by rfl):
  PE X (.Call (.Attribute o name apos) (e::es) [] cpos) (tBM X.K T r to t):=by
 intro Nz s σ H Q I h;refine wpAny_Call_method_late hbase hfew hline rfl (thn (ho Nz s σ H _ I h) fun v s1 ⟨x,H1,I1,r1,ty,q1⟩=>?_);obtain⟨h1,h2⟩:=FI I1 r1 ty;refine⟨T,id,pa,slot,hty,h1,h2,?_⟩;have hA:=ha cpos Nz s1 σ H1 _ I1 q1;rw[hs] at hA ⊢;refine Ry (by show(false||(backTo cpos (starEach es X.env)).any (·.1))=false;rw[hplain] <;> rfl) (Calls.evalArgs_plain ?_);exact thn hA fun us s2 ⟨vs,H2,I2,r2,q2⟩=>hm Nz s2 σ H2 x vs v us Q I2 r1 r2 q2
end
def MtM(X:Cx)(id:String)(r:V->List V->Hp->VK->Prop):Prop:=
 ∀(Nz:List (Addr × Obj)) (s:Shared) (σ:St) (H:Hp) (x:V) (xs:List V) (v:Value) (us:List Value) (Q:VK),Inv X Nz σ H s->RelV x v->Vals xs us->r x xs H Q->
  wpAny (model X.prog X.w) X.A (call (.builtin id) (v::us)) (EP X Nz σ Q) X.xe s
theorem Vals.one:∀{x:V} {us:List Value},Vals [x] us->∃ u,us=[u]/\RelV x u
 | _,_,.cons r .nil=>⟨_,rfl,r⟩
theorem Vals.eraseIdx:∀{xs:List V} {us:List Value} (i:Nat),Vals xs us->Vals (xs.eraseIdx i) (us.eraseIdx i)
 | _,_,_,.nil=>.nil
 | _,_,0,.cons _ t=>t
 | _,_,i+1,.cons r t=>.cons r (Vals.eraseIdx i t)
theorem Vals.rep{xs:List V}{us:List Value}(h:Vals xs us):∀ k:Nat,Vals (List.replicate k xs).flatten (List.replicate k us).flatten
 | 0=>.nil
 | k+1=>by
  rw[PP,PP,Ql,Ql];exact Vals.append h (Vals.rep h k)
theorem zK{α:Type}:∀(l:List α) (i:Nat),(l.eraseIdx i).length<=l.length
 | [],_=>NU _
 | _::_,0=>Ps _
 | _::r,i+1=>Nat.succ_le_succ (zK r i)
theorem zL(ND:List Value):∀(k:Nat) (acc:List Value),
  List.foldl (fun x1 x2=>x1++x2) acc.toArray (List.replicate k ND.toArray)=(acc++(List.replicate k ND).flatten).toArray
 | 0,acc=>by simp
 | k+1,acc=>by
  have e:acc.toArray++ND.toArray=(acc++ND).toArray:=by simp
  have e2:(acc++ND)++(List.replicate k ND).flatten=acc++(List.replicate (k+1) ND).flatten:=by
   rw[PP,Ql,P7]
  rw[← e2,← zL ND k (acc++ND),← e,PP,P2]
section
variable{X:Cx}{Nz:List (Addr × Obj)}{σ:St}{H:Hp}{s:Shared}{l b:Addr}{xs ys zs:List V}
def Inv.lset {ND its':List Value} {n:Nat} {f:Array Value->Array Value} {t':Nat} (I:Inv X Nz σ H s) (hH:H l=↥xs)
  (e:s.heap.get? l=some {cls:=.type "list",data:=.seq ND.toArray n}) (hf:f ND.toArray=its'.toArray) (hv:Vals ys its') (hz:ys.length<=sizeLine):
  Inv X Nz σ (upd H l (.lst ys)) {s with heap:=s.heap.update l (Obj.mapSeq f),toks:=t'}:=by
 have q:=PySem.IsL.update e f;rw[hf] at q;refine I.write (x:=l) (e:=l) (by rw[hH];exact trivial) (.inl rfl) (fun b' u hb hu=>(Qm s.heap (Obj.mapSeq f) (Qz hb)).trans hu) ⟨_,q⟩ ?_;exact⟨hz,its',_,hv,q⟩
def Inv.lnew{ND:List Value}{t':Nat}(I:Inv X Nz σ H s)(hv:Vals ys ND)(hz:ys.length<=sizeLine):
  Inv X Nz σ (upd H s.heap.objs.size (.lst ys)) {s with heap:=s.heap.push {cls:=.type "list",data:=.seq ND.toArray},toks:=t'}:=
 I.laid (fun _ _ q=>NQ _ q) (NU _) ⟨hz,ND,0,hv,N7 _ rfl⟩
def Inv.fresh(I:Inv X Nz σ H s):H s.heap.objs.size=none:=I.hok.fresh (NU _)
def Inv.lstM(I:Inv X Nz σ H s)(hH:H l=↥xs):xs.length<=sizeLine/\∃(ND:List Value) (n:Nat),Vals xs ND/\xs.length=ND.length/\s.heap.get? l=some {cls:=.type "list",data:=.seq ND.toArray n}:=by
 obtain⟨z,ND,n,r,e⟩:=I.hok l _ hH;exact⟨z,ND,n,r,r.length,e⟩
def Be{n:Nat}(h:n<=sizeLine):Builtin.List.listTooLong n=false:=by
 unfold Builtin.List.listTooLong;exact NL #[0]
end
section
variable{X:Cx}
def HZ:V->List V->Hp->VK->Prop:=fun x vs H Q=>∃ l xs y,x=.ref l/\vs=[y]/\H l=↥xs/\xs.length<sizeLine/\Q .non (upd H l (.lst (xs++[y])))
def zM:MtM X "list.append" HZ:=by
 intro Nz s σ H x vs v us Q I rx rv h;obtain⟨l,xs,y,rfl,rfl,hH,hz,q⟩:=h;cases rx;obtain⟨u,rfl,ru⟩:=rv.one;obtain⟨z,ND,n,r,hl,e⟩:=I.lstM hH;refine PK F.slot_list_append ⟨_,e,rfl⟩ F.entry_list_append (F.args_list_append_2 _ _) (PySem.list_append l ND.toArray n u (by rw[N1];omega)) ⟨e,?_⟩;refine⟨.non,_,I.lset (its':=ND++[u]) hH e (by simp) (r.append (.cons ru .nil)) ?_,rfl,q⟩;rw[N0,RJ];omega
def Ia:V->List V->Hp->VK->Prop:=fun x vs H Q=>∃ l b xs zs,x=.ref l/\vs=[.ref b]/\H l=↥xs/\H b=↥zs/\xs.length+zs.length<=sizeLine/\Q .non (upd H l (.lst (xs++zs)))
def FK:MtM X "list.extend" Ia:=by
 intro Nz s σ H x vs v us Q I rx rv h;obtain⟨l,b,xs,zs,rfl,rfl,hH,hB,hz,q⟩:=h;cases rx;obtain⟨u,rfl,ru⟩:=rv.one;cases ru;obtain⟨z,ND,n,r,hl,e⟩:=I.lstM hH;obtain⟨z2,its2,n2,r2,hl2,e2⟩:=I.lstM hB;have hsz:ND.toArray.size+its2.toArray.size<=sizeLine:=by rw[N1,N1];omega
 have hlong:¬ (!ND.toArray.isEmpty&&Builtin.List.listTooLong (ND.toArray.size+its2.toArray.size))=true:=by
  rw[Be hsz,Bool.and_false];exact NW
 refine PK F.slot_list_extend ⟨_,e,rfl⟩ F.entry_list_extend (F.args_list_extend_2 _ _)
  (AutoSeq1.list_extend_list_list_0 l ND.toArray n b its2.toArray n2 hlong (by rw[N1];omega) #[0]) ⟨e,e2,?_⟩
 refine⟨.non,_,I.lset (its':=ND++its2) hH e (by simp) (r.append r2) ?_,rfl,q⟩;rw[N0];omega
def Jj:V->List V->Hp->VK->Prop:=fun x vs H Q=>∃ l xs i k y,x=.ref l/\vs=[.int i]/\H l=↥xs/\ -(2^63)<=i/\i<2^63/\seqIndex? i xs.length=some k/\xs[k]? =some y/\Q y (upd H l (.lst (xs.eraseIdx k)))
def GZ:MtM X "list.pop" Jj:=by
 intro Nz s σ H x vs v us Q I rx rv h;obtain⟨l,xs,i,k,y,rfl,rfl,hH,h1,h2,hk,hy,q⟩:=h;cases rx;obtain⟨u,rfl,ru⟩:=rv.one;obtain⟨t,rfl⟩:=ru;obtain⟨z,ND,n,r,hl,e⟩:=I.lstM hH;obtain⟨w,hw,rw'⟩:=r.get hy
 refine PK F.slot_list_pop ⟨_,e,rfl⟩ F.entry_list_pop (F.args_list_pop_2 _ _)
  (MeetsSeq.list_pop_at l ND.toArray n i t k w (fitsIndex_both h1 h2) (by rw[N1,← hl];exact hk) (by rw[← OM];exact hw) (by rw[N1];omega)) ⟨e,?_⟩
 refine⟨y,_,I.lset (its':=ND.eraseIdx k) hH e ?_ (r.eraseIdx k) ?_,rw',q⟩
 . show ND.toArray.eraseIdxIfInBounds k=(ND.eraseIdx k).toArray;rw[List.eraseIdxIfInBounds_toArray]
 . have:=zK xs k;omega
def rCat:R2:=fun x y H Q=>∃ l b xs zs,x=.ref l/\y=.ref b/\H l=↥xs/\H b=↥zs/\xs.length+zs.length<=sizeLine/\∀ p,H p=none->Q (.ref p) (upd H p (.lst (xs++zs)))
def Jk:OpR X (binaryOp .Add) rCat:=by
 intro Nz s σ H x y v u Q I rx ry h;obtain⟨l,b,xs,zs,rfl,rfl,hH,hB,hz,q⟩:=h;cases rx;cases ry;obtain⟨z,ND,n,r,hl,e⟩:=I.lstM hH;obtain⟨z2,its2,n2,r2,hl2,e2⟩:=I.lstM hB;refine PySem.P.add_list e e2 ?_ (by rw[N1,N1];omega);have ea:ND.toArray++its2.toArray=(ND++its2).toArray:=by simp
 rw[ea];exact⟨.ref _,_,I.lnew (t':=s.toks) (r.append r2) (by rw[N0];omega),rfl,q _ I.fresh⟩
def rRep:R2:=fun x y H Q=>∃ l k xs,x=.ref l/\y=.int k/\H l=↥xs/\ -(2^63)<=k/\k<2^63/\xs.length*k.toNat<=sizeLine/\
 ∀ p,H p=none->Q (.ref p) (upd H p (.lst (List.replicate k.toNat xs).flatten))
theorem Ib{α:Type}(xs:List α)(k:Nat):(List.replicate k xs).flatten.length=k*xs.length:=by
 induction k with
 | zero=>simp
 | succ k ih=>rw[PP,Ql,N0,ih,R0,Nat.add_comm]
def Jl:OpR X (binaryOp .Mult) rRep:=by
 intro Nz s σ H x y v u Q I rx ry h;obtain⟨l,k,xs,rfl,rfl,hH,h1,h2,hz,q⟩:=h;cases rx;obtain⟨t,rfl⟩:=ry;obtain⟨z,ND,n,r,hl,e⟩:=I.lstM hH;have NF:ND.toArray.size*k.toNat<=sizeLine:=by rw[N1,← hl];exact hz
 have hcap:¬ ND.toArray.size*k.toNat > (2^63-1)/8:=by
  have:(sizeLine:Nat)<=(2^63-1)/8:=by decide
  omega
 have hfit:¬ (!Builtin.List.listFitsIndex k)=true:=by
  rw[fitsIndex_both h1 h2];exact NW
 have hlong:¬ Builtin.List.listTooLong (ND.toArray.size*k.toNat)=true:=by
  rw[Be NF];exact NW
 have hnew:List.foldl (fun x1 x2=>x1++x2) #[] (List.replicate (if ND.toArray.isEmpty=true then 0 else k.toNat) ND.toArray)=(List.replicate k.toNat ND).flatten.toArray:=by
  have f0:∀ m:Nat,List.foldl (fun x1 x2=>x1++x2) #[] (List.replicate m ND.toArray)=(List.replicate m ND).flatten.toArray:=fun m=>by
   have:=zL ND m [];rw[List.nil_append] at this;exact this
  rw[f0]
  cases ND with
  | nil=>simp
  | cons a r'=>rw[Ob (by simp)]
 refine wpAny_binaryOp_repeat_ref (T:="list") (U:="int") #[1] ⟨_,e,rfl⟩ (fun s'=>typeIs_int s' k t) noFill_list_mul F.fills_int_mul F.slot_int_rmul repeat_list F.slot_int_index.lookup
  (PK F.slot_int_rmul (typeIs_int s k t) F.entry_int_rmul (F.args_int_rmul_2 _ _) (int___rmul___int_list k t l ND.toArray n)
   ⟨e,rfl,⟨_,e,rfl⟩,PK F.slot_list_mul ⟨_,e,rfl⟩ F.entry_list_mul (F.args_list_mul_2 _ _) (AutoListH.list___mul___list_int_3 l ND.toArray n k t hfit hcap hlong) ⟨e,?_⟩⟩)
 rw[hnew];exact⟨.ref _,_,I.lnew (t':=s.toks) (r.rep k.toNat) (by rw[Ib,Nat.mul_comm];exact hz),rfl,q _ I.fresh⟩
end
end L2
namespace Att
open PySem PySem.W PySem.Calls PyProof.Rows
theorem ints_of_wellAll{P:Params}{h:Heap}:∀(ns:∅) (vs:List Value),WellAll P h vs (ns.map WData.int)->IntsAre vs ns:=by
 intro ns
 induction ns with
 | nil=>
  intro vs w;rw[List.map_nil] at w;cases w;exact .nil
 | cons n ns ih=>
  intro vs w;rw[List.map_cons] at w
  cases w with
  | cons a b=>
   cases a;exact .cons _ _ (ih _ b)
theorem script_of {l:OpenLaw} {n:Nat} (hn:l.most=some n) {P:Params} {h:Heap} {args:List WData} {vals:List Value}
  (hpre:l.row.toRowW.claim.pre args=true) (hwl:WellAll P h vals args):
  ∃ a vs ns,vals=[Value.ref a]/\args=[WData.list (ns.map WData.int)]/\h.get? a=some {cls:=.type "list",data:=.seq vs.toArray}/\IntsAre vs ns/\ns.length<=n:=by
 have hsh:WShape.hasAll [] args [.list .int]=true:=(pre_splitW hpre).1;have hc:l.pre.holds [] {args:=args}=true:=(pre_splitW hpre).2;obtain⟨d,r,rfl,h1,h2⟩:=hasAllW_cons hsh;obtain rfl:=hasAllW_nil h2;obtain⟨xs,rfl,h3⟩:=hasW_list h1;obtain⟨ns,rfl⟩:=items_int h3
 have NF:ns.length<=n:=by
  unfold OpenLaw.pre at hc
  have h4:(WTm.not (.lt (.lit (.int (n:Int))) (.len (.arg 0)))).holds [] {args:=[.list (ns.map .int)]}=true:=by
   have h4:=(holds_andW hc).1;rw[hn] at h4;exact h4
  have h5:=condW_of h4 (w_not (w_lt w_lit (w_len_list (w_arg rfl))));rw[List.length_map] at h5;refine Nat.le_of_not_lt fun q=>?_;have q':(n:Int) < ((ns.length:Nat):Int):=by omega
  first
   | (rw[decide_eq_true q'] at h5;exact absurd h5 #[1])
   | (simp at h5;omega)
 cases hwl with
 | cons w1 w2=>
  cases w2
  cases w1 with
  | list ho hall=>exact⟨_,_,ns,rfl,rfl,ho,ints_of_wellAll ns _ hall,NF⟩
def post_true(l:OpenLaw)(args:List WData):l.row.toRowW.claim.post args (.bool true) args=true:=
 postW_of (r:=l.row.toRowW) (X:=(true==true))
  (show WShape.has [] (.bool true) .bool=true by first | rfl | decide | simp[WShape.has,WShape.arms,WShape.armsAll])
  (show(WTm.eq .res (.lit (.bool true))).value [] {args:=args,res:=some (.bool true),after:=args}=some (.bool (true==true)) from w_eq_bool (w_res rfl) w_lit) rfl
def attach_call {l:OpenLaw} {n:Nat} {q:Program} {loose:List Str} {XP:(Str->Option Value)->Heap->Prop} {YP:World->Heap->Prop} {d:DefRec}
  (hn:l.most=some n) (hdf:d.params.defaults=[])
  (call:∀(w:World) (s₀ s₁:Shared) (mg mb:Str->Option Value) (fa:Addr) (o:Obj) (pm cd doc:Value) (a:Addr) (vs:List Value) (ns:∅),
   Ground q loose [] XP w s₀ mg mb s₁.heap->YP w s₁.heap->
   s₁.heap.get? fa=some o->o.data=.func (docDef d.name d.params d.body d.scope pm cd doc)->s₁.heap.CodeRec cd d.name->mg d.name=↑fa->
   s₁.heap.get? a=some {cls:=.type "list",data:=.seq vs.toArray}->IntsAre vs ns->ns.length<=n->s₁.gens=#[]->
   codeAny (model l.prog w) callerA (.call (.ref fa) ⟨[.ref a],[]⟩) (fun r s'=>r=.ok (.ret (.bool true))/\OldK s₁.heap s'.heap/\s'.os=s₁.os/\AllBare s'.gens) s₁):
  WalkO q loose XP YP l.row.toRowW d [] (fun f vs=>PySem.call f vs):=by
 intro w s₀ s₁ mg mb G Y fa o pm cd doc dV kV ho hd hcd hD hmg hg args vals as hpre hlay hrd hwl hlo;obtain rfl:dV=.none:=Dflts.none hD hdf;obtain rfl:kV=.none:=Dflts.noKw hD;obtain⟨a,vs,ns,rfl,rfl,hobj,hints,NF⟩:=script_of hn hpre hwl;refine enter_call (codeAny_mono (call w s₀ s₁ mg mb fa o pm cd doc a vs ns G Y ho (fd_plain hd) hcd hmg hobj hints NF hg) fun r s' hq=>?_);obtain⟨rfl,h2,h3,h4⟩:=hq;exact⟨.inl ⟨.bool true,.bool true,[],rfl,fun _=>rfl,.bool true,post_true l _,fun _=>⟨List.Pairwise.nil,fun _ hm=>(nomatch hm)⟩⟩,h2,h3,h4⟩
section
variable{prog:Program}{w:World}{A:Around}{E:Value->Shared->Prop}{s:Shared}{K:Frag}
end
end Att
namespace L2
open PySem PySem.Spec PyProof.Rows
theorem ot:∀{vs:List Value} {ns:∅},IntsAre vs ns->Vals (ns.map V.int) vs
 | _,_,.nil=>.nil
 | _,_,.cons n t h=>.cons ⟨t,rfl⟩ (ot h)
def Only(H:Hp):Prop:=∀ b,H b=none\/∃ o xs,H b=some (.frz o (.lst xs))
theorem G0 {P:Program} {w:World} {K:Frag} {mg mb:Str->Option Value} {CX:CXT} {k:Nat} {fa a:Addr} {fd:FuncData} {x:Str} {sp:Sp} {s₁:Shared} {vs:List Value} {ns:∅}
  (KX:K.In s₁.heap) (hns:s₁.heap.Ns mainGlobals mg) (hb:s₁.heap.Ns builtinsNs mb) (hbb:∀ x:Str,x≠"__name__"->mb x=bootBuiltins x) (hlim:s₁.heap.NoLimit) (hg:s₁.gens=#[])
  (ha:s₁.heap.get? a=some {cls:=.type "list",data:=.seq vs.toArray}) (hi:IntsAre vs ns) (hl:ns.length<=sizeLine) (hr:Room k callerA)
  (F:∀ base:Heap,K.In base->base.Ns mainGlobals mg->FnOk P w K mg base CX k fa fd [x] sp) (hbind:∀(s:Shared) (u:Value),BindsTo s fd ⟨[u],[]⟩ [(x,u)])
  (hsp:∀ H:Hp,Only H->SqL K H a (ns.map V.int)->sp [.ref a] H (fun v _=>v=.bl true) fun _ _ _=>False)
  (hCX:∀ H e s',CX [] H s₁ (fun _ _ _=>False) e s'->False):
  codeAny (model P w) callerA (.call (.ref fa) ⟨[.ref a],[]⟩) (fun r s'=>r=.ok (.ret (.bool true))/\OldK s₁.heap s'.heap/\s'.os=s₁.os/\AllBare s'.gens) s₁:=by
 have rv:=ot hi;have lenV:=hi.length
 have core:∀ H:Hp,Only H->SqL K H a (ns.map V.int)->HOk P w H s₁.heap->(∀ b,H b≠none->b=a)->(H a≠none->K.lookup a=none)->
   codeAny (model P w) callerA (.call (.ref fa) ⟨[.ref a],[]⟩) (fun r s'=>r=.ok (.ret (.bool true))/\OldK s₁.heap s'.heap/\s'.os=s₁.os/\AllBare s'.gens) s₁:=by
  intro H hO hS hok hA hK;have base_of:∀{b:Addr} {o:Obj},s₁.heap.get? b=some o->H b=none->(hidT s₁.heap H).get? b=some o:=fun e n=>GV e n
  have noA:∀{b:Addr} {o:Obj} {es:Array DictEntry} {ep:Nat},s₁.heap.get? b=some o->o.data=.dict es ep->H b=none:=fun{b o es ep} e d=>by
   cases q:H b with
   | none=>rfl
   | some u=>
    have e':b=a:=hA b (by rw[q];simp);subst e';rw[ha] at e;cases e;have d':Data.seq vs.toArray _=Data.dict es ep:=d;cases d'
  have nsK:∀{b:Addr} {m:Str->Option Value},s₁.heap.Ns b m->(hidT s₁.heap H).Ns b m:=fun{b m} ⟨o,es,ep,e,d,r⟩=>⟨o,es,ep,base_of e (noA e d),d,r⟩
  have hKb:K.In (hidT s₁.heap H):=fun b o e=>base_of (KX b o e) (by
   cases q:H b with
   | none=>rfl
   | some u=>
    have e':b=a:=hA b (by rw[q];simp);subst e';rw[hK (by rw[q];simp)] at e;cases e)
  have hM:Mod K mg (hidT s₁.heap H):=⟨hKb,nsK hns,⟨mb,nsK hb,hbb⟩,let ⟨mc,h1,h2⟩:=hlim;⟨mc,nsK h1,h2⟩⟩;have e0:Env0 P w K mg (hidT s₁.heap H) callerA [] s₁ H:=⟨rfl,hM,fun b o e=>HN e,Nat.le_of_eq (Ft _ _),trivial,fun b hb=>absurd (show b∈([]:List Addr) from hb) (by simp),hok,.of_eq hg⟩;refine QN ((F _ hKb (nsK hns)).run callerA [] s₁ H ⟨[.ref a],[]⟩ [.ref a] [.ref a] _ _ hr e0 (hbind s₁ (.ref a)) (.cons rfl .nil) (hsp H hO hS)) fun r s' h=>?_
  cases r with
  | error e=>exact(hCX H e s' h).elim
  | ok fl=>
   cases fl with
   | next=>exact False.elim h
   | brk=>exact False.elim h
   | cont=>exact False.elim h
   | ret u=>
    obtain⟨v,H',os,bare,un,hok',r',q⟩:=h;have q':v=.bl true:=q;subst q';obtain rfl:u=Value.bool true:=r';refine⟨rfl,OldK.of_keep fun b o e=>?_,os,bare⟩
    cases q:H b with
    | none=>exact un.keep b o e q (by intro z;exact absurd (show b∈([]:List Addr) from z) (by simp)) (by simp)
    | some u=>
     rcases hO b with z | ⟨ob,xs,z⟩
     . rw[q] at z;cases z
     . have z2:=un.frzs b ob _ z;obtain⟨e1,_⟩:=hok b _ z;obtain⟨e2,_⟩:=hok' b _ z2;rw[e] at e1;cases e1;exact e2
 cases hk:K.lookup a with
 | some o=>
  have e:=KX a o hk;rw[ha] at e;cases e;refine core (fun _=>none) (fun _=>.inl rfl) (.inr ⟨_,vs.toArray,_,hk,rfl,rfl,rfl,by rw[N1,lenV];exact hl,by simpa using rv⟩) (fun b u z=>by have z':(none:Option HO)=some u:=z;cases z') (fun b z=>absurd rfl z) fun z=>absurd rfl z
 | none=>
  refine core (fun b=>if b=a then some (.frz {cls:=.type "list",data:=.seq vs.toArray} (.lst (ns.map V.int))) else none) (fun b=>?_) (.inl (.inr ⟨{cls:=.type "list",data:=.seq vs.toArray},Oh rfl⟩)) (fun b u z=>?_) (fun b z=>?_) fun _=>hk
  . by_cases hb:b=a
    . exact .inr ⟨_,_,Oh hb⟩
    . exact .inl (Ob hb)
  . by_cases hb:b=a
    . have z':=(Oh hb).symm.trans z;cases z';subst hb;exact⟨ha,by rw[NI];exact hl,vs,_,rv,ha⟩
    . have z':=(Ob hb).symm.trans z;cases z'
  . by_cases hb:b=a
    . exact hb
    . exact absurd (Ob hb) z
def Ic {l:PySem.W.OpenLaw} {n k:Nat} {q:Program} {loose:List Str} {XP:(Str->Option Value)->Heap->Prop} {YP:World->Heap->Prop} {d:DefRec} {K:Params->Frag} {CX:World->CXT} {sp:World->Sp} {x:Str}
  (hn:l.most=some n) (hn2:n<=sizeLine) (hdf:d.params.defaults=[]) (hr:Room k callerA)
  (hY:∀(w:World) (h:Heap),YP w h->(K w.params).In h)
  (F:∀(w:World) (mg:Str->Option Value) (fa:Addr) (h:Heap),(K w.params).In h->h.Ns mainGlobals mg->mg d.name=↑fa->
   ∃ fd:FuncData,(∀(s:Shared) (u:Value),BindsTo s fd ⟨[u],[]⟩ [(x,u)])/\
    ∀ base:Heap,(K w.params).In base->base.Ns mainGlobals mg->FnOk l.prog w (K w.params) mg base (CX w) k fa fd [x] (sp w))
  (hsp:∀(w:World) (H:Hp) (a:Addr) (ns:∅),ns.length<=n->Only H->SqL (K w.params) H a (ns.map V.int)->sp w [.ref a] H (fun v _=>v=.bl true) fun _ _ _=>False)
  (hCX:∀(w:World) (H:Hp) (s:Shared) (e:Value) (s':Shared),CX w [] H s (fun _ _ _=>False) e s'->False):
  PySem.W.WalkO q loose XP YP l.row.toRowW d [] (fun f vs=>PySem.call f vs):=by
 refine Att.attach_call hn hdf fun w s₀ s₁ mg mb fa o pm cd doc a vs ns G Y ho hd hcd hmg hobj hints NF hg=>?_;have KX:=hY w _ Y;obtain⟨fd,hb,hF⟩:=F w mg fa _ KX G.T.g hmg;exact G0 KX G.T.g G.T.b G.T.builtins G.T.nolimit hg hobj hints (NS NF hn2) hr hF hb (fun H hO hS=>hsp w H a ns NF hO hS) fun H e s'=>hCX w H s₁ e s'
def ed(s:Stmt):Arguments:=match s with
 | .FunctionDef _ a _ _ _ _ _ _ _ _=>a
 | _=>{posonlyargs:=[],args:=[],vararg:=none,kwonlyargs:=[],kw_defaults:=[],kwarg:=none,defaults:=[]}
def cX(s:Stmt):List Stmt:=match s with
 | .FunctionDef _ _ b _ _ _ _ _ _ _=>b
 | _=>[]
def be(s:Stmt):Scope:=match s with
 | .FunctionDef _ _ _ _ _ _ sc _ _ _=>sc
 | _=>{kind:=.function,names:=[],isGenerator:=false,isCoroutine:=false}
abbrev CX0:CXT:=fun _ _ _ _ _ _=>False
abbrev E0:XK:=fun _ _ _=>False
def AY{X:Cx}:sC CX0 X E0:=fun _ _ _ _ _ _ _ h=>h.elim
structure Fun(K:Frag)(x qual:Str)(st:Stmt)(f:Addr)(fd:FuncData):Prop where
 ex:∃(oc:Value) (od:Option Addr) (kV doc pm:Value) (an:Option Addr) (NB ct:Value) (osl:Array (Option Value)),
  fd=fnOf x qual (ed st) (cX st) (be st) .none kV doc pm an NB ct/\K.lookup f=some ⟨oc,od,.func fd,osl⟩/\codeIn K NB qual=true
 kp:keepIn K (.ref f)=true
section
variable{P:Program}{w:World}{K:Frag}{mg:Str->Option Value}{base:Heap}
def Fun.ok {x qual:Str} {st:Stmt} {f:Addr} {fd:FuncData} {N ps:List Str} {k:Nat} {sp:Sp} (F:Fun K x qual st f fd) (S:mT N ps (be st)) (len:∀ vs H Q E,sp vs H Q E->vs.length=ps.length)
  (hbody:∀(NB:Value) (A:Around) (outer:List Env) (s:Shared) (H:Hp) (vs:List V) (Q:VK) (E:XK),Room k (A.deeper (envOfC qual (be st) s.heap.objs.size f NB))->sp vs H Q E->
   ∃ t,PSs (cxOf CX0 P w K mg base N qual (be st) f NB A outer s H E).nox (cX st) t/\t {nx:=fun _ H'=>Q .non H',rt:=Q} (start N vs) H):FnOk P w K mg base CX0 (k+1) f fd ps sp:=by
 obtain⟨oc,od,kV,doc,pm,an,NB,ct,osl,rfl,lk,hcd⟩:=F.ex;refine Ka lk hcd S len fun A outer s H vs Q E hr hsp=>?_;obtain⟨t,h,q⟩:=hbody NB A outer s H vs Q E hr hsp;exact⟨t,h.nox,q⟩
def Fun.binds {x qual:Str} {st:Stmt} {f:Addr} {fd:FuncData} {ps:List Str} (F:Fun K x qual st f fd)
  (h:∀(kV doc pm:Value) (an:Option Addr) (NB ct:Value) (us:List Value),us.length=ps.length->bindArgs (fnOf x qual (ed st) (cX st) (be st) .none kV doc pm an NB ct) ⟨us,[]⟩=pure (ps.zip us)):Binds K fd ps []:=by
 obtain⟨oc,od,kV,doc,pm,an,NB,ct,osl,rfl,lk,hcd⟩:=F.ex;exact .all (h kV doc pm an NB ct)
def FL {x qual:Str} {st:Stmt} {f:Addr} {oc:Value} {od an:Option Addr} {osl:Array (Option Value)} {kV doc pm NB ct:Value} (l:K.lookup f=some ⟨oc,od,.func (fnOf x qual (ed st) (cX st) (be st) .none kV doc pm an NB ct),osl⟩)
  (c:codeIn K NB qual=true) (k:keepIn K (.ref f)=true):Fun K x qual st f (fnOf x qual (ed st) (cX st) (be st) .none kV doc pm an NB ct):=⟨⟨oc,od,kV,doc,pm,an,NB,ct,osl,rfl,l,c⟩,k⟩
end
def aJ{n:Nat}(h:n<=1000):n<sizeLine:=OA h #[1]
section
variable{X:Cx}
def pv (i:Nat) {x:Str} {pos:Pos} (hN:X.N[i]? =some x:=by rfl) (hv:Vis X.env.scope x:=by first | exact Or.inl rfl | exact Or.inr (Or.inl rfl) | exact Or.inr (Or.inr rfl)) (hd:(x==("__debug__":Str))=false:=by decide)
  (hcd:(x==("__classdict__":Str))=false:=by decide):PE X (.Name x pos) (tVar i):=IZ hN hv hd hcd
end
def iteF{A B:Prop}(h:B):if false=true then A else B:=by
 rw[Ob NW];exact h
def iteT{A B:Prop}(h:A):if true=true then A else B:=by
 rw[Oh rfl];exact h
def Same(H H':Hp):Prop:=∀ b o,H b=some o->H' b=some o
def Same.refl(H:Hp):Same H H:=fun _ _ h=>h
abbrev NK:=@Same.refl
def Same.trans{H H1 H2:Hp}(a:Same H H1)(b:Same H1 H2):Same H H2:=fun c o h=>b c o (a c o h)
theorem Same.free{H H':Hp}(e:Same H H'){l:Addr}(h:H' l=Option.none):H l=Option.none:=by
 cases q:H l with
 | none=>rfl
 | some o=>
  rw[e l o q] at h;cases h
def Same.seq{K:Frag}{H H':Hp}{a:Addr}{xs:List V}(e:Same H H')(h:SqL K H a xs):SqL K H' a xs:=by
 rcases h with (h | ⟨o,h⟩) | h
 . exact .inl (.inl (e _ _ h))
 . exact .inl (.inr ⟨o,e _ _ h⟩)
 . exact .inr h
section
variable{κ:Type}[DecidableEq κ]
def valV(NC:List (κ × V))(k:κ):Option V:=(NC.find? fun kv=>decide (kv.1=k)).map (·.2)
def putK(NC:List (κ × V))(k:κ)(v:V):List (κ × V):=
 if (NC.any fun kv=>decide (kv.1=k))=true then NC.map (fun kv=>if kv.1=k then(kv.1,v) else kv) else NC++[(k,v)]
def eI{p:κ × V}{r:List (κ × V)}{k:κ}(e:p.1=k):valV (p::r) k=some p.2:=by simp[valV,Pz,e]
def eJ{p:κ × V}{r:List (κ × V)}{k:κ}(e:¬ p.1=k):valV (p::r) k=valV r k:=by simp[valV,Pz,e]
theorem qH(k:κ):∀ NC:List (κ × V),(NC.any fun kv=>decide (kv.1=k))=(valV NC k).isSome
 | []=>rfl
 | p::r=>by
  rw[P5];by_cases e:p.1=k
  . simp only[eI e,NP e,Qn,Option.isSome_some]
  . rw[eJ e,NL e,Ph];exact qH k r
theorem Bf(k j:κ)(y:V):∀ NC:List (κ × V),valV (NC.map fun kv=>if kv.1=k then(kv.1,y) else kv) j=(valV NC j).map fun x=>if j=k then y else x
 | []=>rfl
 | p::r=>by
  have ih:=Bf k j y r;rw[Os];by_cases h:p.1=k
  . rw[Oh h];by_cases e:p.1=j
    . rw[eI (p:=(p.1,y)) e,eI e,P3,Oh (e.symm.trans h)]
    . rw[eJ (p:=(p.1,y)) e,eJ e,ih]
  . rw[Ob h];by_cases e:p.1=j
    . rw[eI (p:=p) e,eI e,P3,Ob (fun z=>h (e.trans z))]
    . rw[eJ (p:=p) e,eJ e,ih]
theorem zN(k j:κ)(y:V):∀ NC:List (κ × V),valV NC k=none->valV (NC++[(k,y)]) j=if j=k then some y else valV NC j
 | [],_=>by
  by_cases e:k=j
  . rw[Oh e.symm];exact eI (p:=(k,y)) e
  . rw[Ob (fun z=>e z.symm)];exact eJ (p:=(k,y)) e
 | p::r,hn=>by
  rw[Ro];have hk:¬ p.1=k:=fun z=>by rw[eI z] at hn;cases hn
  rw[eJ hk] at hn;have ih:=zN k j y r hn;by_cases e:p.1=j
  . rw[eI e,eI e,Ob (fun z=>hk (e.trans z))]
  . rw[eJ e,eJ e,ih]
def G1(NC:List (κ × V))(k j:κ)(y:V):valV (putK NC k y) j=if j=k then some y else valV NC j:=by
 unfold putK;by_cases a:(NC.any fun kv=>decide (kv.1=k))=true
 . rw[Oh a,Bf];rw[qH] at a;by_cases e:j=k
   . obtain⟨x,hx⟩:=Rc.mp a;rw[Oh e,e,hx,P3,Oh rfl]
   . rw[Ob e]
     cases valV NC j with
     | none=>rfl
     | some x=>rw[P3,Ob e]
 . rw[Ob a];refine zN k j y NC ?_;rw[qH] at a
   cases q:valV NC k with
   | none=>rfl
   | some x=>rw[q] at a;exact(a rfl).elim
def vh(NC:List (κ × V))(k:κ)(v:V):(putK NC k v).length<=NC.length+1:=by
 unfold putK
 split
 . rw[NI];omega
 . rw[N0,Oq,RE];omega
theorem RelO.isSome_eq{o:Option V}{u:Option Value}(r:RelO o u):o.isSome=u.isSome:=by
 cases o with
 | none=>cases u with
  | none=>rfl
  | some _=>exact(show False from r).elim
 | some _=>cases u with
  | none=>exact(show False from r).elim
  | some _=>rfl
theorem KV.val{NC:List (κ × V)}{vs:List (κ × Value)}(r:KV NC vs)(k:κ):RelO (valV NC k) (valueAt vs k):=by
 unfold KV at r
 induction r with
 | nil=>exact True.intro
 | @cons p q ps qs h t ih=>
  obtain⟨h1,h2⟩:=h;by_cases e:p.1=k
  . have e':q.1=k:=h1.symm.trans e;have b:valueAt (q::qs) k=some q.2:=by simp[valueAt,Pz,e']
    rw[eI e,b];exact h2
  . have e':¬ q.1=k:=fun z=>e (h1.trans z);have b:valueAt (q::qs) k=valueAt qs k:=by simp[valueAt,Pz,e']
    rw[eJ e,b];exact ih
theorem KV.any{NC:List (κ × V)}{vs:List (κ × Value)}(r:KV NC vs)(k:κ):(NC.any fun kv=>decide (kv.1=k))=vs.any fun kv=>decide (kv.1=k):=by
 unfold KV at r
 induction r with
 | nil=>rfl
 | cons h t ih=>rw[P5,P5,ih,h.1]
theorem KV.repl{NC:List (κ × V)}{vs:List (κ × Value)}(r:KV NC vs)(k:κ){y:V}{u:Value}(ry:RelV y u):
  KV (NC.map fun kv=>if kv.1=k then(kv.1,y) else kv) (vs.map fun kv=>if kv.1=k then(kv.1,u) else kv):=by
 unfold KV at r ⊢
 induction r with
 | nil=>exact .nil
 | @cons p q ps qs h t ih=>
  rw[Os,Os];refine .cons ?_ ih;obtain⟨h1,h2⟩:=h;by_cases e:p.1=k
  . rw[Oh e,Oh (h1.symm.trans e)];exact⟨h1,ry⟩
  . rw[Ob e,Ob (fun z=>e (h1.trans z))];exact⟨h1,h2⟩
def KV.put{NC:List (κ × V)}{vs:List (κ × Value)}(r:KV NC vs)(k:κ){y:V}{u:Value}(ry:RelV y u):KV (putK NC k y) (stored vs k u):=by
 unfold putK stored;rw[r.any k];by_cases e:(vs.any fun kv=>decide (kv.1=k))=true
 . rw[Oh e,Oh e];exact r.repl k ry
 . rw[Ob e,Ob e];exact Paired.snoc r ⟨rfl,ry⟩
def KV.length{NC:List (κ × V)}{vs:List (κ × Value)}(r:KV NC vs):NC.length=vs.length:=RP r
end
variable{P:Program}
theorem wU{w:World}{k:Key}{u:Value}(r:RelV (kV k) u):(d9 P w).is k u=true:=by
 cases k with
 | inl i=>obtain⟨t,e⟩:=(show ∃ t,u=Value.int i t from r);subst e;exact C0 P w i t
 | inr x=>obtain⟨t,e⟩:=(show ∃ t,u=Value.str x t from r);subst e;exact C2 P w x t
theorem zO{P:Program}{w:World}:∀{ks:List Key} {us:List Value},Vals (ks.map kV) us->ItemsAre (d9 P w) ks us
 | [],_,r=>by rw[RY] at r;cases r;exact .nil
 | k::ks,_,r=>by
  rw[Os] at r
  cases r with
  | cons h t=>exact .cons (wU h) (zO t)
abbrev KT(H:Hp):List (List Key × V)->List (List Key × Addr × Value)->Prop:=Paired fun p q=>p.1=q.1/\H q.2.1=some (.tup (p.1.map kV))/\RelV p.2 q.2.2
variable{H:Hp}{NC:List (List Key × V)}{xs:List (List Key × Addr × Value)}
theorem KT.val(r:KT H NC xs)(k:List Key):RelO (valV NC k) ((atKey xs k).map (·.2)):=by
 induction r with
 | nil=>exact True.intro
 | @cons p q ps qs h t ih=>
  obtain⟨h1,_,h2⟩:=h;by_cases e:p.1=k
  . have e':q.1=k:=h1.symm.trans e;have b:atKey (q::qs) k=some q.2:=by simp[atKey,Pz,e']
    rw[eI e,b];exact h2
  . have e':¬ q.1=k:=fun z=>e (h1.trans z);have b:atKey (q::qs) k=atKey qs k:=by simp[atKey,Pz,e']
    rw[eJ e,b];exact ih
theorem KT.repl(r:KT H NC xs)(k:List Key){y:V}{u:Value}(ry:RelV y u):
  KT H (NC.map fun kv=>if kv.1=k then(kv.1,y) else kv) (xs.map (putAt k u)):=by
 induction r with
 | nil=>exact .nil
 | @cons p q ps qs h t ih=>
  rw[Os,Os];refine .cons ?_ ih;obtain⟨h1,h2,h3⟩:=h;unfold putAt;by_cases e:p.1=k
  . rw[Oh e,Oh (h1.symm.trans e)];exact⟨h1,h2,ry⟩
  . rw[Ob e,Ob (fun z=>e (h1.trans z))];exact⟨h1,h2,h3⟩
def KT.put(r:KT H NC xs)(k:List Key){b:Addr}{y:V}{u:Value}(hb:H b=some (.tup (k.map kV)))(ry:RelV y u):
  KT H (putK NC k y) (storedH xs k b u):=by
 have e:(NC.any fun kv=>decide (kv.1=k))=(atKey xs k).isSome:=by
  rw[qH,(r.val k).isSome_eq,Q5]
 unfold putK storedH;rw[e];by_cases q:(atKey xs k).isSome=true
 . rw[Oh q,Oh q];exact r.repl k ry
 . rw[Ob q,Ob q];exact Paired.snoc r ⟨rfl,hb,ry⟩
def KT.keeps{H':Hp}(r:KT H NC xs)(ht:∀ b ys,H b=some (.tup ys)->H' b=some (.tup ys)):KT H' NC xs:=
 Paired.mapP r fun _ _ z=>⟨z.1,ht _ _ z.2.1,z.2.2⟩
section
variable{P:Program}{w:World}{H:Hp}{h:Heap}{a:Addr}
def HF{u:HO}(ok:HOk P w H h)(e:Rd H a u):ObjOk P w H h a u:=e.ok ok
def uD{NC:List (Key × V)}(ok:HOk P w H h)(e:Rd H a (.dK NC)):NC.length<=sizeLine/\(a==sysModules)=false/\∃ vs,KV NC vs/\h.DictOf (d9 P w) a vs:=
 show ObjOk P w H h a (.dK NC) from HF ok e
def Kb{NC:List (Key × V)}(ok:HOk P w H h)(e:H a=some (.dK NC)):NC.length<=sizeLine/\(a==sysModules)=false/\∃ vs,KV NC vs/\h.DictOf (d9 P w) a vs:=uD ok (.inl e)
def sF{ks:List Key}(ok:HOk P w H h)(e:H a=some (.tup (ks.map kV))):(tupleKind (d9 P w)).is h ks a:=by
 obtain⟨_,ND,r,o,h1,h2,n,h3⟩:=(show ObjOk P w H h a (.tup (ks.map kV)) from ok a _ e);exact⟨o,ND.toArray,n,h1,h2,h3,by simpa using zO r⟩
def wV{NC:List (List Key × V)}(ok:HOk P w H h)(e:Rd H a (.dT NC)):NC.length<=sizeLine/\(a==sysModules)=false/\
  ∃ xs,KT H NC xs/\h.DictOfH (tupleKind (d9 P w)) a xs:=by
 obtain⟨z,y,xs,r,o,es,ep,h1,h2,h3,h4,h5⟩:=(show ObjOk P w H h a (.dT NC) from HF ok e);refine⟨z,y,xs,r,o,es,ep,h1,h2,h3,h4,fun x hx=>?_,h5⟩
 have all:∀{l:List (List Key × V)} {m:List (List Key × Addr × Value)},KT H l m->∀ x∈m,(tupleKind (d9 P w)).is h x.1 x.2.1:=by
  intro l m q
  induction q with
  | nil=>intro x hx;exact nomatch hx
  | @cons p q ps qs hq t ih=>
   intro x hx;rcases N4.mp hx with e | hx
   . subst e;exact sF ok (by rw[← hq.1];exact hq.2.1)
   . exact ih x hx
 exact all r x hx
def Kc{NC:List (List Key × V)}(ok:HOk P w H h)(e:H a=some (.dT NC)):NC.length<=sizeLine/\(a==sysModules)=false/\
  ∃ xs,KT H NC xs/\h.DictOfH (tupleKind (d9 P w)) a xs:=wV ok (.inl e)
end
def DGet(H:Hp)(a:Addr)(y:V)(r:Option V):Prop:=
 (∃ NC k,Rd H a (.dK NC)/\y=kV k/\r=valV NC k)\/∃ NC k b,Rd H a (.dT NC)/\y=.ref b/\H b=some (.tup (k.map kV))/\r=valV NC k
def DPut(H:Hp)(a:Addr)(y v:V)(H':Hp):Prop:=
 (∃ NC k,H a=some (.dK NC)/\y=kV k/\NC.length<sizeLine/\H'=upd H a (.dK (putK NC k v)))\/
 ∃ NC k b,H a=some (.dT NC)/\y=.ref b/\H b=some (.tup (k.map kV))/\NC.length<sizeLine/\H'=upd H a (.dT (putK NC k v))
variable{a:Addr}
theorem DGet.k{NC:List (Key × V)}{k:Key}(e:H a=some (.dK NC)):DGet H a (kV k) (valV NC k):=.inl ⟨NC,k,.inl e,rfl,rfl⟩
theorem DPut.k{NC:List (Key × V)}{k:Key}{v:V}(e:H a=some (.dK NC))(hl:NC.length<sizeLine):DPut H a (kV k) v (upd H a (.dK (putK NC k v))):=.inl ⟨NC,k,e,rfl,hl,rfl⟩
section
variable{X:Cx}{Nz:List (Addr × Obj)}{σ:St}{H:Hp}{s:Shared}{a:Addr}{y v:V}{u r:Value}{o:Option V}{A:Around}{E:Value->Shared->Prop}
def Inv.big(I:Inv X Nz σ H s):sysModules<s.heap.objs.size:=by
 have h:mainGlobals<s.heap.objs.size:=(I.mod.glob.keeps I.bk).lt;exact Pq #[1] h
def FM{Q:Value->Shared->Prop}(hu:A.units+1<cLine)(I:Inv X Nz σ H s)(g:DGet H a y (some v))(ry:RelV y u)(h:∀ w' s',Inv X Nz σ H s'->RelV v w'->Q w' s'):
  wpAny (model X.prog X.w) A (getItem (.ref a) u) Q E s:=by
 rcases g with ⟨NC,k,e,ey,l⟩ | ⟨NC,k,b,e,ey,eb,l⟩
 . subst ey;obtain⟨z,hd,vs,rel,dd⟩:=uD I.hok e;obtain⟨w',hw,rw'⟩:=RX (v:=v) (o:=valueAt vs k) (by rw[l];exact rel.val k);exact wpAny_getItem_of (wU ry) dd.mapOf hw (h w' _ (I.tok _) rw')
 . subst ey;cases (show u=Value.ref b from ry);obtain⟨z,hd,xs,rel,dd⟩:=wV I.hok e;obtain⟨w',hw,rw'⟩:=RX (v:=v) (o:=(atKey xs k).map (·.2)) (by rw[l];exact rel.val k);obtain⟨p,hp,hp2⟩:=Qo.mp hw;refine wpAny_getItem_heap (Qi hu) (sF I.hok eb) dd hp ?_;rw[hp2];exact h w' _ (I.tok _) rw'
def Kr{Q:Value->Shared->Prop}(hu:A.units+1<cLine)(I:Inv X Nz σ H s)(g:DGet H a y o)(ry:RelV y u)(h:∀ s',Inv X Nz σ H s'->Q (.bool o.isSome) s'):
  wpAny (model X.prog X.w) A (compareOp .In u (.ref a)) Q E s:=by
 rcases g with ⟨NC,k,e,ey,l⟩ | ⟨NC,k,b,e,ey,eb,l⟩
 . subst ey;obtain⟨z,hd,vs,rel,dd⟩:=uD I.hok e;refine wpAny_in_of (wU ry) hd dd.mapOf ?_;rw[← (rel.val k).isSome_eq,← l];exact h _ (I.tok _)
 . subst ey;cases (show u=Value.ref b from ry);obtain⟨z,hd,xs,rel,dd⟩:=wV I.hok e;refine wpAny_in_heap (Qi hu) (sF I.hok eb) hd dd ?_;have q:=(rel.val k).isSome_eq;rw[Q5] at q;rw[← q,← l];exact h _ (I.tok _)
def Id{Q:Value->Shared->Prop}(hu:A.units+1<cLine)(I:Inv X Nz σ H s)(g:DGet H a y o)(ry:RelV y u)(h:∀ s',Inv X Nz σ H s'->Q (.bool (!o.isSome)) s'):
  wpAny (model X.prog X.w) A (compareOp .NotIn u (.ref a)) Q E s:=by
 rcases g with ⟨NC,k,e,ey,l⟩ | ⟨NC,k,b,e,ey,eb,l⟩
 . subst ey;obtain⟨z,hd,vs,rel,dd⟩:=uD I.hok e;refine wpAny_notIn_of (wU ry) hd dd.mapOf ?_;rw[← (rel.val k).isSome_eq,← l];exact h _ (I.tok _)
 . subst ey;cases (show u=Value.ref b from ry);obtain⟨z,hd,xs,rel,dd⟩:=wV I.hok e;refine wpAny_notIn_heap (Qi hu) (sF I.hok eb) hd dd ?_;have q:=(rel.val k).isSome_eq;rw[Q5] at q;rw[← q,← l];exact h _ (I.tok _)
def DG{h':Heap}{t':Nat}{ob:HO}(I:Inv X Nz σ H s)(mu:Mut (H a))(hs:Heap.SameBut a s.heap h')(he:∃ q,h'.get? a=some q)(new:ObjOk X.prog X.w (upd H a ob) h' a ob):
  Inv X Nz σ (upd H a ob) {s with heap:=h',toks:=t'}:=
 I.write (x:=a) (e:=a) mu (.inl rfl) (fun b q hb z=>(hs.2 b hb).trans z) he new
def Jm{P:Program}{w:World}{H':Hp}{h':Heap}{NC:List (Key × V)}{vs:List (Key × Value)}(z:NC.length<=sizeLine)(hd:(a==sysModules)=false)(rel:KV NC vs)(dd:h'.DictOf (d9 P w) a vs):
  ObjOk P w H' h' a (.dK NC):=⟨z,hd,vs,rel,dd⟩
def FN{H':Hp}{Q:Unit->Shared->Prop}(hu:A.units+1<cLine)(I:Inv X Nz σ H s)(g:DPut H a y v H')(ry:RelV y u)(rv:RelV v r)(h:∀ s',Inv X Nz σ H' s'->Q () s'):
  wpAny (model X.prog X.w) A (setItem (.ref a) u r) Q E s:=by
 rcases g with ⟨NC,k,e,ey,l,eH⟩ | ⟨NC,k,b,e,ey,eb,l,eH⟩
 . subst ey eH;obtain⟨z,hd,vs,rel,dd⟩:=Kb I.hok e;have hz:vs.length<=sizeLine:=by rw[← rel.length];exact z
   have hl:(putK NC k v).length<=sizeLine:=by have:=vh NC k v;omega
   refine wpAny_setItem_pairs (hsz:=hz) (wU ry) dd fun h' dd' hs=>h _ ?_;have he:∃ q,h'.get? a=some q:=let ⟨q,_,_,hq,_⟩:=dd';⟨q,hq⟩;exact DG I (by rw[e];exact True.intro) hs he (Jm hl hd (rel.put k rv) dd')
 . subst ey eH;cases (show u=Value.ref b from ry);obtain⟨z,hd,xs,rel,dd⟩:=Kc I.hok e;have hz:xs.length<=sizeLine:=by rw[← RP rel];exact z
   have hl:(putK NC k v).length<=sizeLine:=by have:=vh NC k v;omega
   refine wpAny_setItem_heap (hsz:=hz) (Qi hu) (sF I.hok eb) dd fun h' dd' hs=>h _ ?_;obtain⟨q,es,ep,hq,h2,h3,h4,_,h5⟩:=dd';refine DG I (by rw[e];exact True.intro) hs ⟨q,hq⟩ ⟨hl,hd,_,(rel.put k eb rv).keeps fun c ys ec=>?_,q,es,ep,hq,h2,h3,h4,h5⟩;rw[ar (J4 ec e (fun z=>nomatch z))];exact ec
end
section
variable{X:Cx}{Nz:List (Addr × Obj)}{σ:St}{H:Hp}{s:Shared}{a:Addr}{NC:List (Key × V)}{k:Key}{u:Value}{A:Around}{E:Value->Shared->Prop}
def Ke{Q:Value->Shared->Prop}(I:Inv X Nz σ H s)(e:Rd H a (.dK NC))(h:∀ t s',Inv X Nz σ H s'->Q (.int NC.length t) s'):wpAny (model X.prog X.w) A (call (.builtin "len") [.ref a]) Q E s:=by
 obtain⟨z,hd,vs,rel,dd⟩:=uD I.hok e;refine call_len_dict hd dd (by rw[← rel.length];rw[RN] at z;omega) ?_;rw[← rel.length];exact h _ _ (I.tok _)
end
def C6{X:Cx}{Nz:List (Addr × Obj)}{σ:St}{s:Shared}{y:V}{o:Option V}(I:Inv X Nz σ H s)(g:DGet H a y o):s.TypeIs (.ref a) "dict":=by
 rcases g with ⟨NC,k,e,_,_⟩ | ⟨NC,k,b,e,_,_,_⟩
 . obtain⟨_,_,vs,_,dd⟩:=uD I.hok e;exact dd.typeIs
 . obtain⟨_,_,xs,_,dd⟩:=wV I.hok e;exact dd.typeIs
def sDPut(td ty tv:TE):TS:=fun D σ H=>tv σ H fun v H1=>td σ H1 fun x H2=>ty σ H2 fun y H3=>∃ a H4,x=.ref a/\DPut H3 a y v H4/\D.nx σ H4
def G2{w:World}(h:Heap)(hb:sysModules<h.objs.size):ObjOk P w H (h.push {cls:=.type "dict",data:=.dict #[]}) h.objs.size (.dK []):=
 ⟨Ox _,Po.mpr (Qz (Op hb)),[],.nil,Heap.DictOf.new h⟩
def pV:TE:=fun _ H Q=>∀ p,H p=none->Q (.ref p) (upd H p (.dK []))
section
variable{X:Cx}{pos:Pos}
def vT:PE X (.Dict [] [] pos) pV:=fun Nz s σ H Q I h=>
 wpAny_Dict_empty ⟨.ref s.heap.objs.size,_,I.laid (a:=s.heap.objs.size) (o:=.dK []) (t':=s.toks) (fun _ _ q=>NQ _ q) (NU _) (G2 s.heap I.big),rfl,h _ (I.hok.fresh (NU _))⟩
end
section
variable{X:Cx}
def FO:CallR X (.builtin "len") (fun xs H Q=>∃ a NC,xs=[V.ref a]/\H a=some (.dK NC)/\Q (.int NC.length) H):=by
 intro Nz s σ H xs us Q I r h;obtain⟨a,NC,rfl,ha,q⟩:=h;obtain⟨u,rfl,ru⟩:=fj r;cases ru;exact Ke I (.inl ha) fun t s' I'=>⟨.int NC.length,H,I',⟨t,rfl⟩,q⟩
end
theorem eh{α:Type}(x:Str):∀(a b:List (Str × α)),(a++b).lookup x=match a.lookup x with | some c=>some c | none=>b.lookup x
 | [],b=>rfl
 | (k,v)::r,b=>by
  rw[Ro,OQ,OQ]
  cases x==k with
  | true=>rfl
  | false=>exact eh x r b
theorem l0:∀(names:List (Str × NameKind)) (n:Nat) (acc cl:List (Str × Addr)),cellsFrom n names (acc++cl)=cellsFrom n names acc++cl
 | [],_,_,_=>rfl
 | (y,k)::r,n,acc,cl=>by
  unfold cellsFrom
  split
  . rw[← Ro];exact l0 r _ _ cl
  . exact l0 r _ _ cl
theorem jh{x:Str}{c:Addr}:∀(names:List (Str × NameKind)) (n:Nat) (acc:List (Str × Addr)),(x,c)∈cellsFrom n names acc->(x,NameKind.cell)∈names\/(x,c)∈acc
 | [],_,_,h=>.inr h
 | (y,k)::r,n,acc,h=>by
  unfold cellsFrom at h
  split at h
  . rename_i hk
    have hk:k=.cell:=by simpa using hk
    subst hk;rcases jh r _ _ h with z | z
    . exact .inl (N3 _ z)
    . rcases N4.mp z with z | z
      . cases z;exact .inl Oc
      . exact .inr z
  . rcases jh r _ _ h with z | z
    . exact .inl (N3 _ z)
    . exact .inr z
theorem qI {env:Env} (f:Str × NameKind->List (Str × Addr)->Sem (ForInStep (List (Str × Addr))))
  (hf:∀ name kind cs,f (name,kind) cs=if kind==.free then(do let a ← cellOf env name;pure (.yield ((name,a)::cs))) else pure (.yield cs)):
  ∀(names:List (Str × NameKind)) (acc:List (Str × Addr)),(∀ x,(x,NameKind.free)∈names->∃ c,env.cells.lookup x=some c)->(∀ x c,acc.lookup x=some c->env.cells.lookup x=some c)->
   ∃ cl,forIn names acc f=(pure cl:Sem _)/\(∀ x c,cl.lookup x=some c->env.cells.lookup x=some c)/\(∀ x,((x,NameKind.free)∈names\/∃ c,acc.lookup x=some c)->∃ c,cl.lookup x=some c)
 | [],acc,_,h2=>⟨acc,rfl,h2,fun x h=>h.elim (fun z=>nomatch z) id⟩
 | (y,k)::r,acc,h1,h2=>by
  rw[List.forIn_cons,hf];by_cases hk:(k==NameKind.free)=true
  . rw[Oh hk];have hk':k=.free:=by simpa using hk
    subst hk';obtain⟨c,hc⟩:=h1 y Oc;have e:(cellOf env y:Sem Addr)=pure c:=by unfold cellOf;rw[hc]
    rw[e]
    obtain⟨cl,e1,e2,e3⟩:=qI f hf r ((y,c)::acc) (fun x hx=>h1 x (N3 _ hx)) (fun x c' hx=>by
     rw[OQ] at hx
     cases hb:x==y with
     | true=>rw[hb] at hx;cases hx;rw[Pe.mp hb];exact hc
     | false=>rw[hb] at hx;exact h2 x c' hx)
    refine⟨cl,?_,e2,fun x hx=>e3 x ?_⟩
    . exact e1
    . rcases hx with hx | ⟨c',hx⟩
      . rcases N4.mp hx with z | z
        . cases z;exact .inr ⟨c,by rw[OQ];simp⟩
        . exact .inl z
      . cases hb:x==y with
        | true=>exact .inr ⟨c,by rw[OQ,hb]⟩
        | false=>exact .inr ⟨c',by rw[OQ,hb];exact hx⟩
  . rw[Ob hk];obtain⟨cl,e1,e2,e3⟩:=qI f hf r acc (fun x hx=>h1 x (N3 _ hx)) h2;refine⟨cl,e1,e2,fun x hx=>e3 x ?_⟩;rcases hx with hx | hx
    . rcases N4.mp hx with z | z
      . cases z;exact absurd rfl hk
      . exact .inl z
    . exact .inr hx
variable{scope:Scope}
def Ew{env:Env}(h:∀ x,(x,NameKind.free)∈scope.names->∃ c,env.cells.lookup x=some c):
  ∃ cl,closureFor scope env=pure cl/\(∀ x c,cl.lookup x=some c->env.cells.lookup x=some c)/\∀ x,(x,NameKind.free)∈scope.names->∃ c,cl.lookup x=some c:=by
 obtain⟨cl,e1,e2,e3⟩:=qI (env:=env) (fun x cs=>match x with | (name,kind)=>if kind==.free then(do let a ← cellOf env name;pure (.yield ((name,a)::cs))) else pure (.yield cs)) (fun _ _ _=>rfl) scope.names [] h (fun x c hx=>nomatch hx);refine⟨cl,?_,e2,fun x hx=>e3 x (.inl hx)⟩
 have:closureFor scope env=(forIn scope.names [] (fun x cs=>match x with | (name,kind)=>if kind==.free then(do let a ← cellOf env name;pure (.yield ((name,a)::cs))) else pure (.yield cs)) >>= fun cs=>pure cs):=by
  simp only[closureFor]
 rw[this,e1];rfl
def FP(scope:Scope)(cl:List (Str × Addr))(C:Addr)(env:Env):Env:=
 {newEnv scope C env.globals (cellsFrom (C+1) scope.names cl) env.qual none .none (some env) builtinsNs with scope:=relabel scope env}
def G3 {M:Model} {A:Around} {E:Value->Shared->Prop} {s:Shared} {cl:List (Str × Addr)} {env:Env} {Q:Env->Shared->Prop}
  (hQ:Q (newEnv scope s.heap.objs.size env.globals (cellsFrom (s.heap.objs.size+1) scope.names cl) env.qual none .none (some env) builtinsNs) {s with heap:=pushCells (s.heap.push {cls:=.type "dict",data:=.dict #[]}) scope.names}):
  wpAny M A (newFunctionEnv scope env.globals cl [] env.qual none .none (some env)) Q E s:=by
 simp only[newFunctionEnv,Option.isSome_some,RZ];refine NM (wpAny_alloc ?_);refine NM (wpAny_layCells _ (fun name kind cells=>by cases hkc:kind==NameKind.cell <;> simp[hkc]) _ _ _ _ ?_);rw[show({s with heap:=s.heap.push {cls:=.type "dict",data:=.dict #[]}}:Shared).heap.objs.size=s.heap.objs.size+1 from OR ..];refine NM ?_;rw[List.forIn_nil];exact NT (NT hQ)
section
variable{prog:Program}{w:World}{A:Around}{E:Value->Shared->Prop}{R:Result->Shared->Prop}{s:Shared}
theorem FQ {elt target iter:Expr} {ifs:List Expr} {scope:Scope} {pos:Pos} {it acc:Value} {env:Env} (I:Nat->Shared->Prop)
  (turn:∀ n s,I n s->wpAny (model prog w) A (pyNext it) (fun r s₁=>match r with
   | none=>R (.ok .next) s₁
   | some v=>wpAny (model prog w) A (letOwnedTupleGo target it v) (fun _ s₁'=>wpAny (model prog w) A (assign target env v) (fun _ s₂=>
     wpAny (model prog w) A (forIn ifs true fun c r=>if r=true then do let ok ← isTrue c env (eval c env);pure (ForInStep.yield ok) else pure (ForInStep.yield r)) (fun ok s₃=>
      if ok=true then wpAny (model prog w) A (eval elt env) (fun x s₄=>
       wpAny (model prog w) A (call (.builtin "list.append") [acc,x]) (fun _ s₅=>∃ m,m<n/\I m s₅) (notedBy (model prog w) A env fun e s'=>R (.error e) s') s₄) (notedBy (model prog w) A env fun e s'=>R (.error e) s') s₃
      else ∃ m,m<n/\I m s₃) (notedBy (model prog w) A env fun e s'=>R (.error e) s') s₂) (notedBy (model prog w) A env fun e s'=>R (.error e) s') s₁') (notedBy (model prog w) A env fun e s'=>R (.error e) s') s₁) (notedBy (model prog w) A env fun e s'=>R (.error e) s') s)
  (n:Nat) (h:I n s):
  codeAny (model prog w) A (.compLoop (.ListComp elt [⟨target,iter,ifs,0⟩] scope pos) 0 it acc env) R s:=by
 refine codeAny_loop rfl I (fun n s hI=>?_) n h;show wpAny _ A ((compTurn (.ListComp elt [⟨target,iter,ifs,0⟩] scope pos) 0 it acc env).onRaise (fun x=>do noteFrame x env;theTreesLotGoes x)) _ _ s;refine wpAny_noted ?_;rw[compTurn_list];refine NM (RQ (NM (OY (turn n s hI) (fun r s₁ h₁=>?_) fun _ _ h'=>h')))
 cases r with
 | none=>exact NT h₁
 | some v=>
  refine NM (OY h₁ (fun _ s₁' h₁'=>?_) fun _ _ h'=>h');refine NM (OY h₁' (fun _ s₂ h₂=>NM (OY h₂ (fun ok s₃ h₃=>?_) fun _ _ h'=>h')) fun _ _ h'=>h')
  cases ok with
  | false=>exact NT ⟨rfl,h₃⟩
  | true=>
   exact NM (NM (OY h₃ (fun x s₄ h₄=>NM (OY h₄ (fun _ s₅ h₅=>NT (NT ⟨rfl,h₅⟩)) fun _ _ h'=>h')) fun _ _ h'=>h'))
end
variable{scope:Scope}
theorem m6{env:Env}{x:Str}{k:NameKind}(h:(relabel scope env).names.lookup x=some k):∃ k',scope.names.lookup x=some k'/\(k=k'\/(k'=.free/\k=.cell)):=by
 unfold relabel at h;dsimp only at h;generalize scope.names=names at h ⊢
 induction names with
 | nil=>cases h
 | cons p r ih=>
  obtain⟨n,k0⟩:=p;rw[Os] at h;rw[OQ]
  cases hb:x==n with
  | true=>
   refine⟨k0,rfl,?_⟩;dsimp only at h
   split at h
   . rename_i hc
     rw[OQ,hb] at h;cases h;simp only[Om,Pe] at hc;exact .inr ⟨hc.1.1,rfl⟩
   . rw[OQ,hb] at h;cases h;exact .inl rfl
  | false=>
   dsimp only at h;refine ih ?_
   split at h
   . rw[OQ,hb] at h;exact h
   . rw[OQ,hb] at h;exact h
def blkCx(X:Cx)(N:List Str)(scope:Scope)(cl:List (Str × Addr))(s:Shared)(H:Hp)(fp:List Addr):Cx where
 prog:=X.prog
 w:=X.w
 K:=X.K
 mg:=X.mg
 base:=X.base
 A:=X.A
 N:=N
 s₀:=s
 H₀:=H
 env:=FP scope cl (s.heap.objs.size+1) X.env
 outer:=X.stack
 stack:=X.stack
 ex:=fp
 fn:=fun x=>scope.names.lookup x==some .cell
 calm:=X.calm
 pn:=[]
 xe:=fun e₀ s₁=>(∃(Nz:List (Addr × Obj)) (σ:St),Inv X Nz σ H s/\∀ b∈fp,FpOk X Nz H b)->notedBy (model X.prog X.w) X.A (FP scope cl (s.heap.objs.size+1) X.env) (fun x s'=>∃ m,s'.heap.Ns (s.heap.objs.size+1) m/\∀ h',Heap.SameBut (s.heap.objs.size+1) s'.heap h'->∀ cenv:Env,cenv.locals=s.heap.objs.size+1->
  wpAny (model X.prog X.w) X.A (passOn "comprehension.variables-let-go" x cenv:Sem Value) (fun _ _=>False) X.xe {s' with heap:=h'}) e₀ s₁
def subσ(ix:List (Option Nat))(σ:St):St:=ix.map fun o=>match o with | none=>none | some i=>match σ[i]? with | some v=>v | none=>none
structure BlkOk(X:Cx)(N:List Str)(ix:List (Option Nat))(scope:Scope):Prop where
 kind:scope.kind=.function
 nd:N.Nodup
 len:ix.length=N.length
 names:(scope.names.map (·.1)).Nodup
 free:∀ x,(x,NameKind.free)∈scope.names->X.env.kindOf x=some .cell\/X.env.kindOf x=some .free
 at_:∀(j i:Nat) (x:Str),N[j]? =some x->ix[j]? =some (some i)->X.N[i]? =some x/\(x,NameKind.free)∈scope.names
theorem gG{α:Type}:∀{l:List (Str × α)} {x:Str} {k:α},(l.map (·.1)).Nodup->(x,k)∈l->l.lookup x=some k
 | (y,k0)::r,x,k,nd,h=>by
  rw[Os,O7] at nd;rw[OQ];rcases N4.mp h with e | e
  . cases e;simp
  . have:x≠y:=by
     rintro rfl;exact nd.1 (N9.mpr ⟨(x,k),e,rfl⟩)
    have hb:(x==y)=false:=by simpa using this
    rw[hb];exact gG nd.2 e
def FR {X:Cx} {Nz:List (Addr × Obj)} {σ:St} {H:Hp} {s:Shared} {N:List Str} {ix:List (Option Nat)} {cl:List (Str × Addr)} {fp:List Addr} (B:BlkOk X N ix scope)
  (I:Inv X Nz σ H s) (hcl:∀ x c,cl.lookup x=some c->X.env.cells.lookup x=some c) (hcf:∀ x,(x,NameKind.free)∈scope.names->∃ c,cl.lookup x=some c)
  (hfp:∀ b∈fp,FpOk X Nz H b) (hob:∀ b∈fp,∃ o,s.heap.get? b=some o/\∀ v,o.data≠.cell v):
  Inv (blkCx X N scope cl s H fp) [] (subσ ix σ) (upd H s.heap.objs.size (.lst []))
   {s with heap:=pushCells ((s.heap.push {cls:=.type "list",data:=.seq #[]}).push {cls:=.type "dict",data:=.dict #[]}) scope.names}:=by
 have hs2:(s.heap.push {cls:=.type "list",data:=.seq #[]}).objs.size=s.heap.objs.size+1:=OR ..;have hs3:((s.heap.push {cls:=.type "list",data:=.seq #[]}).push {cls:=.type "dict",data:=.dict #[]}).objs.size=s.heap.objs.size+2:=by rw[OR,hs2]
 have hk:∀ b o,s.heap.get? b=some o->(pushCells ((s.heap.push {cls:=.type "list",data:=.seq #[]}).push {cls:=.type "dict",data:=.dict #[]}) scope.names).get? b=some o:=
  fun b o e=>QG _ _ b o (NQ _ (NQ _ e))
 have hl:(pushCells ((s.heap.push {cls:=.type "list",data:=.seq #[]}).push {cls:=.type "dict",data:=.dict #[]}) scope.names).get? s.heap.objs.size=some {cls:=.type "list",data:=.seq #[]}:=
  QG _ _ _ _ (NQ _ (N7 _ rfl))
 have ok0:=cellsFrom_ok scope.names ((s.heap.push {cls:=.type "list",data:=.seq #[]}).push {cls:=.type "dict",data:=.dict #[]}) (s.heap.objs.size+2) [] ⟨fun _ _ hm=>(nomatch hm),List.Pairwise.nil⟩ (by rw[hs3];exact NU _);rw[hs3] at ok0
 have hcells:(blkCx X N scope cl s H fp).env.cells=cellsFrom (s.heap.objs.size+2) scope.names []++cl:=by
  show cellsFrom (s.heap.objs.size+1+1) scope.names cl=_;rw[← List.nil_append cl,l0];simp
 have cases_:∀ x c,(blkCx X N scope cl s H fp).env.cells.lookup x=some c->((x,c)∈cellsFrom (s.heap.objs.size+2) scope.names []/\(x,NameKind.cell)∈scope.names)\/((cellsFrom (s.heap.objs.size+2) scope.names []).lookup x=none/\cl.lookup x=some c):=fun x c e=>by
  rw[hcells,eh] at e
  cases q:(cellsFrom (s.heap.objs.size+2) scope.names []).lookup x with
  | none=>rw[q] at e;exact .inr ⟨rfl,e⟩
  | some c'=>
   rw[q] at e;cases e;have m:=OW q;refine .inl ⟨m,?_⟩;rcases jh _ _ _ m with z | z
   . exact z
   . exact nomatch z
 have oldc:∀ x c,cl.lookup x=some c->c<s.heap.objs.size:=fun x c e=>by
  obtain⟨v,q⟩:=I.cell x c (hcl x c e);exact q.lt
 have hfree:H s.heap.objs.size=none:=I.hok.fresh (NU _)
 have hfix:∀ b,s.heap.objs.size<b->(upd H s.heap.objs.size (.lst [])) b=none:=fun b hb=>by
  rw[ar (PY hb)];exact I.hok.fresh (Ou hb)
 have hlt:∀ b∈fp,b<s.heap.objs.size:=fun b hb=>by
  obtain⟨o,e,_⟩:=hob b hb;exact N6 e
 have e0:=I.env0;have isnew:∀ x c,(x,c)∈cellsFrom (s.heap.objs.size+2) scope.names []->s.heap.objs.size+2<=c:=fun x c m=>(ok0.empty x c m).2
 refine⟨⟨I.ok.mod,B.kind,I.ok.glob,I.ok.blt,Ps _,fun x y c e1 e2=>?_,fun x hx=>?_,fun x c hx e=>?_,I.ok.hd,I.ok.frames,.inl rfl,fun b hb=>⟨?_,fun x c e=>?_⟩,e0.bs,e0.bsz,fun b o e hb=>?_,fun b hb hb2=>?_,e0.funs,e0.frf⟩,
  rfl,I.bare,Un.laid hk (NU _) hfree,⟨fun _=>none,?_,fun j x v e1 e2 e3=>?_⟩,fun x c e=>?_,hfix _ (O1 _),fun x c e=>?_,fun p hp=>absurd (show p∈([]:List (Addr × Obj)) from hp) (by simp),?_,?_⟩
 . rcases cases_ x c e1 with ⟨m1,k1⟩ | ⟨n1,q1⟩ <;> rcases cases_ y c e2 with ⟨m2,k2⟩ | ⟨n2,q2⟩
   . exact name_of_addr ok0.apart m1 m2
   . exact absurd (Ol (oldc _ _ q2) (NS (Qx _ _) (isnew _ _ m1))) (O9 _)
   . exact absurd (Ol (oldc _ _ q1) (NS (Qx _ _) (isnew _ _ m2))) (O9 _)
   . exact I.ok.inj x y c (hcl _ _ q1) (hcl _ _ q2)
 . have hx':(relabel scope X.env).names.lookup x=some .cell\/(relabel scope X.env).names.lookup x=some .free:=hx
   have key:scope.names.lookup x=some .cell\/scope.names.lookup x=some .free:=by
    rcases hx' with z | z
    . obtain⟨k',e,r | r⟩:=m6 z
      . rw[← r] at e;exact .inl e
      . rw[r.1] at e;exact .inr e
    . obtain⟨k',e,r | r⟩:=m6 z
      . rw[← r] at e;exact .inr e
      . cases r.2
   rw[hcells];rcases key with z | z
   . obtain⟨c,q⟩:=qF (n:=s.heap.objs.size+2) z;exact⟨c,by rw[eh,q]⟩
   . obtain⟨c,q⟩:=hcf x (OW z)
     cases q2:(cellsFrom (s.heap.objs.size+2) scope.names []).lookup x with
     | none=>exact⟨c,by rw[eh,q2];exact q⟩
     | some c'=>exact⟨c',by rw[eh,q2]⟩
 . have hx':scope.names.lookup x=some .cell:=by simpa [blkCx] using hx
   rcases cases_ x c e with ⟨m1,k1⟩ | ⟨n1,q1⟩
   . exact NS (Qx _ _) (isnew _ _ m1)
   . obtain⟨c',q⟩:=qF (n:=s.heap.objs.size+2) hx';rw[q] at n1;cases n1
 . exact Op (OJ (hlt b hb))
 . rcases cases_ x c e with ⟨m1,k1⟩ | ⟨n1,q1⟩
   . exact PY (Ol (hlt b hb) (NS (Qx _ _) (isnew _ _ m1)))
   . exact(hfp b hb).2.2.2.2.1 x c (hcl _ _ q1)
 . rcases(hfp b hb).2.2.2.1 with z | z
   . exact I.ok.noex b o e z
   . exact absurd (Ol (N6 e) (NS I.ok.bsz z)) (O9 _)
 . rcases N4.mp (I.stkSub b hb2) with z | z
   . exact(hfp b hb).2.1 z
   . exact(hfp b hb).2.2.1 z
 . show Heap.Ns _ (s.heap.objs.size+1) _;rw[← hs2];exact(Heap.Ns.new _ (.type "dict")).keeps (QG _ _)
 .
   unfold subσ at e2;rw[NN] at e2
   cases q:ix[j]? with
   | none=>rw[q] at e2;cases e2
   | some o=>
    rw[q] at e2
    cases o with
    | none=>cases e2
    | some i=>
     simp only[P3,Option.some.injEq] at e2;obtain⟨hN,hm⟩:=B.at_ j i x e1 q
     have hσ:σ[i]? =some (some v):=by
      cases q2:σ[i]? with
      | none=>rw[q2] at e2;cases e2
      | some z=>rw[q2] at e2;exact congrArg some e2
     obtain⟨m,hn,hl'⟩:=I.loc;have hkind:=B.free x hm;have hvis:Vis X.env.scope x:=hkind.elim (fun z=>.inr (.inl z)) fun z=>.inr (.inr z);obtain⟨u,ru,lk⟩:=hl' i x v hN hσ hvis;refine⟨u,ru,?_⟩;obtain⟨c,hc⟩:=hcf x hm
     have hnone:(cellsFrom (s.heap.objs.size+2) scope.names []).lookup x=none:=by
      cases q2:(cellsFrom (s.heap.objs.size+2) scope.names []).lookup x with
      | none=>rfl
      | some c'=>
       rcases jh _ _ _ (OW q2) with z | z
       . have a1:=gG B.names z;have a2:=gG B.names hm;rw[a1] at a2;cases a2
       . exact nomatch z
     have hcell:(blkCx X N scope cl s H fp).env.cells.lookup x=some c:=by rw[hcells,eh,hnone];exact hc
     have hkk:(blkCx X N scope cl s H fp).env.kindOf x=some .cell\/(blkCx X N scope cl s H fp).env.kindOf x=some .free:=by
      rcases e3 with z | z | z
      . obtain⟨k',e,r | r⟩:=m6 (show(relabel scope X.env).names.lookup x=some .local from z)
        . rw[gG B.names hm] at e;cases e;cases r
        . cases r.2
      . exact .inl z
      . exact .inr z
     refine .inr ⟨hkk,c,hcell,?_⟩;rcases lk with ⟨k1,_⟩ | ⟨_,c2,e4,z⟩
     . rcases hkind with z | z <;> rw[k1] at z <;> cases z
     . rw[hcl x c hc] at e4;cases e4;exact z.keeps hk
 . rcases cases_ x c e with ⟨m1,k1⟩ | ⟨n1,q1⟩
   . exact⟨none,(ok0.empty x c m1).1⟩
   . obtain⟨v,z⟩:=I.cell x c (hcl _ _ q1);exact⟨v,z.keeps hk⟩
 . rcases cases_ x c e with ⟨m1,k1⟩ | ⟨n1,q1⟩
   . exact hfix c (Ol (Nat.lt_add_of_pos_right #[1]) (isnew _ _ m1))
   . rw[ar (Op (oldc _ _ q1))];exact I.freeC x c (hcl _ _ q1)
 . exact I.hok.laid hk (NU _) ⟨Ox _,[],0,.nil,hl⟩
 . show(subσ ix σ).length=N.length;unfold subσ;rw[NI];exact B.len
def PTs(X:Cx)(ifs:List Expr)(t:TT):Prop:=
 ∀(Nz:List (Addr × Obj)) (s:Shared) (σ:St) (H:Hp) (Q:Bool->Hp->Prop),Inv X Nz σ H s->t σ H Q->
  wpAny (model X.prog X.w) X.A (forIn ifs true fun c r=>if r=true then do let ok ← isTrue c X.env (eval c X.env);pure (ForInStep.yield ok) else pure (ForInStep.yield r)) (TP X Nz σ Q) X.xe s
def tTrue:TT:=fun _ H Q=>Q true H
def aX{X:Cx}:PTs X [] tTrue:=fun _ _ _ H _ I h=>wpAny_tests_nil ⟨H,I,h⟩
def a8{X:Cx}{c:Expr}{t:TT}(h:PT X c t):PTs X [c] t:=fun Nz s σ H Q I q=>wpAny_tests_one (h Nz s σ H Q I q)
def Bg(ix:List (Option Nat))(wi:TI)(g:TG)(tt:TT)(te:TE)(fin:Addr->Hp->Prop):St->Hp->Prop:=fun σ H=>wi σ H fun J H1=>∀ l,H1 l=none->
 ∃ W:Nat->Nat->St->Hp->Prop,(∃ m,W 0 m (subσ ix σ) (upd H1 l (.lst [])))/\∀ i m σ' H',W i m σ' H'->
  (J.stop i H'/\fin l H')\/(J.go i H'/\∃ N:St->Hp->Prop,(∀ σ'' H'',N σ'' H''->∃ m',m'<m/\W (i+1) m' σ'' H'')/\∀ x H2,J.yld i H' x H2->g x σ' H2 fun σ2 H3=>tt σ2 H3 fun b H4=>
   if b=true then te σ2 H4 fun y H5=>∃ ys,H5 l=↥ys/\ys.length<sizeLine/\N σ2 (upd H5 l (.lst (ys++[y]))) else N σ2 H4)
section
variable{X:Cx}{Nz:List (Addr × Obj)}{σ σ':St}{H H':Hp}{s s':Shared}{N:List Str}{scope:Scope}{cl:List (Str × Addr)}{fp:List Addr}
def DH{h':Heap}(I:Inv X Nz σ H s)(J:Inv (blkCx X N scope cl s H fp) [] σ' H' s')(hfp:∀ b∈fp,FpOk X Nz H b)(sb:Heap.SameBut (s.heap.objs.size+1) s'.heap h'):Inv X Nz σ H' {s' with heap:=h'}:=by
 have u:Un (frs X.stack) fp H H' s.heap s'.heap:=J.base;have hC:H' (s.heap.objs.size+1)=none:=J.free;have ne:∀ b o,s.heap.get? b=some o->b≠s.heap.objs.size+1:=fun b o e=>Op (OJ (N6 e));refine I.call' (s':={s' with heap:=h'}) (ch:=fp) J.os ⟨fun b o e n hb hx=>?_,fun b o e n hb hx=>?_,u.free,fun b o e hx=>?_,u.tups,u.frzs,u.tbls⟩ (fun b ob e=>?_) J.bare fun b hb=>?_
 . exact(sb.2 b (ne b o e)).trans (u.keep b o e n hb hx)
 . obtain⟨sl,q⟩:=u.slot b o e n hb hx;exact⟨sl,(sb.2 b (ne b o e)).trans q⟩
 . obtain⟨o',q⟩:=u.there b o e hx;exact⟨o',(sb.2 b (ne b o e)).trans q⟩
 . refine(J.hok b ob e).stay (fun c w' hc q=>(sb.2 c ?_).trans q) (fun _ q=>q) fun _ _ q=>q;rintro rfl;rcases hc with rfl | hc
   . rw[hC] at e;cases e
   . rw[hC] at hc;cases hc
 . obtain⟨f0,f1,f2,f3,f4,f5⟩:=hfp b hb;exact⟨f3,f1,f4,f5⟩
def Bh {tg iter elt:Expr} {ifs:List Expr} {pos:Pos} {ix:List (Option Nat)} {wi:TI} {g:TG} {tt:TT} {te:TE} {fin:Addr->Hp->Prop} {RR:Value->Addr->Result->Shared->Prop} (B:BlkOk X N ix scope) (hc:X.calm=true)
  (hi:PI X tg iter wi) (hg:∀ cl s H fp,PG (blkCx X N scope cl s H fp) tg g) (ht:∀ cl s H fp,PTs (blkCx X N scope cl s H fp) ifs tt) (he:∀ cl s H fp,PE (blkCx X N scope cl s H fp) elt te)
  (hcl:∀ x c,cl.lookup x=some c->X.env.cells.lookup x=some c) (hcf:∀ x,(x,NameKind.free)∈scope.names->∃ c,cl.lookup x=some c)
  (I:Inv X Nz σ H s) (h:Bg ix wi g tt te fin σ H)
  (ok:∀(s2:Shared) (H2:Hp) (fp:List Addr) (σ3:St) (H3:Hp) (s3:Shared),Inv X Nz σ H2 s2->(∀ b∈fp,FpOk X Nz H2 b)->Inv (blkCx X N scope cl s2 H2 fp) [] σ3 H3 s3->fin s2.heap.objs.size H3->RR (.ref s2.heap.objs.size) (s2.heap.objs.size+1) (.ok .next) s3)
  (bad:∀(a C:Addr) (x:Value) (s':Shared),(∃ m,s'.heap.Ns C m/\∀ h',Heap.SameBut C s'.heap h'->∀ cenv:Env,cenv.locals=C->wpAny (model X.prog X.w) X.A (passOn "comprehension.variables-let-go" x cenv:Sem Value) (fun _ _=>False) X.xe {s' with heap:=h'})->RR (.ref a) C (.error x) s'):
  wpAny (model X.prog X.w) X.A (eval iter X.env) (fun x s₁=>wpAny (model X.prog X.w) X.A (pyIter x) (fun it s₂=>wpAny (model X.prog X.w) X.A (newList []) (fun acc s₃=>
   wpAny (model X.prog X.w) X.A (newFunctionEnv scope X.env.globals cl [] X.env.qual none .none (some X.env)) (fun cenv s₄=>
    codeAny (model X.prog X.w) X.A (.compStart (.ListComp elt [⟨tg,iter,ifs,0⟩] scope pos) 0 it acc {cenv with scope:=relabel scope X.env}) (RR acc cenv.locals) s₄) X.xe s₃) X.xe s₂) X.xe s₁) X.xe s:=by
 refine thn (hi Nz s σ H _ I h) fun v s1 h1=>thn h1 fun itv s2 h2=>?_;obtain⟨it,fp,tn,J,H2,e,I2,T,st2,f2,h2⟩:=h2;subst e;refine wpAny_newList (G3 ?_) (Ox _);have hs2:(s2.heap.push {cls:=.type "list",data:=.seq (([]:List Value)).toArray}).objs.size=s2.heap.objs.size+1:=OR ..;dsimp only;rw[hs2];have I3:=FR (fp:=fp) B I2 hcl hcf f2 (T.obj _ _ st2);obtain⟨W,⟨m0,w0⟩,turn⟩:=h2 s2.heap.objs.size I2.fresh
 have hk:∀ b o,s2.heap.get? b=some o->(pushCells ((s2.heap.push {cls:=.type "list",data:=.seq #[]}).push {cls:=.type "dict",data:=.dict #[]}) scope.names).get? b=some o:=
  fun b o e=>QG _ _ b o (NQ _ (NQ _ e))
 have st3:=T.keep _ _ _ st2 fun b _ o e=>hk b o e
 have fr3:∀ b∈fp,(upd H2 s2.heap.objs.size (.lst [])) b=none:=fun b hb=>by
  obtain⟨o,e,_⟩:=T.obj _ _ st2 b hb;rw[ar (Op (N6 e))];exact(f2 b hb).1
 have stat:∀{σ5:St} {H5:Hp} {s5:Shared},Inv (blkCx X N scope cl s2 H2 fp) [] σ5 H5 s5->(∀ b∈fp,H5 b=none)->∀ b∈fp,FpOk (blkCx X N scope cl s2 H2 fp) [] H5 b:=fun I5 hn b hb=>
  ⟨hn b hb,(I5.ok.exf b hb).1,I5.ok.exfs b hb,.inl hb,(I5.ok.exf b hb).2,fun p hp=>absurd (show p∈([]:List (Addr × Obj)) from hp) (by simp)⟩
 have loop:∀ s₃:Shared,s₃={s2 with heap:=pushCells ((s2.heap.push {cls:=.type "list",data:=.seq #[]}).push {cls:=.type "dict",data:=.dict #[]}) scope.names}->
   codeAny (model X.prog X.w) X.A (.compLoop (.ListComp elt [⟨tg,iter,ifs,0⟩] scope pos) 0 (.ref it) (.ref s2.heap.objs.size) (blkCx X N scope cl s2 H2 fp).env) (RR (.ref s2.heap.objs.size) (s2.heap.objs.size+1)) s₃:=by
  rintro s₃ rfl;refine FQ (fun n s'=>∃ i σ' H',Inv (blkCx X N scope cl s2 H2 fp) [] σ' H' s'/\tn i s'.heap/\(∀ b∈fp,H' b=none)/\W i n σ' H') ?_ m0 ⟨0,_,_,I3,st3,fr3,w0⟩;rintro n s4 ⟨i,σ4,H4,I4,st4,fr4,w4⟩
  have xe_:∀ x s',(blkCx X N scope cl s2 H2 fp).xe x s'->notedBy (model X.prog X.w) X.A (blkCx X N scope cl s2 H2 fp).env (fun e s'=>RR (.ref s2.heap.objs.size) (s2.heap.objs.size+1) (.error e) s') x s':=fun x s' hx=>
   OY (hx ⟨Nz,σ,I2,f2⟩) (fun _ s'' q=>bad _ _ _ _ q) fun e s'' q=>bad _ _ _ _ q
  rcases turn i n σ4 H4 w4 with ⟨stop,qn⟩ | ⟨go,Nx,hN,step⟩
  . refine OY (T.done (blkCx X N scope cl s2 H2 fp) rfl rfl rfl hc i [] s4 σ4 H4 _ I4 (stat I4 fr4) st4 stop) (fun r s5 ⟨hr,I5⟩=>?_) xe_;subst hr;exact ok s2 H2 fp σ4 H4 s5 I2 f2 I5 qn
  . refine OY (T.item (blkCx X N scope cl s2 H2 fp) rfl rfl rfl hc i [] s4 σ4 H4 _ I4 (stat I4 fr4) st4 go) (fun r s5 ⟨u,hr,h5⟩=>?_) xe_;subst hr;refine OY h5 (fun _ s6 ⟨x,H6,I6,r6,y6,st6,fr6⟩=>?_) xe_;have I6':=I6.pinned (stat I6 fr6) (T.obj _ _ st6);refine OY (hg cl s2 H2 fp _ s6 σ4 H6 x u _ I6' r6 (step x H6 y6)) (fun _ s7 ⟨σ7,H7,I7,q7⟩=>?_) xe_
    have again:∀{σ8:St} {H8:Hp} {s8:Shared},Inv (blkCx X N scope cl s2 H2 fp) ([]++sy fp s6.heap) σ8 H8 s8->Nx σ8 H8->∃ m,m<n/\∃ i σ' H',Inv (blkCx X N scope cl s2 H2 fp) [] σ' H' s8/\tn i s8.heap/\(∀ b∈fp,H' b=none)/\W i m σ' H':=fun{σ8 H8 s8} I8 n8=>by
     obtain⟨m',hm,w8⟩:=hN σ8 H8 n8;refine⟨m',hm,i+1,σ8,H8,I8.unpinned,T.keep _ _ _ st6 fun b hb o e=>(I8.pin (b,o) (OL _ (OL _ (mJ hb e)))).1,fun b hb=>?_,w8⟩;obtain⟨o,e,d⟩:=T.obj _ _ st6 b hb;exact(I8.pin (b,o) (OL _ (OL _ (mJ hb e)))).2.1
    refine OY (ht cl s2 H2 fp _ s7 σ7 H7 _ I7 q7) (fun okb s8 ⟨H8,I8,q8⟩=>?_) xe_
    cases okb with
    | false=>exact again I8 q8
    | true=>
     refine OY (he cl s2 H2 fp _ s8 σ7 H8 _ I8 q8) (fun y s9 ⟨yv,H9,I9,r9,ys,hl,hz,q9⟩=>?_) xe_;refine OY (zM (X:=blkCx X N scope cl s2 H2 fp) _ s9 σ7 H9 (.ref s2.heap.objs.size) [yv] (.ref s2.heap.objs.size) [y] (fun _ H10=>Nx σ7 H10) I9 rfl (.cons r9 .nil) ⟨_,ys,yv,rfl,rfl,hl,hz,q9⟩) (fun _ s10 ⟨_,H10,I10,_,q10⟩=>?_) xe_;exact again I10 q10
 exact codeAny_compStart_list (loop _ rfl) (T.self _ 0 _ _ _ st3 (loop _ rfl))
def tComp(ix:List (Option Nat))(wi:TI)(g:TG)(tt:TT)(te:TE):TE:=fun σ H Q=>Bg ix wi g tt te (fun l H'=>Q (.ref l) H') σ H
def sComp(k:Nat)(ix:List (Option Nat))(wi:TI)(g:TG)(tt:TT)(te:TE):TS:=fun D σ H=>Bg ix wi g tt te (fun l H'=>D.nx (σ.set k ↑l) H') σ H
def DI(I:Inv X Nz σ H s){ix:List (Option Nat)}(B:BlkOk X N ix scope):∃ cl,closureFor scope X.env=pure cl/\(∀ x c,cl.lookup x=some c->X.env.cells.lookup x=some c)/\∀ x,(x,NameKind.free)∈scope.names->∃ c,cl.lookup x=some c:=
 Ew fun x hx=>I.ok.has x (B.free x hx)
def vi{ix:List (Option Nat)}(B:BlkOk X N ix scope):∀ x∈scope.names,x.2=NameKind.local->scope.names.lookup x.1=some .local:=fun x hx e=>by
 obtain⟨n,k⟩:=x;cases e;exact gG B.names hx
def aG {tg iter elt:Expr} {ifs:List Expr} {pos:Pos} {ix:List (Option Nat)} {wi:TI} {g:TG} {tt:TT} {te:TE} (N:List Str) (B:BlkOk X N ix scope) (hc:X.calm=true)
  (hi:PI X tg iter wi) (hg:∀ cl s H fp,PG (blkCx X N scope cl s H fp) tg g) (ht:∀ cl s H fp,PTs (blkCx X N scope cl s H fp) ifs tt) (he:∀ cl s H fp,PE (blkCx X N scope cl s H fp) elt te)
  (hs:∀ x,foldedSetIterable iter X.env x=pure x:=by intro _;rfl):PE X (.ListComp elt [⟨tg,iter,ifs,0⟩] scope pos) (tComp ix wi g tt te):=by
 intro Nz s σ H Q I h;obtain⟨cl,e1,e2,e3⟩:=DI I B;rw[eval_ListComp];refine Re (use:=none) rfl hs e1 B.kind (vi B) ?_;refine Bh (RR:=fun acc C=>compPost (model X.prog X.w) X.A X.xe none (EP X Nz σ Q) acc C) B hc hi hg ht he e2 e3 I h (fun s2 H2 fp σ3 H3 s3 I2 f2 J q=>?_) (fun a C x s' q=>q);obtain⟨m,hn,_⟩:=J.loc;exact⟨m,hn,fun h' sb=>⟨.ref _,H3,DH I2 J f2 sb,rfl,q⟩⟩
def pW {y:Str} {py spos:Pos} {k:Nat} {tg iter elt:Expr} {ifs:List Expr} {pos:Pos} {ix:List (Option Nat)} {wi:TI} {g:TG} {tt:TT} {te:TE} (hN:X.N.Nodup) (hy:X.N[k]? =some y) (hx:Loc X.env.scope y)
  (hsw:swapsWith (.ListComp elt [⟨tg,iter,ifs,0⟩] scope pos) (some (.Name y py)) spos.line X.env=pure true) (N:List Str) (B:BlkOk X N ix scope) (hc:X.calm=true)
  (hi:PI X tg iter wi) (hg:∀ cl s H fp,PG (blkCx X N scope cl s H fp) tg g) (ht:∀ cl s H fp,PTs (blkCx X N scope cl s H fp) ifs tt) (he:∀ cl s H fp,PE (blkCx X N scope cl s H fp) elt te)
  (hs:∀ x,foldedSetIterable iter X.env x=pure x:=by intro _;rfl) (hf:X.fn y=true\/X.env.scope.names.lookup y=some .local:=by first | exact .inl rfl | exact .inr rfl | assumption):
  PS X (.Assign [.Name y py] (.ListComp elt [⟨tg,iter,ifs,0⟩] scope pos) spos) (sComp k ix wi g tt te):=by
 intro Nz s σ H D I h;obtain⟨cl,e1,e2,e3⟩:=DI I B;rw[exec_Assign_Name_used _ _ _ _ hsw];refine NM (RQ (NM ?_));show wpAny _ X.A (do let _ ← comprehension (.ListComp elt [⟨tg,iter,ifs,0⟩] scope pos) scope X.env _ (newList []) false (eval iter X.env) (some (assign (.Name y py) X.env))) _ _ s;refine NM (OY (Re (use:=some (assign (.Name y py) X.env)) (Q:=fun _ s'=>SP X Nz D .next s') rfl hs e1 B.kind (vi B) ?_) (fun _ s' hq=>NT (NT hq)) fun _ _ e=>e);refine Bh (RR:=fun acc C=>compPost (model X.prog X.w) X.A X.xe (some (assign (.Name y py) X.env)) (fun _ s'=>SP X Nz D .next s') acc C) B hc hi hg ht he e2 e3 I h (fun s2 H2 fp σ3 H3 s3 I2 f2 J q=>?_) (fun a C x s' q=>q);obtain⟨m,hn,_⟩:=J.loc;have I3:Inv X Nz σ H3 {s3 with heap:=s3.heap}:=DH I2 J f2 (Heap.SameBut.refl _ _);show wpAny _ X.A (assign (.Name y py) X.env (.ref _)) _ _ _;refine wpAny_assign_Name (zD (v:=.ref _) I3 hN hy hx rfl (fun s4 I4 ⟨a,sb4,ha⟩=>?_) hf)
 have hlt:a<s2.heap.objs.size:=by
  rcases ha with rfl | ha
  . exact I2.lt
  . obtain⟨v,z⟩:=I2.cell _ _ ha;exact z.lt
 have hCa:s2.heap.objs.size+1≠a:=PY (OJ hlt);refine⟨m,hn.sameBut sb4 hCa,fun h' sb=>?_⟩;refine⟨_,H3,I4.turned (t':=s4.toks) (it:=s2.heap.objs.size+1) (fun b o hb e=>(sb.2 b hb).trans e) J.free (PY (OJ I2.lt)) (.inr (NS I2.sz (Ps _))) (fun x c e=>?_) (fun p hp=>?_),q⟩
 . obtain⟨v,z⟩:=I2.cell x c e;exact Op (OJ z.lt)
 . exact Op (OJ (N6 (I2.pin p hp).1))
end
def bnd{α:Type}:Option α->(α->Prop)->Prop
 | some a,k=>k a
 | none,_=>False
def bf{α:Type}{o:Option α}{a:α}{k:α->Prop}(h:o=some a)(q:k a):bnd o k:=by subst h;exact q
theorem bg{α:Type}{o:Option α}{k:α->Prop}(h:bnd o k):∃ a,o=some a/\k a:=by
 cases o with
 | none=>exact h.elim
 | some a=>exact⟨a,rfl,h⟩
def bo{α:Type}{a:α}{k:α->Prop}:bnd (some a) k=k a:=rfl
def unM:Option HO->Option (List V)
 | ↥xs=>some xs
 | _=>none
def unL:Option HO->Option (List V)
 | ↥xs=>some xs
 | some (.frz _ (.lst xs))=>some xs
 | _=>none
def unS:Option HO->Option (List V)
 | ↥xs=>some xs
 | some (.frz _ (.lst xs))=>some xs
 | some (.tup xs)=>some xs
 | _=>none
variable{o:Option HO}{xs:List V}
def hX(h:unM o=some xs):o=↥xs:=by
 unfold unM at h;split at h
 . cases h;rfl
 . cases h
def sG{K:Frag}{H:Hp}{p:Addr}(h:unL (H p)=some xs):SqL K H p xs:=by
 unfold unL at h;split at h
 . rename_i e;cases h;exact .inl (.inl e)
 . rename_i o _ e;cases h;exact .inl (.inr ⟨_,e⟩)
 . cases h
def pX{K:Frag}{H:Hp}{p:Addr}(h:unS (H p)=some xs):SqL K H p xs\/SqT K H p xs:=by
 unfold unS at h;split at h
 . rename_i e;cases h;exact .inl (.inl (.inl e))
 . rename_i o _ e;cases h;exact .inl (.inl (.inr ⟨_,e⟩))
 . rename_i e;cases h;exact .inr (.inl (.inl e))
 . cases h
mutual
inductive DV(K:Frag)(H:Hp):V->PyData->Prop
 | non:DV K H .non .none
 | bl (b:Bool):DV K H (.bl b) (.bool b)
 | int (i:Int):DV K H (.int i) (.int i)
 | str (x:Str):DV K H (.str x) (.str x)
 | lst {a:Addr} {xs:List V} {ds:List PyData}:SqL K H a xs->DVs K H xs ds->DV K H (.ref a) (.list ds)
 | tup {a:Addr} {xs:List V} {ds:List PyData}:SqT K H a xs->DVs K H xs ds->DV K H (.ref a) (.tuple ds)
inductive DVs(K:Frag)(H:Hp):List V->List PyData->Prop
 | nil:DVs K H [] []
 | cons {x:V} {d:PyData} {xs:List V} {ds:List PyData}:DV K H x d->DVs K H xs ds->DVs K H (x::xs) (d::ds)
end
section
variable{X:Cx}{Nz:List (Addr × Obj)}{σ:St}{H:Hp}{s:Shared}
mutual
theorem DV.reads(I:Inv X Nz σ H s):∀{x:V} {d:PyData} {v:Value},DV X.K H x d->RelV x v->∃ as,Reads s.heap v d as
 | _,_,_,.non,r=>by cases r;exact⟨_,.none⟩
 | _,_,_,.bl b,r=>by cases r;exact⟨_,.bool b⟩
 | _,_,_,.int i,r=>by obtain⟨t,rfl⟩:=r;exact⟨_,.int i t⟩
 | _,_,_,.str x,r=>by obtain⟨t,rfl⟩:=r;exact⟨_,.str x t⟩
 | _,_,_,.lst (a:=a) h hs,r=>by
  cases r;obtain⟨ND,rv,p,_⟩:=I.list h;obtain⟨as,q⟩:=DVs.reads I hs rv;obtain⟨o,h1,h2,n,h3⟩:=p.isList;exact⟨_,.list h1 h2 h3 q⟩
 | _,_,_,.tup (a:=a) h hs,r=>by
  cases r;obtain⟨ND,rv,p,_⟩:=I.tuple h;obtain⟨as,q⟩:=DVs.reads I hs rv;obtain⟨o,h1,h2,n,h3⟩:=p;exact⟨_,.tuple h1 h2 h3 q⟩
theorem DVs.reads(I:Inv X Nz σ H s):∀{xs:List V} {ds:List PyData} {us:List Value},DVs X.K H xs ds->Vals xs us->∃ as,ReadsAll s.heap us ds as
 | _,_,_,.nil,.nil=>⟨_,.nil⟩
 | _,_,_,.cons h hs,.cons r rs=>by
  obtain⟨as,q⟩:=DV.reads I h r;obtain⟨bs,q2⟩:=DVs.reads I hs rs;exact⟨_,.cons q q2⟩
end
end
theorem DVs.ints{K:Frag}{H:Hp}:∀ ns:∅,DVs K H (ns.map V.int) (ns.map PyData.int)
 | []=>.nil
 | n::r=>.cons (.int n) (DVs.ints r)
def Bi:∀ ns ms:∅,PyData.eqvAll (ns.map PyData.int) (ms.map PyData.int)=decide (ns=ms):=PySem.W.ked_eqvAll
theorem vU:∀ ns:∅,PyData.canLayAll0 (ns.map PyData.int)=true
 | []=>rfl
 | n::r=>by rw[Os,PyData.canLayAll0,vU r];rfl
theorem qJ:∀ ns:∅,PyData.depthAll (ns.map PyData.int)=0
 | []=>rfl
 | n::r=>by rw[Os,PyData.depthAll,qJ r];rfl
def lK(ns:∅):SeqAt.shaped (.list (ns.map PyData.int))=true:=by
 simp[SeqAt.shaped,PyData.canLay0,vU,PyData.depth,qJ]
def cAdd:R2
 | .int i,.int j,H,Q=>Q (.int (i+j)) H
 | .str i,.str j,H,Q=>i.length+j.length<=sizeLine/\Q (.str (i++j)) H
 | .ref l,.ref b,H,Q=>bnd (unM (H l)) fun xs=>bnd (unM (H b)) fun zs=>xs.length+zs.length<=sizeLine/\∀ p,H p=none->Q (.ref p) (upd H p (.lst (xs++zs)))
 | _,_,_,_=>False
def cSub:R2
 | .int i,.int j,H,Q=>Q (.int (i-j)) H
 | _,_,_,_=>False
def cMul:R2
 | .int i,.int j,H,Q=>CMul i j/\Q (.int (i*j)) H
 | _,_,_,_=>False
def cDiv:R2
 | .int i,.int j,H,Q=>CDiv i j/\Q (.int (i/j)) H
 | _,_,_,_=>False
def cMod:R2
 | .int i,.int j,H,Q=>0<j/\Q (.int (i%j)) H
 | _,_,_,_=>False
def cPow:R2
 | .int i,.int j,H,Q=>CPow i j/\Q (.int (i^j.toNat)) H
 | _,_,_,_=>False
def cCmp(g:Int->Int->Bool):R2
 | .int i,.int j,H,Q=>Q (.bl (g i j)) H
 | _,_,_,_=>False
def rEqD(K:Frag):R2:=fun x y H Q=>∃ d e,DV K H x d/\DV K H y e/\SeqAt.shaped d=true/\SeqAt.shaped e=true/\Q (.bl (PyData.eqv d e)) H
def rNeD(K:Frag):R2:=fun x y H Q=>∃ d e,DV K H x d/\DV K H y e/\SeqAt.shaped d=true/\SeqAt.shaped e=true/\Q (.bl (!PyData.eqv d e)) H
def cEq(K:Frag):R2
 | .int i,.int j,H,Q=>Q (.bl (decide (i=j))) H
 | .bl i,.bl j,H,Q=>Q (.bl (decide (i=j))) H
 | .str i,.str j,H,Q=>Q (.bl (decide (i=j))) H
 | x,y,H,Q=>rEqD K x y H Q
def cNe(K:Frag):R2
 | .int i,.int j,H,Q=>Q (.bl (!decide (i=j))) H
 | .bl i,.bl j,H,Q=>Q (.bl (!decide (i=j))) H
 | .str i,.str j,H,Q=>Q (.bl (!decide (i=j))) H
 | x,y,H,Q=>rNeD K x y H Q
def rInD(K:Frag)(neg:Bool):R2:=fun x y H Q=>∃ d ds,DV K H x d/\(DV K H y (.list ds)\/DV K H y (.tuple ds))/\PyData.canLayAll0 ds=true/\PyData.canLay0 d=true/\min (PyData.depthAll ds) d.depth<=62/\
 Q (.bl (if neg then !ds.any (fun y=>PyData.eqv y d) else ds.any fun y=>PyData.eqv y d)) H
def keyOf:V->Option Key
 | .int i=>some (.inl i)
 | .str x=>some (.inr x)
 | _=>none
def unD:Option HO->Option (List (Key × V))
 | some (.dK NC)=>some NC
 | _=>none
def cIn(K:Frag)(neg:Bool):R2
 | .ref a,y,H,Q=>rInD K neg (.ref a) y H Q
 | x,.ref p,H,Q=>(match unD (H p) with
  | some NC=>bnd (keyOf x) fun k=>Q (.bl (if neg then !(valV NC k).isSome else(valV NC k).isSome)) H
  | none=>bnd (unS (H p)) fun xs=>flatV x=true/\xs.all flatV=true/\Q (.bl (if neg then !inV x xs else inV x xs)) H)
 | .str i,.str j,H,Q=>Q (.bl (if neg then !(!(Builtin.Str.occurrences j i 0 j.length 1).isEmpty) else !(Builtin.Str.occurrences j i 0 j.length 1).isEmpty)) H
 | _,_,_,_=>False
def cIx:R2
 | .ref p,y,H,Q=>(match unD (H p) with
  | some NC=>bnd (keyOf y) fun k=>bnd (valV NC k) fun v=>Q v H
  | none=>match y with
   | .int i=>bnd (unS (H p)) fun xs=>bnd (atI xs i) fun v=>Q v H
   | _=>False)
 | .str z,.int i,H,Q=>z.length<=sizeLine/\bnd (atI z.cps.toList i) fun c=>Q (.str ⟨#[c]⟩) H
 | _,_,_,_=>False
def wW{NC:List (Key × V)}(h:unD o=some NC):o=some (.dK NC):=by
 unfold unD at h;split at h
 . cases h;rfl
 . cases h
def vV{x:V}{k:Key}(h:keyOf x=some k):x=kV k:=by
 unfold keyOf at h;split at h
 . cases h;rfl
 . cases h;rfl
 . cases h
section
variable{X:Cx}{a b c:Expr}{ta tb tc:TE}{pos:Pos}
def ax:OpR X (binaryOp .Add) cAdd:=by
 intro Nz s σ H x y v u Q I rx ry h;unfold cAdd at h
 split at h
 . exact I0 Nz s σ H _ _ v u Q I rx ry ⟨_,_,rfl,rfl,h⟩
 . exact Ep Nz s σ H _ _ v u Q I rx ry ⟨_,_,rfl,rfl,h.1,h.2⟩
 . obtain⟨xs,e1,h⟩:=bg h;obtain⟨zs,e2,h⟩:=bg h;exact Jk Nz s σ H _ _ v u Q I rx ry ⟨_,_,xs,zs,rfl,rfl,hX e1,hX e2,h.1,h.2⟩
 . exact h.elim
def aY:OpR X (binaryOp .Sub) cSub:=by
 intro Nz s σ H x y v u Q I rx ry h;unfold cSub at h
 split at h
 . exact Ja Nz s σ H _ _ v u Q I rx ry ⟨_,_,rfl,rfl,h⟩
 . exact h.elim
def cY:OpR X (binaryOp .Mult) cMul:=by
 intro Nz s σ H x y v u Q I rx ry h;unfold cMul at h
 split at h
 . exact Jb Nz s σ H _ _ v u Q I rx ry ⟨_,_,rfl,rfl,h.1,h.2⟩
 . exact h.elim
def bu:OpR X (binaryOp .FloorDiv) cDiv:=by
 intro Nz s σ H x y v u Q I rx ry h;unfold cDiv at h
 split at h
 . exact HP Nz s σ H _ _ v u Q I rx ry ⟨_,_,rfl,rfl,h.1,h.2⟩
 . exact h.elim
def aK:OpR X (binaryOp .Mod) cMod:=by
 intro Nz s σ H x y v u Q I rx ry h;unfold cMod at h
 split at h
 . exact Jc Nz s σ H _ _ v u Q I rx ry ⟨_,_,rfl,rfl,h.1,h.2⟩
 . exact h.elim
def uE{op:CmpOp}{g:Int->Int->Bool}(o:OpR X (compareOp op) (rI0 fun i j=>.bl (g i j))):OpR X (compareOp op) (cCmp g):=by
 intro Nz s σ H x y v u Q I rx ry h;unfold cCmp at h
 split at h
 . exact o Nz s σ H _ _ v u Q I rx ry ⟨_,_,rfl,rfl,h⟩
 . exact h.elim
def cW:OpR X (compareOp .Lt) (cCmp fun i j=>decide (i<j)):=uE J6
def h9:OpR X (compareOp .LtE) (cCmp fun i j=>decide (i<=j)):=uE J7
def dq:OpR X (compareOp .Gt) (cCmp fun i j=>decide (j<i)):=uE J8
def wX:OpR X (compareOp .GtE) (cCmp fun i j=>decide (j<=i)):=uE J9
def Jn(hu:X.A.units+64<cLine):OpR X (compareOp .Eq) (rEqD X.K):=by
 intro Nz s σ H x y v u Q I rx ry h;obtain⟨d,e,h1,h2,h3,h4,q⟩:=h;obtain⟨as,r1⟩:=h1.reads I rx;obtain⟨bs,r2⟩:=h2.reads I ry;exact eq_dataH r1 r2 h3 h4 hu ⟨.bl _,H,I,rfl,q⟩
def Jo(hu:X.A.units+64<cLine):OpR X (compareOp .NotEq) (rNeD X.K):=by
 intro Nz s σ H x y v u Q I rx ry h;obtain⟨d,e,h1,h2,h3,h4,q⟩:=h;obtain⟨as,r1⟩:=h1.reads I rx;obtain⟨bs,r2⟩:=h2.reads I ry;exact ne_dataH r1 r2 h3 h4 hu ⟨.bl _,H,I,rfl,q⟩
def ay(hu:X.A.units+64<cLine):OpR X (compareOp .Eq) (cEq X.K):=by
 intro Nz s σ H x y v u Q I rx ry h;unfold cEq at h
 split at h
 . refine En Nz s σ H _ _ v u Q I rx ry ⟨rfl,?_⟩
   simpa using h
 . refine En Nz s σ H _ _ v u Q I rx ry ⟨rfl,?_⟩
   simpa using h
 . refine En Nz s σ H _ _ v u Q I rx ry ⟨rfl,?_⟩
   simpa using h
 . exact Jn hu Nz s σ H _ _ v u Q I rx ry h
def aN(hu:X.A.units+64<cLine):OpR X (compareOp .NotEq) (cNe X.K):=by
 intro Nz s σ H x y v u Q I rx ry h;unfold cNe at h
 split at h
 . refine Eo Nz s σ H _ _ v u Q I rx ry ⟨rfl,?_⟩
   simpa using h
 . refine Eo Nz s σ H _ _ v u Q I rx ry ⟨rfl,?_⟩
   simpa using h
 . refine Eo Nz s σ H _ _ v u Q I rx ry ⟨rfl,?_⟩
   simpa using h
 . exact Jo hu Nz s σ H _ _ v u Q I rx ry h
def Jp(hu:X.A.units+64<cLine):OpR X (compareOp .In) (rInD X.K false):=by
 intro Nz s σ H x y v u Q I rx ry h;obtain⟨d,ds,h1,h2,h3,h4,h5,q⟩:=h;obtain⟨as,r1⟩:=h1.reads I rx;rcases h2 with h2 | h2
 . obtain⟨bs,r2⟩:=h2.reads I ry;exact SeqAt.in_list_reads r2 r1 h3 h4 #[0] ⟨.bl _,H,I,rfl,q⟩
 . obtain⟨bs,r2⟩:=h2.reads I ry;exact SeqAt.in_tuple_reads r2 r1 h3 h4 #[0] ⟨.bl _,H,I,rfl,q⟩
def FS(hu:X.A.units+64<cLine):OpR X (compareOp .NotIn) (rInD X.K true):=by
 intro Nz s σ H x y v u Q I rx ry h;obtain⟨d,ds,h1,h2,h3,h4,h5,q⟩:=h;obtain⟨as,r1⟩:=h1.reads I rx;rcases h2 with h2 | h2
 . obtain⟨bs,r2⟩:=h2.reads I ry;exact SeqAt.notIn_list_reads r2 r1 h3 h4 #[0] ⟨.bl _,H,I,rfl,q⟩
 . obtain⟨bs,r2⟩:=h2.reads I ry;exact SeqAt.notIn_tuple_reads r2 r1 h3 h4 #[0] ⟨.bl _,H,I,rfl,q⟩
def f8(hu:X.A.units+64<cLine):OpR X (compareOp .In) (cIn X.K false):=by
 intro Nz s σ H x y v u Q I rx ry h;unfold cIn at h
 split at h
 . exact Jp hu Nz s σ H _ _ v u Q I rx ry h
 . rename_i p hx
   split at h
   . rename_i NC e
     obtain⟨k,ek,q⟩:=bg h;cases (show u=Value.ref p from ry);have g:DGet H p x (valV NC k):=by rw[vV ek];exact DGet.k (wW e)
     exact Kr (OA (Qf (by decide:1<=64) _) hu) I g rx fun s' I'=>⟨.bl _,H,I',rfl,q⟩
   . obtain⟨xs,e,f1,f2,q⟩:=bg h;exact sD Nz s σ H _ _ v u Q I rx ry ⟨p,xs,rfl,pX e,f1,f2,q⟩
 . exact Fz Nz s σ H _ _ v u Q I rx ry ⟨_,_,rfl,rfl,h⟩
 . exact h.elim
def cR(hu:X.A.units+64<cLine):OpR X (compareOp .NotIn) (cIn X.K true):=by
 intro Nz s σ H x y v u Q I rx ry h;unfold cIn at h
 split at h
 . exact FS hu Nz s σ H _ _ v u Q I rx ry h
 . rename_i p hx
   split at h
   . rename_i NC e
     obtain⟨k,ek,q⟩:=bg h;cases (show u=Value.ref p from ry);have g:DGet H p x (valV NC k):=by rw[vV ek];exact DGet.k (wW e)
     exact Id (OA (Qf (by decide:1<=64) _) hu) I g rx fun s' I'=>⟨.bl _,H,I',rfl,q⟩
   . obtain⟨xs,e,f1,f2,q⟩:=bg h;exact sE Nz s σ H _ _ v u Q I rx ry ⟨p,xs,rfl,pX e,f1,f2,q⟩
 . exact Ba Nz s σ H _ _ v u Q I rx ry ⟨_,_,rfl,rfl,h⟩
 . exact h.elim
end
section
variable{X:Cx}{a b c:Expr}{ta tb tc:TE}{pos:Pos}
theorem G4(hu:X.A.units+64<cLine):IxR X cIx:=by
 intro value slice Nz s σ H x y v u Q I rx ry h hs
 cases x with
 | ref p=>
  unfold cIx at h;dsimp only at h
  split at h
  . rename_i NC e
    obtain⟨k,ek,h⟩:=bg h;obtain⟨z,ez,q⟩:=bg h;cases (show v=Value.ref p from rx);have g:DGet H p y (some z):=by rw[vV ek,← ez];exact DGet.k (wW e)
    exact tail_any (C6 I g) QY.lookup (FM (OA (Qf (by decide:1<=64) _) hu) I g ry fun w' s3 I3 rw'=>⟨z,H,I3,rw',q⟩) hs
  . split at h
    . obtain⟨xs,e,h⟩:=bg h;obtain⟨z,ez,q⟩:=bg h;rcases pX (K:=X.K) e with r | r
      . exact DF value slice Nz s σ H _ _ v u Q I rx ry ⟨p,xs,_,z,rfl,rfl,r,ez,q⟩ hs
      . exact Jg value slice Nz s σ H _ _ v u Q I rx ry ⟨p,xs,_,z,rfl,rfl,r,ez,q⟩ hs
    . exact h.elim
 | str zz=>
  cases y with
  | int i=>
   obtain⟨hz,h⟩:=(show zz.length<=sizeLine/\bnd (atI zz.cps.toList i) fun c=>Q (.str ⟨#[c]⟩) H from h);obtain⟨z,ez,q⟩:=bg h;exact Jh value slice Nz s σ H _ _ v u Q I rx ry ⟨_,_,z,rfl,rfl,hz,ez,q⟩ hs
  | _=>exact False.elim h
 | _=>exact False.elim h
def kLen:List V->Hp->VK->Prop
 | [.ref p],H,Q=>(match unD (H p) with
  | some NC=>Q (.int NC.length) H
  | none=>bnd (unS (H p)) fun xs=>Q (.int xs.length) H)
 | [.str z],H,Q=>z.length<=sizeLine/\Q (.int z.length) H
 | _,_,_=>False
def aA:CallR X (.builtin "len") kLen:=by
 intro Nz s σ H xs us Q I r h;unfold kLen at h
 split at h
 . split at h
   . rename_i NC e
     exact FO Nz s σ H _ us Q I r ⟨_,NC,rfl,wW e,h⟩
   . obtain⟨ys,e,q⟩:=bg h;exact hJ Nz s σ H _ us Q I r ⟨_,ys,rfl,pX e,q⟩
 . exact Bb Nz s σ H _ us Q I r ⟨_,rfl,h.1,h.2⟩
 . exact h.elim
def kAbs:List V->Hp->VK->Prop
 | [.int i],H,Q=>Q (.int (if i<0 then -i else i)) H
 | _,_,_=>False
def kMin:List V->Hp->VK->Prop
 | [.int i,.int j],H,Q=>Q (.int (if j<i then j else i)) H
 | _,_,_=>False
def ou(hc:X.calm=true):CallR X (.builtin "min") kMin:=by
 intro Nz s σ H xs us Q I r h;unfold kMin at h
 split at h
 . exact FC hc Nz s σ H _ us Q I r ⟨_,_,rfl,h⟩
 . exact h.elim
def kMax:List V->Hp->VK->Prop
 | [.int i,.int j],H,Q=>Q (.int (if j>i then j else i)) H
 | _,_,_=>False
def FT(hc:X.calm=true):CallR X (.builtin "max") kMax:=by
 intro Nz s σ H xs us Q I r h;unfold kMax at h
 split at h
 . exact FB hc Nz s σ H _ us Q I r ⟨_,_,rfl,h⟩
 . exact h.elim
def kList:List V->Hp->VK->Prop
 | [.ref p],H,Q=>bnd (unS (H p)) fun ys=>∀ l,H l=none->Q (.ref l) (upd H l (.lst ys))
 | _,_,_=>False
def fk:CallR X (.type "list") kList:=by
 intro Nz s σ H xs us Q I r h;unfold kList at h
 split at h
 . obtain⟨ys,e,q⟩:=bg h;exact Bc Nz s σ H _ us Q I r ⟨_,ys,rfl,pX e,q⟩
 . exact h.elim
def cL:List V->Hp->VK->Prop
 | [.ref p],H,Q=>bnd (unL (H p)) fun ys=>∃ ns:∅,ys=ns.map V.int/\ns.length<64/\∀(ns':∅) l,H l=none->ns'.Perm ns->ns'.Pairwise (· <=·)->Q (.ref l) (upd H l (.lst (ns'.map V.int)))
 | _,_,_=>False
def eK:CallR X (.builtin "sorted") cL:=by
 intro Nz s σ H xs us Q I r h;unfold cL at h
 split at h
 . rename_i p
   obtain⟨ys,e,ns,rfl,NF,q⟩:=bg h;obtain⟨u,rfl,ru⟩:=fj r;cases ru;obtain⟨ND,rv,pl,hz⟩:=I.list (sG e);have hI:IntsAre ND ns:=qG rv;have hl:=rv.length;rw[NI] at hl;refine sorted_ints pl.isList hI #[0] fun out ns' hI' hp hs=>?_;have old:∀ b o,s.heap.get? b=some o->(sortedAll s.heap ND out).get? b=some o:=fun b o e=>sortedAll_old e;obtain⟨n,at_⟩:=sortedAll_at s.heap ND out;have hfresh:H (s.heap.objs.size+1)=none:=I.hok.fresh (Ps _)
   have hlen':(ns'.map V.int).length<=sizeLine:=by
    rw[NI,hp.length_eq];exact Ou (Pq NF #[1])
   refine⟨.ref (s.heap.objs.size+1),_,I.laid (t':=s.toks) (a:=s.heap.objs.size+1) (o:=.lst (ns'.map V.int)) old (Ps _) ⟨hlen',out.toList,n,ot hI',?_⟩,rfl,q ns' _ hfresh hp hs⟩;rw[at_]
 . exact h.elim
def m7(H:Hp):V->Option String
 | .non=>some "NoneType"
 | .bl _=>some "bool"
 | .int _=>some "int"
 | .str _=>some "str"
 | .ref p=>match H p with
  | ↥_=>some "list"
  | some (.frz _ (.lst _))=>some "list"
  | some (.tup _)=>some "tuple"
  | some (.dK _)=>some "dict"
  | _=>none
 | _=>none
def isTy(t n:String):Bool:=t==n||(t=="bool"&&n=="int")
def uF(n:String):Bool:=["int","bool","str","list","tuple","dict"].contains n
theorem FU{K:Frag}{H:Hp}{x:V}{t:String}(h:m7 H x=some t):TyOf K H x (.type t)/\["NoneType","int","bool","str","list","tuple","dict"].contains t=true:=by
 cases x with
 | non=>cases h;exact⟨.non,by decide⟩
 | bl b=>cases h;exact⟨.bl b,by decide⟩
 | int i=>cases h;exact⟨.int i,by decide⟩
 | str i=>cases h;exact⟨.str i,by decide⟩
 | byt _=>cases h
 | flt _=>cases h
 | ty _=>cases h
 | ref p=>
  unfold m7 at h;dsimp only at h
  split at h
  . rename_i e;cases h;exact⟨.lst e,by decide⟩
  . rename_i e;cases h;exact⟨.frz e,by decide⟩
  . rename_i e;cases h;exact⟨.tup e,by decide⟩
  . rename_i e;cases h;exact⟨.dK e,by decide⟩
  . cases h
def Jq(K:Frag):∀ t∈["NoneType","int","bool","str","list","tuple","dict"],∀ n∈["int","bool","str","list","tuple","dict"],PySem.W.kitOne K (.type t) (.type n)=some (isTy t n):=by
 intro t ht n hn;simp only[N4,Pf,QT] at ht hn;rcases ht with rfl | rfl | rfl | rfl | rfl | rfl | rfl <;> rcases hn with rfl | rfl | rfl | rfl | rfl | rfl <;> rfl
def kIsi:List V->Hp->VK->Prop
 | [x,.ty n],H,Q=>uF n=true/\bnd (m7 H x) fun t=>Q (.bl (isTy t n)) H
 | _,_,_=>False
def de:CallR X (.builtin "isinstance") kIsi:=by
 intro Nz s σ H xs us Q I r h;unfold kIsi at h
 split at h
 . obtain⟨hn,h⟩:=h;obtain⟨t,et,q⟩:=bg h;obtain⟨u,w,rfl,ru,rw'⟩:=wR r;cases rw';obtain⟨ty,ht⟩:=FU (K:=X.K) et;exact FF I ru ty (Jq X.K t (by simpa using ht) _ (by simpa [uF] using hn)) fun tk=>⟨.bl _,H,I.tok tk,rfl,q⟩
 . exact h.elim
def bp:V->List V->Hp->VK->Prop
 | .ref l,[y],H,Q=>bnd (unM (H l)) fun xs=>xs.length<sizeLine/\Q .non (upd H l (.lst (xs++[y])))
 | _,_,_,_=>False
def bx:MtR X "list.append" bp:=by
 intro Nz s σ H x vs v us Q I rx rv h;unfold bp at h
 split at h
 . obtain⟨xs,e,h1,q⟩:=bg h;exact zM Nz s σ H _ _ v us Q I rx rv ⟨_,xs,_,rfl,rfl,hX e,h1,q⟩
 . exact h.elim
def iF:V->List V->Hp->VK->Prop
 | .ref l,[.ref b],H,Q=>bnd (unM (H l)) fun xs=>bnd (unM (H b)) fun zs=>xs.length+zs.length<=sizeLine/\Q .non (upd H l (.lst (xs++zs)))
 | _,_,_,_=>False
def mK:MtR X "list.extend" iF:=by
 intro Nz s σ H x vs v us Q I rx rv h;unfold iF at h
 split at h
 . obtain⟨xs,e,h⟩:=bg h;obtain⟨zs,e2,h1,q⟩:=bg h;exact FK Nz s σ H _ _ v us Q I rx rv ⟨_,_,xs,zs,rfl,rfl,hX e,hX e2,h1,q⟩
 . exact h.elim
def bL{K:Frag}{H:Hp}{p:Addr}{xs:List V}(h:H p=↥xs):tyV K "list" (.ref p) H:=.inl ⟨rfl,_,N5 h⟩
def cSl:V->Option Int->Option Int->Hp->VK->Prop
 | .ref p,lo,hi,H,Q=>bnd (unL (H p)) fun xs=>∀ l,H l=none->Q (.ref l) (upd H l (.lst (cutV xs lo hi)))
 | _,_,_,_,_=>False
def Ks:SlR X cSl:=by
 intro Nz s σ H x v vl vu lo hi sl Q I rx hs pl pu h;unfold cSl at h
 split at h
 . obtain⟨xs,e,q⟩:=bg h;exact HY Nz s σ H _ v vl vu lo hi sl Q I rx hs pl pu ⟨_,xs,rfl,sG e,q⟩
 . exact h.elim
end
structure Cal(P:Program)(w:World)(K:Frag)(mg:Str->Option Value)(base:Heap)(k:Nat)(x:Str)(ps:List Str)(sp:Sp):Prop where
 ex:∃(f:Addr) (fd:FuncData),FnOk P w K mg base CX0 k f fd ps sp/\mg x=↑f/\keepIn K (.ref f)=true/\Binds K fd ps []
def Jr {X:Cx} {k n:Nat} {x:Str} {ps:List Str} {sp:Sp} {p pos:Pos} {e:Expr} {es:List Expr} {t:TA} (C:Cal X.prog X.w X.K X.mg X.base k x ps sp) (hr:Room n X.A) (hk:k<=n) (hg:Gl X x) (ha:PA X (e::es) t)
  (hdb:(x==("__debug__":Str))=false:=by decide) (he:starEach (e::es) X.env=(false,eval e X.env)::starEach es X.env:=by rfl) (hpl:(backTo pos (starEach es X.env)).any (·.1)=false:=by rfl):
  PE X (.Call (.Name x p) (e::es) [] pos) (tCall sp [] E0 t):=by
 obtain⟨f,fd,F,hm,hkp,hb⟩:=C.ex;exact HV F (hr.mono hk) hg hm hkp hb .nil AY ha hdb he hpl
def aI:bootBuiltins "len"=some (.builtin "len"):=by decide+kernel
def wY:bootBuiltins "min"=some (.builtin "min"):=by decide+kernel
def Js:bootBuiltins "max"=some (.builtin "max"):=by decide+kernel
def gd:bootBuiltins "sorted"=some (.builtin "sorted"):=by decide+kernel
def Bj:bootBuiltins "any"=some (.builtin "any"):=by decide+kernel
def bF:bootBuiltins "isinstance"=some (.builtin "isinstance"):=by decide+kernel
def fg:bootBuiltins "list"=some (.type "list"):=by decide+kernel
def wZ:bootBuiltins "int"=some (.type "int"):=by decide+kernel
def DJ:bootBuiltins "bool"=some (.type "bool"):=by decide+kernel
def jU:bootBuiltins "str"=some (.type "str"):=by decide+kernel
def m8:bootBuiltins "tuple"=some (.type "tuple"):=by decide+kernel
def compN(scope:Scope):List Str:=(scope.names.filter fun p=>p.2==.local||p.2==.cell||p.2==.free).map (·.1)
def w5(N:List Str)(scope:Scope):List (Option Nat):=(compN scope).map fun x=>if scope.names.lookup x==some .free then N.findIdx? (· ==x) else none
def isCF:Option NameKind->Bool
 | some .cell=>true
 | some .free=>true
 | _=>false
def Jt{X:Cx}{scope:Scope}(h1:scope.kind=.function)(h2:(scope.names.map (·.1)).Nodup)(h3:(scope.names.all fun p=>p.2 != .free||isCF (X.env.kindOf p.1))=true):BlkOk X (compN scope) (w5 X.N scope) scope where
 kind:=h1
 nd:=h2.sublist (List.Sublist.map _ (List.filter_sublist ..))
 len:=by unfold w5;rw[NI]
 names:=h2
 free:=fun x hx=>by
  have:=Oe.mp h3 (x,.free) hx;simp only[bne_self_eq_false,Ph] at this;unfold isCF at this
  split at this
  . rename_i e;exact .inl e
  . rename_i e;exact .inr e
  . cases this
 at_:=fun j i x e1 e2=>by
  unfold w5 at e2;rw[NN,e1] at e2;simp only[P3,Option.some.injEq] at e2
  split at e2
  . rename_i hf
    obtain⟨hlt,hp,_⟩:=Qk.mp e2
    have hx:X.N[i]? =some x:=by
     rw[NJ hlt];have:X.N[i]=x:=by simpa using hp
     rw[this]
    refine⟨hx,OW (by simpa using hf)⟩
  . cases e2
section
variable{t u:TS}{D:Ends}{σ:St}{H:Hp}{Q:VK}{ta tb:TE}{R:Bool->Hp->Prop}{c d:TT}
def az:tSeq t u D σ H=t {D with nx:=u D} σ H:=rfl
def b9:tNext D σ H=D.nx σ H:=rfl
def bK{g:TG}:tAsg ta g D σ H=ta σ H fun x H1=>g x σ H1 D.nx:=rfl
def aQ{i:Nat}{v:V}{k:St->Hp->Prop}:gName i v σ H k=k (σ.set i (some v)) H:=rfl
def HG{i:Nat}:tVar i σ H Q=∃ v,σ[i]? =some (some v)/\Q v H:=propext ⟨HE,fun⟨_,e,h⟩=>qE e h⟩
def cq{v:V}{σ:St}:tVar 0 (some v::σ) H Q=Q v H:=rfl
def cr{i:Nat}{a:Option V}{σ:St}:tVar (i+1) (a::σ) H Q=tVar i σ H Q:=rfl
def w_c{v:V}:tC v σ H Q=Q v H:=rfl
def e9{r:R2}:tOp r ta tb σ H Q=ta σ H fun x H1=>tb σ H1 fun y H2=>r x y H2 Q:=rfl
def b5:tRet ta D σ H=ta σ H D.rt:=rfl
def cu:tRetN D σ H=D.rt .non H:=rfl
def ca:tDrop ta D σ H=ta σ H fun _ H1=>D.nx σ H1:=rfl
def aC:tIfS c t u D σ H=c σ H fun b H1=>if b=true then t D σ H1 else u D σ H1:=rfl
def cw:tTest ta σ H R=ta σ H fun x H'=>∃ k,x=.bl k/\R k H':=rfl
def w_b:tB ta σ H R=ta σ H fun x H'=>∃ k,x=.bl k/\R k H':=rfl
def w_not:tNot c σ H R=c σ H fun k H1=>R (!k) H1:=rfl
def dE:tAnd c d σ H R=c σ H fun k H1=>if k=true then d σ H1 R else R false H1:=rfl
def gg:tOr c d σ H R=c σ H fun k H1=>if k=true then R true H1 else d σ H1 R:=rfl
def cx:tNotV ta σ H Q=ta σ H fun x H1=>∃ c,x=.bl c/\Q (.bl (!c)) H1:=rfl
def cy:tAndV ta tb σ H Q=ta σ H fun x H1=>∃ c,x=.bl c/\if c=true then tb σ H1 Q else Q (.bl false) H1:=rfl
def dF:tOrV ta tb σ H Q=ta σ H fun x H1=>∃ c,x=.bl c/\if c=true then Q (.bl true) H1 else tb σ H1 Q:=rfl
def c7{k:List V->Hp->Prop}:tNil σ H k=k [] H:=rfl
def bM{tr:TA}{k:List V->Hp->Prop}:tCons ta tr σ H k=ta σ H fun x H1=>tr σ H1 fun xs H2=>k (x::xs) H2:=rfl
def f9{r:List V->Hp->VK->Prop}{tr:TA}:tCB r tr σ H Q=tr σ H fun vs H1=>r vs H1 Q:=rfl
def cc{sp:Sp}{dvs:List V}{E:XK}{tr:TA}:tCall sp dvs E tr σ H Q=tr σ H fun vs H1=>sp (vs++dvs) H1 Q E:=rfl
def dG{tr:TA}:tTup tr σ H Q=tr σ H fun xs H1=>xs.length<=sizeLine/\∀ p,H1 p=none->Q (.ref p) (upd H1 p (.tup xs)):=rfl
def c9{tr:TA}:tLst tr σ H Q=tr σ H fun xs H1=>xs.length<=sizeLine/\∀ p,H1 p=none->Q (.ref p) (upd H1 p (.lst xs)):=rfl
def fw{K:Frag}{T:String}{r:V->List V->Hp->VK->Prop}{tr:TA}:tBM K T r ta tr σ H Q=ta σ H fun x H1=>tyV K T x H1/\tr σ H1 fun xs H2=>r x xs H2 Q:=rfl
def dH{K:Frag}{T:String}{r:V->List V->Hp->VK->Prop}:Ev K T r ta σ H Q=ta σ H fun x H1=>tyV K T x H1/\r x [] H1 Q:=rfl
def ce:tTrue σ H R=R true H:=rfl
def cA:pV σ H Q=∀ p,H p=none->Q (.ref p) (upd H p (.dK [])):=rfl
def cB{td ty tv:TE}:sDPut td ty tv D σ H=tv σ H fun v H1=>td σ H1 fun x H2=>ty σ H2 fun y H3=>∃ a H4,x=.ref a/\DPut H3 a y v H4/\D.nx σ H4:=rfl
def dI{i j:Int}:cAdd (.int i) (.int j) H Q=Q (.int (i+j)) H:=rfl
def dJ{i j:Int}:cSub (.int i) (.int j) H Q=Q (.int (i-j)) H:=rfl
def dL{i j:Int}:cMul (.int i) (.int j) H Q=(CMul i j/\Q (.int (i*j)) H):=rfl
def dM{i j:Int}:cDiv (.int i) (.int j) H Q=(CDiv i j/\Q (.int (i/j)) H):=rfl
def dN{i j:Int}:cMod (.int i) (.int j) H Q=(0<j/\Q (.int (i%j)) H):=rfl
def dO{g:Int->Int->Bool}{i j:Int}:cCmp g (.int i) (.int j) H Q=Q (.bl (g i j)) H:=rfl
def dP{K:Frag}{i j:Int}:cEq K (.int i) (.int j) H Q=Q (.bl (decide (i=j))) H:=rfl
def dQ{K:Frag}{i j:Int}:cNe K (.int i) (.int j) H Q=Q (.bl (!decide (i=j))) H:=rfl
def dR{K:Frag}{i j:Bool}:cEq K (.bl i) (.bl j) H Q=Q (.bl (decide (i=j))) H:=rfl
def dS{K:Frag}{i j:Bool}:cNe K (.bl i) (.bl j) H Q=Q (.bl (!decide (i=j))) H:=rfl
def jj{p:Addr}{i:Int}{xs:List V}(h:H p=some (.tup xs)):cIx (.ref p) (.int i) H Q=bnd (atI xs i) fun v=>Q v H:=by
 unfold cIx;dsimp only;rw[h];rfl
def HH{p:Addr}{i:Int}{xs:List V}(h:H p=↥xs):cIx (.ref p) (.int i) H Q=bnd (atI xs i) fun v=>Q v H:=by
 unfold cIx;dsimp only;rw[h];rfl
def dU{i:Int}:kAbs [.int i] H Q=Q (.int (if i<0 then -i else i)) H:=rfl
def dW{i j:Int}:kMin [.int i,.int j] H Q=Q (.int (if j<i then j else i)) H:=rfl
def aS{p:Addr}{xs:List V}(h:H p=↥xs):kLen [.ref p] H Q=Q (.int xs.length) H:=by
 unfold kLen;dsimp only;rw[h];rfl
def Bk{p:Addr}{xs:List V}(h:H p=some (.tup xs)):kLen [.ref p] H Q=Q (.int xs.length) H:=by
 unfold kLen;dsimp only;rw[h];rfl
def ia{p:Addr}{xs:List V}{y:V}(h:H p=↥xs):bp (.ref p) [y] H Q=(xs.length<sizeLine/\Q .non (upd H p (.lst (xs++[y])))):=by
 unfold bp;dsimp only;rw[h];rfl
theorem sH:∀ ns:∅,(ns.map V.int).all flatV=true
 | []=>rfl
 | n::r=>by rw[Os,QA,sH r];rfl
theorem vW(i:Int):∀ ns:∅,inV (.int i) (ns.map V.int)=decide (i∈ns)
 | []=>by simp[inV]
 | n::r=>by
  have ih:=vW i r;unfold inV at ih ⊢;rw[Os,P5,ih];show((n==i)||decide (i∈r))=decide (i∈n::r);rw[Oi,RG,Pe,NO,NO,N4];exact⟨fun h=>h.elim (fun e=>.inl e.symm) .inr,fun h=>h.elim (fun e=>.inl e.symm) .inr⟩
def qK{K:Frag}{p:Addr}{i:Int}{ns:∅}(h:H p=↥(ns.map V.int)):cIn K false (.int i) (.ref p) H Q=Q (.bl (decide (i∈ns))) H:=by
 unfold cIn;dsimp only;rw[h];dsimp only[unD,unS,bnd];rw[vW,sH];simp[flatV]
def jV{K:Frag}{p:Addr}{i:Int}{ns:∅}(h:H p=↥(ns.map V.int)):cIn K true (.int i) (.ref p) H Q=Q (.bl (!decide (i∈ns))) H:=by
 unfold cIn;dsimp only;rw[h];dsimp only[unD,unS,bnd];rw[vW,sH];simp[flatV]
def Kf{K:Frag}{p:Addr}{i:Int}{NC:List (Key × V)}(h:H p=some (.dK NC)):cIn K false (.int i) (.ref p) H Q=Q (.bl (valV NC (.inl i)).isSome) H:=by
 unfold cIn;dsimp only;rw[h];rfl
end
def LoopR(J:It)(g:TG)(tb:TS)(D:Ends)(σ:St)(H1:Hp):Prop:=∃ W:Nat->Nat->St->Hp->Prop,(∃ m,W 0 m σ H1)/\∀ i m σ H,W i m σ H->
 (J.stop i H/\D.nx σ H)\/(J.go i H/\∃ N:St->Hp->Prop,(∀ σ' H',N σ' H'->∃ m',m'<m/\W (i+1) m' σ' H')/\∀ x H',J.yld i H x H'->g x σ H' fun σ2 H2=>tb {D with nx:=N,ct:=N,bk:=D.nx} σ2 H2)
def CompR(J:It)(g:TG)(tt:TT)(te:TE)(fin:Addr->Hp->Prop)(σ0:St)(H1:Hp):Prop:=∀ l,H1 l=none->
 ∃ W:Nat->Nat->St->Hp->Prop,(∃ m,W 0 m σ0 (upd H1 l (.lst [])))/\∀ i m σ' H',W i m σ' H'->
  (J.stop i H'/\fin l H')\/(J.go i H'/\∃ N:St->Hp->Prop,(∀ σ'' H'',N σ'' H''->∃ m',m'<m/\W (i+1) m' σ'' H'')/\∀ x H2,J.yld i H' x H2->g x σ' H2 fun σ2 H3=>tt σ2 H3 fun b H4=>
   if b=true then te σ2 H4 fun y H5=>∃ ys,H5 l=↥ys/\ys.length<sizeLine/\N σ2 (upd H5 l (.lst (ys++[y]))) else N σ2 H4)
section
variable{K:Frag}{g:TG}{tb:TS}{D:Ends}{σ:St}{H:Hp}{tl:TE}{ta:TA}{ix:List (Option Nat)}{tt:TT}{te:TE}{k:Nat}{Q:VK}
def cC:tFor (iList K tl) g tb D σ H=tl σ H fun x H1=>∃ a,x=.ref a/\(∃ xs,SqL K H1 a xs)/\LoopR (Itl K a) g tb D σ H1:=rfl
def bO:tFor (cU ta) g tb D σ H=ta σ H fun vs H1=>∃ j:Int,vs=[.int j]/\ -(2^62)<=j/\j<2^62/\LoopR (Itr 0 j.toNat) g tb D σ H1:=rfl
def bP:tFor (uB ta) g tb D σ H=ta σ H fun vs H1=>∃ i j:Int,vs=[.int i,.int j]/\(-(2^62)<=i/\i<2^62/\ -(2^62)<=j/\j<2^62)/\LoopR (Itr i (j-i).toNat) g tb D σ H1:=rfl
def bv:tComp ix (iList K tl) g tt te σ H Q=tl σ H fun x H1=>∃ a,x=.ref a/\(∃ xs,SqL K H1 a xs)/\CompR (Itl K a) g tt te (fun l H'=>Q (.ref l) H') (subσ ix σ) H1:=rfl
def bA:tComp ix (cU ta) g tt te σ H Q=ta σ H fun vs H1=>∃ j:Int,vs=[.int j]/\ -(2^62)<=j/\j<2^62/\CompR (Itr 0 j.toNat) g tt te (fun l H'=>Q (.ref l) H') (subσ ix σ) H1:=rfl
def bB:sComp k ix (iList K tl) g tt te D σ H=tl σ H fun x H1=>∃ a,x=.ref a/\(∃ xs,SqL K H1 a xs)/\CompR (Itl K a) g tt te (fun l H'=>D.nx (σ.set k ↑l) H') (subσ ix σ) H1:=rfl
def bh:sComp k ix (cU ta) g tt te D σ H=ta σ H fun vs H1=>∃ j:Int,vs=[.int j]/\ -(2^62)<=j/\j<2^62/\CompR (Itr 0 j.toNat) g tt te (fun l H'=>D.nx (σ.set k ↑l) H') (subσ ix σ) H1:=rfl
def qL {lo:Int} {n:Nat} {fin:Addr->Hp->Prop} {σ0:St} {H1:Hp} (Pv:Addr->Nat->St->Hp->Prop) (h0:∀ l,H1 l=none->Pv l 0 σ0 (upd H1 l (.lst [])))
  (hs:∀ l i σ H,H1 l=none->i<n->Pv l i σ H->g (.int (lo+i)) σ H fun σ2 H3=>tt σ2 H3 fun b H4=>if b=true then te σ2 H4 fun y H5=>∃ ys,H5 l=↥ys/\ys.length<sizeLine/\Pv l (i+1) σ2 (upd H5 l (.lst (ys++[y]))) else Pv l (i+1) σ2 H4)
  (hd:∀ l σ H,H1 l=none->Pv l n σ H->fin l H):CompR (Itr lo n) g tt te fin σ0 H1:=by
 intro l hl0;refine⟨fun i m σ H=>m=n-i/\i<=n/\Pv l i σ H,⟨n,by simp,Ox _,h0 l hl0⟩,?_⟩;rintro i m σ H ⟨rfl,hi,p⟩;by_cases hlt:i<n
 . refine .inr ⟨hlt,Pv l (i+1),fun σ' H' p'=>⟨n - (i+1),by omega,rfl,hlt,p'⟩,fun x H' y=>?_⟩;obtain⟨e,y⟩:=y;subst e y;exact hs l i σ _ hl0 hlt p
 . have e:i=n:=by omega
   subst e;exact .inl ⟨NU _,hd l σ H hl0 p⟩
def sI {a:Addr} {xs:List V} {fin:Addr->Hp->Prop} {σ0:St} {H1:Hp} (Pv:Addr->Nat->St->Hp->Prop) (h0:∀ l,H1 l=none->Pv l 0 σ0 (upd H1 l (.lst []))) (hq:∀ l i σ H,H1 l=none->i<=xs.length->Pv l i σ H->SqL K H a xs)
  (hs:∀ l i x σ H,H1 l=none->xs[i]? =some x->Pv l i σ H->g x σ H fun σ2 H3=>tt σ2 H3 fun b H4=>if b=true then te σ2 H4 fun y H5=>∃ ys,H5 l=↥ys/\ys.length<sizeLine/\Pv l (i+1) σ2 (upd H5 l (.lst (ys++[y]))) else Pv l (i+1) σ2 H4)
  (hd:∀ l σ H,H1 l=none->Pv l xs.length σ H->fin l H):CompR (Itl K a) g tt te fin σ0 H1:=by
 intro l hl0;refine⟨fun i m σ H=>m=xs.length-i/\i<=xs.length/\Pv l i σ H,⟨xs.length,by simp,Ox _,h0 l hl0⟩,?_⟩;rintro i m σ H ⟨rfl,hi,p⟩;have q:=hq l i σ H hl0 hi p;by_cases hlt:i<xs.length
 . refine .inr ⟨⟨xs,xs[i],q,by simp[hlt]⟩,Pv l (i+1),fun σ' H' p'=>⟨xs.length - (i+1),by omega,rfl,hlt,p'⟩,fun x H' y=>?_⟩;obtain⟨e,y⟩:=y;subst e;exact hs l i x σ _ hl0 (y xs q) p
 . have e:i=xs.length:=by omega
   subst e;exact .inl ⟨⟨xs,q,NU _⟩,hd l σ H hl0 p⟩
def lL{p q:Addr}{xs ys:∅}(hp:H p=↥(xs.map V.int))(hq:H q=↥(ys.map V.int))(h:Q (.bl (decide (xs=ys))) H):cEq K (.ref p) (.ref q) H Q:=by
 show rEqD K (.ref p) (.ref q) H Q;refine⟨.list (xs.map PyData.int),.list (ys.map PyData.int),.lst (N5 hp) (.ints xs),.lst (N5 hq) (.ints ys),lK xs,lK ys,?_⟩;rw[PyData.eqv,Bi];exact h
def qM{p q:Addr}{xs ys:∅}(hp:H p=↥(xs.map V.int))(hq:H q=↥(ys.map V.int))(h:Q (.bl (!decide (xs=ys))) H):cNe K (.ref p) (.ref q) H Q:=by
 show rNeD K (.ref p) (.ref q) H Q;refine⟨.list (xs.map PyData.int),.list (ys.map PyData.int),.lst (N5 hp) (.ints xs),.lst (N5 hq) (.ints ys),lK xs,lK ys,?_⟩;rw[PyData.eqv,Bi];exact h
def G5{p:Addr}{ns:∅}(hp:H p=↥(ns.map V.int))(hn:ns.length<64)(h:∀(ns':∅) l,H l=none->ns'.Perm ns->ns'.Pairwise (· <=·)->Q (.ref l) (upd H l (.lst (ns'.map V.int)))):cL [.ref p] H Q:=by
 unfold cL;dsimp only;rw[hp];exact⟨ns,rfl,hn,h⟩
def sJ{p:Addr}{xs:List V}(hp:H p=↥xs)(h:∀ l,H l=none->Q (.ref l) (upd H l (.lst xs))):kList [.ref p] H Q:=by
 unfold kList;dsimp only;rw[hp];exact h
end
def aF{X:Cx}{N:List Str}{ix:List (Option Nat)}{scope:Scope}(h1:scope.kind=.function)(h2:(scope.names.map (·.1)).Nodup)(h3:(scope.names.all fun p=>p.2 != .free||isCF (X.env.kindOf p.1))=true)(h4:N=compN scope)(h5:ix=w5 X.N scope):BlkOk X N ix scope:=by
 subst h4 h5;exact Jt h1 h2 h3
def kLenS(K:Frag):List V->Hp->VK->Prop:=fun xs H Q=>∃ p ys,xs=[.ref p]/\(SqL K H p ys\/SqT K H p ys)/\Q (.int ys.length) H
structure Bt(mg:Str->Option Value):Prop where
 len_:mg "len"=none
 abs_:mg "abs"=none
 min_:mg "min"=none
 max_:mg "max"=none
 sorted_:mg "sorted"=none
 any_:mg "any"=none
 isinstance_:mg "isinstance"=none
 list_:mg "list"=none
 int_:mg "int"=none
 bool_:mg "bool"=none
 str_:mg "str"=none
 tuple_:mg "tuple"=none
 reversed_:mg "reversed"=none
 set_:mg "set"=none
 range_:mg "range"=none
 zip_:mg "zip"=none
theorem Vals.get':∀{xs:List V} {us:List Value} {i:Nat} {u:Value},Vals xs us->us[i]? =some u->∃ x,xs[i]? =some x/\RelV x u
 | _,_,_,_,.nil,h=>by simp at h
 | _,_,0,_,.cons r _,h=>by simp at h;subst h;exact⟨_,rfl,r⟩
 | _,_,i+1,_,.cons _ t,h=>by
  obtain⟨x,hx,r⟩:=Vals.get' (i:=i) t (by simpa using h);exact⟨x,by simpa using hx,r⟩
section
variable{X:Cx}{Nz:List (Addr × Obj)}{σ:St}{H:Hp}{s s':Shared}
def Inv.kept'(I:Inv X Nz σ H s)(k:∀ b u,s.heap.get? b=some u->s'.heap.get? b=some u)(ho:s'.os=s.os)(hg:AllBare s'.gens):Inv X Nz σ H s':=
 I.call' (ch:=[]) ho (Un.kept k) (I.hok.kept k) hg fun b z=>absurd z (by simp)
def Inv.walked{l:Addr}{o:Obj}(I:Inv X Nz σ H s)(hm:Moved [s.heap.objs.size] (fun a b=>b=a) {s with heap:=s.heap.push o} s'):Inv X Nz σ H s':=by
 refine I.kept' (fun b u e=>hm.heap b u (fun z=>?_) (NQ _ e)) hm.os (by rw[show s'.gens=s.gens from hm.gens];exact I.bare);have:b=s.heap.objs.size:=by simpa using z
 exact absurd (N6 e) (by rw[this];exact O9 _)
def kAny:List V->Hp->VK->Prop
 | [.ref p],H,Q=>bnd (unL (H p)) fun ys=>∃ bs:List Bool,ys=bs.map V.bl/\Q (.bl (bs.any id)) H
 | _,_,_=>False
def FV(bs:List Bool):(List.range bs.length).any (fun i=>bs.getD i false)=bs.any id:=by
 rw[Oi,O8,O8];constructor
 . rintro⟨i,hi,h⟩;have hi':i<bs.length:=N8.mp hi;exact⟨bs[i],Ot hi',by simpa [List.getD,hi'] using h⟩
 . rintro⟨b,hb,h⟩;obtain⟨i,hi,e⟩:=PC.mp hb;refine⟨i,N8.mpr hi,?_⟩;have h':b=true:=h;rw[List.getD,NJ hi,e];exact h'
def sK(hc:X.calm=true):CallR X (.builtin "any") kAny:=by
 intro Nz s σ H xs us Q I r h;unfold kAny at h
 split at h
 . rename_i p
   obtain⟨ys,e,bs,rfl,q⟩:=bg h;obtain⟨u,rfl,ru⟩:=fj r;cases ru;obtain⟨ND,rv,pl,hz⟩:=I.list (sG e);have hl:=rv.length;rw[NI] at hl
   have hlt:p<s.heap.objs.size:=by
    obtain⟨o,h1,_⟩:=pl.isList;exact N6 h1
   refine call_any_walkS (P6 pl.isList ?_);refine⟨s.heap.objs.size,_,_,_,ND.toArray.size,_,_,fun i=>bs.getD i false,rfl,(RV (A:=X.A.in1) (I.ok.hd hc) s.heap.objs.size p (Op hlt) ND.toArray).toS,⟨⟨_,N7 _ rfl,rfl,rfl⟩,pl.isList.push _⟩,?_,fun s' hm=>?_⟩
   . intro i v s1 Q1 E1 hP hQ;have hv:ND[i]? =some v:=by simpa using hP
     obtain⟨x,hx,rx⟩:=rv.get' hv;obtain⟨b,hb,rfl⟩:∃ b,bs[i]? =some b/\V.bl b=x:=by simpa using hx
     cases rx;refine O4 ?_;have e3:bs.getD i false=b:=by simp[List.getD,hb]
     rw[← e3];exact hQ
   . refine⟨.bl _,H,I.walked (l:=p) hm,?_,q⟩;have e2:ND.toArray.size=bs.length:=by rw[N1];exact hl.symm
     rw[e2,FV];rfl
 . exact h.elim
def jW(K:Frag):V->List V->Hp->VK->Prop
 | .ref p,[y],H,Q=>∃(ds:List PyData) (d:PyData) (j:Nat),DV K H (.ref p) (.list ds)/\DV K H y d/\PyData.canLayAll0 ds=true/\PyData.canLay0 d=true/\min (PyData.depthAll ds) d.depth<=62/\
   j<=1000/\(∃ e,ds[j]? =some e/\PyData.eqv e d=true)/\(∀ m e,m<j->ds[m]? =some e->PyData.eqv e d=false)/\Q (.int j) H
 | _,_,_,_=>False
def lU(hu:X.A.units+64<cLine):MtR X "list.index" (jW X.K):=by
 intro Nz s σ H x vs v us Q I rx rv h;unfold jW at h
 split at h
 . rename_i p y
   obtain⟨ds,d,j,hp,hy,hl,hd,hdep,hj,⟨e,ej,et⟩,hno,q⟩:=h;cases rx;obtain⟨u,rfl,ru⟩:=fj rv;obtain⟨as,rc⟩:=hp.reads I rfl;obtain⟨bs,rx⟩:=hy.reads I ru
   cases rc with
   | @list _ o ND n _ _ h1 h2 h3 h4=>
    obtain⟨oc,od,oda,osl⟩:=o;dsimp only at h2 h3;subst h2 h3;have hmap:=SeqAt.readsAll_map ds _ _ hl h4
    have at_:∀(m:Nat) (hm:m<ND.size),ds[m]? =some (SeqAt.readOf s.heap ND[m]):=fun m hm=>by
     rw[← hmap,NN,OM,OC hm];rfl
    have hjs:j<ND.size:=by
     have:=(NR.mp ej).1;rw[← hmap,NI,Ov] at this;exact this
    refine PK F.slot_list_index ⟨_,h1,rfl⟩ F.entry_list_index (F.args_list_index_2 _ _) (SeqAt.list_indexAt p ND n od osl u (fun y=>PyData.eqv (SeqAt.readOf s.heap y) d) j hjs #[0] ?_ ?_) ⟨h1,SeqAt.items_eqAt h4 rx hl hd ?_,⟨.int j,H,I.tok _,⟨_,rfl⟩,q⟩⟩
    . have:=at_ j hjs;rw[ej] at this;cases this;exact et
    . intro m hm hlt;exact hno m _ hlt (at_ m hm)
    . omega
 . exact h.elim
def Ju{h:Heap}{a b:Addr}{o u:Obj}{c d:String}(ha:h.get? a=some o)(hb:h.get? b=some u)(hc:o.cls=.type c)(hd:u.cls=.type d)(ne:c≠d):a≠b:=by
 rintro rfl;rw[ha] at hb;cases hb;rw[hc] at hd;cases hd;exact ne rfl
end
open Builtin Builtin.Str
theorem yU:∀{ts:List Str} {us:List Value},Vals (ts.map V.str) us->∃ l:List (Str × Tok),us=strValues l/\l.map (·.1)=ts
 | [],_,.nil=>⟨[],rfl,rfl⟩
 | t::ts,_,.cons r rs=>by
  obtain⟨l,rfl,e⟩:=yU (ts:=ts) rs;obtain⟨u,rfl⟩:=r;exact⟨(t,u)::l,rfl,by rw[Os,e]⟩
theorem zP:∀(l:List (Str × Tok)),Vals ((l.map (·.1)).map V.str) (strValues l)
 | []=>.nil
 | (t,u)::l=>.cons ⟨u,rfl⟩ (zP l)
section
variable{X:Cx}
def kFind:V->List V->Hp->VK->Prop
 | .str x,[.str y],H,Q=>Q (.int (Txt.find x y)) H
 | _,_,_,_=>False
def w6:V->List V->Hp->VK->Prop
 | .str x,[.str y],H,Q=>(y.length==0)=false/\x.length<=sizeLine/\(Txt.split x y).length<=sizeLine/\∀ l,H l=none->Q (.ref l) (upd H l (.lst ((Txt.split x y).map V.str)))
 | _,_,_,_=>False
def FW:MtR X "str.split" w6:=by
 intro Nz s σ H x vs v us Q I rx rv h;unfold w6 at h
 split at h
 . rename_i x y
   obtain⟨t,rfl⟩:=rx;obtain⟨u,rfl,ru⟩:=fj rv;obtain⟨t2,rfl⟩:=ru;obtain⟨hy,hx,hn,q⟩:=h
   have fin:∀(l:List (Str × Tok)) (k:Nat),l.map (·.1)=Txt.split x y->EP X Nz σ Q (.ref s.heap.objs.size) {s with heap:=s.heap.push {cls:=.type "list",data:=.seq (strValues l).toArray},toks:=k}:=fun l k e=>by
    refine⟨.ref s.heap.objs.size,_,I.lnew (t':=k) (ys:=(Txt.split x y).map V.str) (ND:=strValues l) ?_ (by rw[NI];exact hn),rfl,q _ I.fresh⟩;rw[← e];exact zP l
   cases h1:(decide (x.length<y.length)||decide (strKind x<strKind y))
   . cases hf:(occurrences x y 0 x.length (x.length+1)).isEmpty
     . have e3:Txt.split x y=partsBetween x (occurrences x y 0 x.length (x.length+1)) y.length:=(Ob (QK h1)).trans (Ob (QK hf));refine PK Rp (Qw _ _ _) Q7 (QU _ _) (meets_str_split_sep x y t t2 h1 hy hf hx (by rw[← e3];exact hn)) ?_;show wants _ _ _ {s with toks:=_,heap:=s.heap.push {cls:=.type "list",data:=.seq (strsFrom s.toks (partsBetween x (occurrences x y 0 x.length (x.length+1)) y.length)).toArray}};rw[strsFrom_eq];exact fin (numbered s.toks _) _ ((numbered_texts _ _).trans e3.symm)
     . exact PK Rp (Qw _ _ _) Q7 (QU _ _) (meets_str_split_not_found x y t t2 h1 hy hf)
        (fin [(x,t)] s.toks ((Ob (QK h1)).trans (Oh hf)).symm)
   . exact PK Rp (Qw _ _ _) Q7 (QU _ _) (meets_str_split_cannot_occur x y t t2 h1)
      (fin [(x,t)] s.toks (Oh h1).symm)
 . exact h.elim
def nc:V->Option Int->Option Int->Hp->VK->Prop
 | .ref p,lo,hi,H,Q=>cSl (.ref p) lo hi H Q
 | .str z,lo,hi,H,Q=>z.length<=sizeLine/\Q (.str (Txt.slice z lo hi)) H
 | _,_,_,_,_=>False
theorem qN:SlR X nc:=by
 intro Nz s σ H x v vl vu lo hi sl Q I rx hs pl pu h
 cases x with
 | ref p=>exact Ks Nz s σ H _ v vl vu lo hi sl Q I rx hs pl pu h
 | str z=>
  obtain⟨hz,q⟩:=(show z.length<=sizeLine/\Q (.str (Txt.slice z lo hi)) H from h);obtain⟨t,rfl⟩:=rx;have fin:∀ t' k,EP X Nz σ Q (.str (Txt.slice z lo hi) t') {s with toks:=k}:=fun t' k=>⟨.str _,H,I.tok k,⟨t',rfl⟩,q⟩;refine⟨"str",_,F.slot_str_getitem.lookup,Qw _ _ _,?_⟩
  cases pl with
  | none=>
   cases pu with
   | none=>exact PU (l:=none) (u:=none) (st:=none) hs rfl (QH ⟨NS (Rz z _ _) hz,fin⟩)
   | int j tj=>exact PU (l:=none) (u:=some (j,tj)) (st:=none) hs rfl (QH ⟨NS (Rz z _ _) hz,fin⟩)
  | int i ti=>
   cases pu with
   | none=>exact PU (l:=some (i,ti)) (u:=none) (st:=none) hs rfl (QH ⟨NS (Rz z _ _) hz,fin⟩)
   | int j tj=>exact PU (l:=some (i,ti)) (u:=some (j,tj)) (st:=none) hs rfl (QH ⟨NS (Rz z _ _) hz,fin⟩)
 | _=>exact False.elim h
def Its(x:Str):It:=⟨fun i _=>i<x.cps.size,fun i H v H'=>H'=H/\∃ c,x.cps[i]? =some c/\v=.str ⟨#[c]⟩,fun i _=>x.cps.size<=i⟩
def Bl {P:Program} {w:World} {K:Frag} {tg:Expr} {x:Str} {t:Tok} (it:Addr) (ty:String) (hty:["enumerate","zip","dict_itemiterator","dict_reverseitemiterator","odict_iterator","itertools.zip_longest","itertools.pairwise"].contains ty=false)
  (W:∀ A:Around,A.handled=none->Walks P w A it [it] [it] x.cps.size (SignAt x) (fun i h=>h.IsStrIter it ty x t i))
  (slf:∀(A:Around) (i:Nat) (s:Shared) (Q:Value->Shared->Prop) (E:Value->Shared->Prop),s.heap.IsStrIter it ty x t i->Q (.ref it) s->wpAny (model P w) A (pyIter (.ref it)) Q E s):
  Turn P w K tg (Its x) [it] it (fun i h=>i<=x.cps.size/\h.IsStrIter it ty x t i) where
 mem:=by simp
 obj:=fun i h st b hb=>by
  have e:b=it:=by simpa using hb
  subst e;obtain⟨_,o,e,c,d⟩:=st;exact⟨o,e,fun v z=>by rw[d] at z;cases z⟩
 keep:=fun i h h' st k=>by
  obtain⟨hi,o,e,c,d⟩:=st;exact⟨hi,o,k it (by simp) o e,c,d⟩
 item:=by
  intro X hP hw hK hc i Nz s σ H E I hf st hg;subst hP hw hK;obtain⟨f0,f1,f2,f3,f4,f5⟩:=hf it (by simp);have hlt:i<x.cps.size:=hg;refine(W X.A (I.ok.hd hc)).item i s _ _ hlt st.2 fun v h' tk hv st' kk=>?_;obtain⟨c,u,hcu,rfl⟩:=hv;have I1:Inv X Nz σ H {s with heap:=h',toks:=tk}:=I.turned (fun b o hb e=>kk b o (by simpa using hb) e) f0 f1 f3 f4 f5;obtain⟨o,e,c',d⟩:=id st';exact⟨_,rfl,AX (s:={s with heap:=h',toks:=tk}) e c' d hty ⟨.str ⟨#[c]⟩,H,I1,⟨u,rfl⟩,⟨rfl,c,hcu,rfl⟩,⟨hlt,st'⟩,fun b hb=>(hf b hb).1⟩⟩
 done:=by
  intro X hP hw hK hc i Nz s σ H E I hf st hg;subst hP hw hK;obtain⟨f0,f1,f2,f3,f4,f5⟩:=hf it (by simp);have hle:x.cps.size<=i:=hg;have e:i=x.cps.size:=Nat.le_antisymm st.1 hle;subst e;exact(W X.A (I.ok.hd hc)).done s _ _ st.2 fun h' tk kk=>⟨rfl,I.turned (fun b o hb e=>kk b o (by simpa using hb) e) f0 f1 f3 f4 f5⟩
 self:=fun A i s Q E st h=>slf A i s Q E st.2 h
def iStr(tl:TE):TI:=fun σ H R=>tl σ H fun x H1=>∃ z,x=.str z/\R (Its z) H1
def Jv{tg l:Expr}{tl:TE}(hl:PE X l tl):PI X tg l (iStr tl):=by
 intro Nz s σ H R I h;refine thn (hl Nz s σ H _ I h) fun v s1 ⟨x,H1,I1,r1,q1⟩=>?_;obtain⟨z,rfl,q⟩:=q1;obtain⟨t,rfl⟩:=r1
 have fin:∀ b∈[s1.heap.objs.size],FpOk X Nz H1 b:=fun b hb=>by
  have e:b=s1.heap.objs.size:=by simpa using hb
  subst e;exact I1.fpOk (NU _) (I1.hok.fresh (NU _))
 cases ha:z.cps.all (· < 128)
 . refine wpAny_pyIter_wide ha ⟨s1.heap.objs.size,[s1.heap.objs.size],_,Its z,H1,rfl,I1.kept (t':=s1.toks) fun b o e=>NQ _ e,Bl (t:=t) _ "str_iterator" #[1] (fun A' hA=>Walks.strWide hA _ z t) (fun A i s Q E st hq=>wpAny_pyIter_striter_wide st hq),⟨Ox _,_,N7 _ rfl,rfl,rfl⟩,fin,q⟩
 . refine wpAny_pyIter_ascii ha ⟨s1.heap.objs.size,[s1.heap.objs.size],_,Its z,H1,rfl,I1.kept (t':=s1.toks) fun b o e=>NQ _ e,Bl (t:=t) _ "str_ascii_iterator" #[1] (fun A' hA=>Walks.strAscii hA _ z t) (fun A i s Q E st hq=>wpAny_pyIter_striter_ascii st hq),⟨Ox _,_,N7 _ rfl,rfl,rfl⟩,fin,q⟩
def C7 {prog:Program} {w:World} {A:Around} {E:Value->Shared->Prop} {s:Shared} {l:Addr} {items:Array Value} {k:Int} {t:Tok} {v:Value} {Q:Unit->Shared->Prop} (hl:s.heap.IsList l items)
  (h0:0<=k) (hfit:k<2^63) (hn:k<items.size)
  (hQ:Q () {s with heap:=s.heap.update l (Obj.mapSeq (·.setIfInBounds k.toNat v))}):
  wpAny (model prog w) A (setItem (.ref l) (.int k t) v) Q E s:=by
 obtain⟨o,ho,hc,ne,hd⟩:=id hl;unfold setItem
 try with_reducible refine Pr ?_
 first | refine NM (NT ?_) | skip
 refine NM (wpAny_sequenceKey hl.typeIs #[1] ?_)
 refine NM (Pj (name:=Str.ofString "__setitem__") hl.typeIs slot_list_setitem
  (Pg slot_list_setitem hl.typeIs entry_list_setitem ?_ (args_list_setitem _ _ _)))
 show wpAny _ _ (Builtin.List.listSubscript? (.int k t) >>= _) _ _ s;refine NM (wpAny_listSubscript_int (fitsIndex_of h0 hfit) ?_)
 clear hfit
 obtain⟨j,rfl⟩:=PV h0;have hj:j<items.size:=by omega
 have hx':items[j]? =some items[j]:=OC hj;show wpAny _ _ ((seqItemAt l j >>= fun r=>pure (r.map (j,·))) >>= _) _ _ s;refine NM (NM (wpAny_seqItemAt ho hd (NT ?_)));rw[hx'];show wpAny _ _ (setSeqItemAt l j v >>= _) _ _ s;refine NM (wpAny_setSeqItemAt ho hd ?_)
 first
  | exact NM (NT (NT ⟨.none,rfl,NT hQ⟩))
  | exact NT ⟨.none,rfl,NT hQ⟩
theorem Bm:∀{xs:List V} {us:List Value} {x:V} {u:Value} (i:Nat),Vals xs us->RelV x u->Vals (xs.set i x) (us.set i u)
 | _,_,_,_,_,.nil,_=>.nil
 | _,_,_,_,0,.cons _ t,r=>.cons r t
 | _,_,_,_,i+1,.cons q t,r=>.cons q (Bm i t r)
def cPut:TSet
 | .ref p,y,v,H,Q=>(match unD (H p) with
  | some _=>∃ H',DPut H p y v H'/\Q H'
  | none=>match y with
   | .int i=>bnd (unM (H p)) fun xs=>0<=i/\i<xs.length/\Q (upd H p (.lst (xs.set i.toNat v)))
   | _=>False)
 | _,_,_,_,_=>False
theorem qO(hu:X.A.units+64<cLine):PSet X cPut:=by
 intro Nz s σ H o i v ov iv u Q I ro ri rv h
 cases o with
 | ref p=>
  cases ro;unfold cPut at h;dsimp only at h
  split at h
  . obtain⟨H',g,q⟩:=h;exact FN (OA (Qf (by decide:1<=64) _) hu) I g ri rv fun s' I'=>⟨H',I',q⟩
  . split at h
    . rename_i i
      obtain⟨xs,e,h0,h1,q⟩:=bg h;obtain⟨t,rfl⟩:=ri;have hH:=hX e;obtain⟨z,ND,n,r,hl,eo⟩:=I.lstM hH;have hs:s.heap.IsList p ND.toArray:=⟨_,eo,rfl,n,rfl⟩;have hz:ND.length<=sizeLine:=by rw[← hl];exact z
      refine C7 hs h0 ?_ (by rw[N1,← hl];exact h1) ⟨_,I.lset (t':=s.toks) (ys:=xs.set i.toNat v) (its':=ND.set i.toNat u) hH eo (by simp) (Bm _ r rv) (by rw[RH];exact z),q⟩;have:(sizeLine:Int)<2^63:=by decide
      omega
    . exact h.elim
 | _=>exact False.elim h
end
section
variable{K:Frag}{g:TG}{tb:TS}{D:Ends}{σ:St}{H:Hp}{tl:TE}{ix:List (Option Nat)}{tt:TT}{te ta:TE}{k:Nat}{Q:VK}
def gh{r:V->Option Int->Option Int->Hp->VK->Prop}{a b:TO}:tSl r te a b σ H Q=te σ H fun x H1=>a σ H1 fun l H2=>b σ H2 fun u H3=>r x l u H3 Q:=rfl
def cD{R:Option Int->Hp->Prop}:tPart te σ H R=te σ H fun x H1=>∃ i,x=.int i/\R (some i) H1:=rfl
def bC{R:Option Int->Hp->Prop}:jL σ H R=R none H:=rfl
def cE{to ti:TE}{t:TSet}{v:V}{R:St->Hp->Prop}:gSub to ti t v σ H R=to σ H fun o H1=>ti σ H1 fun i H2=>t o i v H2 fun H3=>R σ H3:=rfl
def gi{r:V->Hp->VK->Prop}:tUn r te σ H Q=te σ H fun x H1=>r x H1 Q:=rfl
def cF:tFor (iStr tl) g tb D σ H=tl σ H fun x H1=>∃ z,x=.str z/\LoopR (Its z) g tb D σ H1:=rfl
def bQ:tComp ix (iStr tl) g tt te σ H Q=tl σ H fun x H1=>∃ z,x=.str z/\CompR (Its z) g tt te (fun l H'=>Q (.ref l) H') (subσ ix σ) H1:=rfl
def bD:sComp k ix (iStr tl) g tt te D σ H=tl σ H fun x H1=>∃ z,x=.str z/\CompR (Its z) g tt te (fun l H'=>D.nx (σ.set k ↑l) H') (subσ ix σ) H1:=rfl
def Ex{x:Str}:tyV K "str" (.str x) H:=rfl
def dX{i j:Str}:cEq K (.str i) (.str j) H Q=Q (.bl (decide (i=j))) H:=rfl
def dY{i j:Str}:cNe K (.str i) (.str j) H Q=Q (.bl (!decide (i=j))) H:=rfl
def cG{z:Str}:kLen [.str z] H Q=(z.length<=sizeLine/\Q (.int z.length) H):=rfl
def cf{i j:Str}:cAdd (.str i) (.str j) H Q=(i.length+j.length<=sizeLine/\Q (.str (i++j)) H):=rfl
def Kg{z:Str}{i:Int}:cIx (.str z) (.int i) H Q=(z.length<=sizeLine/\bnd (atI z.cps.toList i) fun c=>Q (.str ⟨#[c]⟩) H):=rfl
def cH{x y:Str}:kFind (.str x) [.str y] H Q=Q (.int (Txt.find x y)) H:=rfl
def Ie{x y:Str}:w6 (.str x) [.str y] H Q=((y.length==0)=false/\x.length<=sizeLine/\(Txt.split x y).length<=sizeLine/\∀ l,H l=none->Q (.ref l) (upd H l (.lst ((Txt.split x y).map V.str)))):=rfl
def HI{p:Addr}{i:Int}{v:V}{xs:List V}{R:Hp->Prop}(hp:H p=↥xs)(h0:0<=i)(h1:i<xs.length)(h:R (upd H p (.lst (xs.set i.toNat v)))):cPut (.ref p) (.int i) v H R:=by
 unfold cPut;dsimp only;rw[hp];exact⟨h0,h1,h⟩
def Jw{p:Addr}{i:Int}{v:V}{NC:List (Key × V)}{R:Hp->Prop}(hp:H p=some (.dK NC))(hn:NC.length<sizeLine)(h:R (upd H p (.dK (putK NC (.inl i) v)))):cPut (.ref p) (.int i) v H R:=by
 unfold cPut;dsimp only;rw[hp];exact⟨_,DPut.k (k:=Sum.inl i) hp hn,h⟩
def w9{p:Addr}{lo hi:Option Int}{xs:List V}(hp:H p=↥xs)(h:∀ l,H l=none->Q (.ref l) (upd H l (.lst (cutV xs lo hi)))):nc (.ref p) lo hi H Q:=by
 show bnd (unL (H p)) _;rw[hp];exact h
end
def cBitI(g:Int->Int->Int):R2
 | .int i,.int j,H,Q=>Q (.int (g i j)) H
 | _,_,_,_=>False
def cShl:R2
 | .int i,.int j,H,Q=>CPow i j/\Q (.int (i*2^j.toNat)) H
 | _,_,_,_=>False
def cShr:R2
 | .int i,.int j,H,Q=>0<=j/\Q (.int (i/2^j.toNat)) H
 | _,_,_,_=>False
abbrev cAnd:R2:=cBitI Builtin.bitAnd
abbrev cOr:R2:=cBitI Builtin.bitOr
section
variable{X:Cx}
def Bn{o:Operator}{g:Int->Int->Int}(h0:OpR X (binaryOp o) (rI0 fun i j=>.int (g i j))):OpR X (binaryOp o) (cBitI g):=by
 intro Nz s σ H x y v u Q I rx ry h;unfold cBitI at h
 split at h
 . exact h0 Nz s σ H _ _ v u Q I rx ry ⟨_,_,rfl,rfl,h⟩
 . exact h.elim
def yV:OpR X (binaryOp .BitAnd) cAnd:=Bn Jf
def Jx:OpR X (binaryOp .BitOr) cOr:=Bn J5
def mU:OpR X (binaryOp .LShift) cShl:=by
 intro Nz s σ H x y v u Q I rx ry h;unfold cShl at h
 split at h
 . exact Jd Nz s σ H _ _ v u Q I rx ry ⟨_,_,rfl,rfl,h.1,h.2⟩
 . exact h.elim
def uG:OpR X (binaryOp .RShift) cShr:=by
 intro Nz s σ H x y v u Q I rx ry h;unfold cShr at h
 split at h
 . exact Je Nz s σ H _ _ v u Q I rx ry ⟨_,_,rfl,rfl,h.1,h.2⟩
 . exact h.elim
end
section
variable{H:Hp}{Q:VK}{i j:Int}
def dt{g:Int->Int->Int}:cBitI g (.int i) (.int j) H Q=Q (.int (g i j)) H:=rfl
def fM:cShr (.int i) (.int j) H Q=(0<=j/\Q (.int (i/2^j.toNat)) H):=rfl
end
section
variable{X:Cx}
def kInt:List V->Hp->VK->Prop
 | [.int i],H,Q=>Q (.int i) H
 | [.bl k],H,Q=>Q (.int (if k then 1 else 0)) H
 | _,_,_=>False
def pY:V->List V->Hp->VK->Prop
 | .int i,[],H,Q=>Q (.int (Builtin.Int.intBits i:Nat)) H
 | _,_,_,_=>False
def xa:MtR X "int.bit_length" pY:=by
 intro Nz s σ H x vs v us Q I rx rv h;unfold pY at h
 split at h
 . obtain⟨t,rfl⟩:=rx;cases rv;exact call_int_bit_length ⟨.int _,H,I.tok _,⟨_,rfl⟩,h⟩
 . exact h.elim
def cRepL:R2
 | .ref l,.int k,H,Q=>bnd (unM (H l)) fun xs=> -(2^63)<=k/\k<2^63/\xs.length*k.toNat<=sizeLine/\∀ p,H p=none->Q (.ref p) (upd H p (.lst (List.replicate k.toNat xs).flatten))
 | _,_,_,_=>False
def G6:OpR X (binaryOp .Mult) cRepL:=by
 intro Nz s σ H x y v u Q I rx ry h;unfold cRepL at h
 split at h
 . obtain⟨xs,e,h1,h2,h3,q⟩:=bg h;exact Jl Nz s σ H _ _ v u Q I rx ry ⟨_,_,xs,rfl,rfl,hX e,h1,h2,h3,q⟩
 . exact h.elim
def kAll:List V->Hp->VK->Prop
 | [.ref p],H,Q=>bnd (unL (H p)) fun ys=>∃ bs:List Bool,ys=bs.map V.bl/\Q (.bl (bs.all id)) H
 | _,_,_=>False
def FX(bs:List Bool):(List.range bs.length).all (fun i=>bs.getD i false)=bs.all id:=by
 rw[Oi,Oe,Oe];constructor
 . intro h b hb;obtain⟨i,hi,e⟩:=PC.mp hb;have:=h i (N8.mpr hi);rw[List.getD,NJ hi,e] at this;exact this
 . intro h i hi;have hi':i<bs.length:=N8.mp hi;have:=h bs[i] (Ot hi')
   simpa [List.getD,hi'] using this
def jX:bootBuiltins "all"=some (.builtin "all"):=by decide+kernel
def xb:bootBuiltins "sum"=some (.builtin "sum"):=by decide+kernel
def fq(hc:X.calm=true):CallR X (.builtin "all") kAll:=by
 intro Nz s σ H xs us Q I r h;unfold kAll at h
 split at h
 . rename_i p
   obtain⟨ys,e,bs,rfl,q⟩:=bg h;obtain⟨u,rfl,ru⟩:=fj r;cases ru;obtain⟨ND,rv,pl,hz⟩:=I.list (sG e);have hl:=rv.length;rw[NI] at hl
   have hlt:p<s.heap.objs.size:=by
    obtain⟨o,h1,_⟩:=pl.isList;exact N6 h1
   refine call_all_walkS (P6 pl.isList ?_);refine⟨s.heap.objs.size,_,_,_,ND.toArray.size,_,_,fun i=>bs.getD i false,rfl,(RV (A:=X.A.in1) (I.ok.hd hc) s.heap.objs.size p (Op hlt) ND.toArray).toS,⟨⟨_,N7 _ rfl,rfl,rfl⟩,pl.isList.push _⟩,?_,fun s' hm=>?_⟩
   . intro i v s1 Q1 E1 hP hQ;have hv:ND[i]? =some v:=by simpa using hP
     obtain⟨x,hx,rx⟩:=rv.get' hv;obtain⟨b,hb,rfl⟩:∃ b,bs[i]? =some b/\V.bl b=x:=by simpa using hx
     cases rx;refine O4 ?_;have e3:bs.getD i false=b:=by simp[List.getD,hb]
     rw[← e3];exact hQ
   . refine⟨.bl _,H,I.walked (l:=p) hm,?_,q⟩;have e2:ND.toArray.size=bs.length:=by rw[N1];exact hl.symm
     rw[e2,FX];rfl
 . exact h.elim
def kSum:List V->Hp->VK->Prop
 | [.ref p],H,Q=>bnd (unL (H p)) fun ys=>∃ ns:∅,ys=ns.map V.int/\(∀ x∈ns,0<=x/\x<=1000000)/\ns.length<=1000000/\Q (.int ns.sum) H
 | _,_,_=>False
theorem FY:∀(ns:∅),(∀ x∈ns,0<=x/\x<=1000000)->0<=ns.sum/\ns.sum<=1000000*ns.length
 | [],_=>by simp
 | n::r,h=>by
  have ih:=FY r fun x hx=>h x (N3 _ hx);have h1:=h n Oc;rw[List.sum_cons,Oq];omega
def ow(hc:X.calm=true):CallR X (.builtin "sum") kSum:=by
 intro Nz s σ H xs us Q I r h;unfold kSum at h
 split at h
 . rename_i p
   obtain⟨ys,e,ns,rfl,hb,hn,q⟩:=bg h;obtain⟨u,rfl,ru⟩:=fj r;cases ru;obtain⟨ND,rv,pl,hz⟩:=I.list (sG e);have hl:=rv.length;rw[NI] at hl
   have hlt:p<s.heap.objs.size:=by
    obtain⟨o,h1,_⟩:=pl.isList;exact N6 h1
   have e2:ND.toArray.size=ns.length:=by rw[N1];exact hl.symm
   refine call_sum_walkS (P6 pl.isList ?_);refine⟨s.heap.objs.size,_,_,_,ND.toArray.size,_,_,fun i=>ns.getD i 0,rfl,(RV (A:=X.A.in1) (I.ok.hd hc) s.heap.objs.size p (Op hlt) ND.toArray).toS,⟨⟨_,N7 _ rfl,rfl,rfl⟩,pl.isList.push _⟩,?_,?_,?_,fun s' t' hm=>?_⟩
   . intro b hb';show b < (s.heap.push _).objs.size;rw[OR];simp only[N4,Pf,QT] at hb';rcases hb' with rfl | rfl
     . exact O1 _
     . exact OJ hlt
   . intro i v hP;have hv:ND[i]? =some v:=by simpa using hP
     obtain⟨x,hx,rx⟩:=rv.get' hv;obtain⟨b,hb',rfl⟩:∃ b,ns[i]? =some b/\V.int b=x:=by simpa using hx
     obtain⟨t,rfl⟩:=rx;exact⟨t,by simp[List.getD,hb']⟩
   . intro j hj;rw[e2] at hj;refine⟨?_,?_⟩
     . have:=hb ns[j] (Ot hj);have e3:ns.getD j 0=ns[j]:=by simp[List.getD,hj]
       show InLong (ns.getD j 0);rw[e3];exact⟨by omega,by omega⟩
     . rw[preSum_getD];have h1:=FY (ns.take (j+1)) fun x hx=>hb x (Pi hx);have h2:(ns.take (j+1)).length<=ns.length:=by rw[OP];omega
       exact⟨by omega,by omega⟩
   . refine⟨.int ns.sum,H,I.walked (l:=p) hm,⟨t',?_⟩,q⟩;rw[e2,preSum_getD,O2]
 . exact h.elim
def Itd(hi:Int)(n:Nat):It:=⟨fun i _=>i<n,fun i H x H'=>H'=H/\x=.int (hi-i),fun i _=>n<=i⟩
def iRngD(ta:TA):TI:=fun σ H R=>ta σ H fun vs H1=>∃ i j:Int,vs=[.int i,.int j,.int (-1)]/\(-(2^60)<=i/\i<2^60/\ -(2^60)<=j/\j<2^60)/\R (Itd i (i-j).toNat) H1
end
section
variable{K:Frag}{g:TG}{tb:TS}{D:Ends}{σ:St}{H:Hp}{ta:TA}{Q:VK}
def dv{k:Bool}:kInt [.bl k] H Q=Q (.int (if k then 1 else 0)) H:=rfl
def dw{i:Int}:kInt [.int i] H Q=Q (.int i) H:=rfl
def bS{i:Int}:pY (.int i) [] H Q=Q (.int (Builtin.Int.intBits i:Nat)) H:=rfl
def mL{p:Addr}{bs:List Bool}(hp:H p=↥(bs.map V.bl))(h:Q (.bl (bs.all id)) H):kAll [.ref p] H Q:=by
 show bnd (unL (H p)) _;rw[hp];exact bf (a:=bs.map V.bl) rfl ⟨bs,rfl,h⟩
def AZ{p:Addr}{ns:∅}(hp:H p=↥(ns.map V.int))(hb:∀ x∈ns,0<=x/\x<=1000000)(hn:ns.length<=1000000)(h:Q (.int ns.sum) H):kSum [.ref p] H Q:=by
 show bnd (unL (H p)) _;rw[hp];exact bf (a:=ns.map V.int) rfl ⟨ns,rfl,hb,hn,h⟩
def Jy{p:Addr}{xs:List V}{k:Int}(hp:H p=↥xs)(h0:0<=k)(h1:k<=1000)(hn:xs.length<=1)(h:∀ l,H l=none->Q (.ref l) (upd H l (.lst (List.replicate k.toNat xs).flatten))):cRepL (.ref p) (.int k) H Q:=by
 show bnd (unM (H p)) _;rw[hp];refine bf (a:=xs) rfl ⟨by omega,by omega,?_,h⟩;refine Ou (aJ (NS (QD _ hn) ?_));omega
def cM:tFor (iRngD ta) g tb D σ H=ta σ H fun vs H1=>∃ i j:Int,vs=[.int i,.int j,.int (-1)]/\(-(2^60)<=i/\i<2^60/\ -(2^60)<=j/\j<2^60)/\LoopR (Itd i (i-j).toNat) g tb D σ H1:=rfl
end
section
variable{X:Cx}
def Ite(K:Frag)(a:Addr):It:=
 ⟨fun i H=>∃ xs x,SqL K H a xs/\xs[i]? =some x,
  fun i H v H'=>∃ T x,v=.ref T/\H T=none/\H'=upd H T (.tup [.int i,x])/\∀ xs,SqL K H a xs->xs[i]? =some x,
  fun i H=>∃ xs,SqL K H a xs/\xs.length<=i⟩
def ESt(a e it:Addr)(i:Nat)(h:Heap):Prop:=(∃ old,IsEnum h e it i old)/\h.IsListIter it a i
def FZ{P:Program}{w:World}{K:Frag}{es:List Expr}{x1:Nat}{pos:Pos}(a e it:Addr):
  Turn P w K (.Tuple es x1 pos) (Ite K a) [e,it] e (ESt a e it) where
 mem:=by simp
 obj:=fun i h st c hc=>by
  obtain⟨⟨old,he⟩,⟨o1,e1,c1,f1⟩⟩:=st;simp only[N4,Pf,QT] at hc;rcases hc with rfl | rfl
  . exact⟨_,he,fun v z=>by have z':Data.fields _=Data.cell v:=z;cases z'⟩
  . exact⟨_,e1,fun v z=>by rw[f1] at z;cases z⟩
 keep:=fun i h h' st k=>by
  obtain⟨⟨old,he⟩,h1⟩:=st;exact⟨⟨old,k e (by simp) _ he⟩,h1.at fun o q=>k it (by simp) o q⟩
 item:=by
  intro X hP hw hK hc i Nz s σ H E I hf st hg;subst hP hw hK;obtain⟨xs,x,hq1,hx⟩:=hg;obtain⟨its1,rv1,p1,hz1⟩:=I.list hq1;obtain⟨u1,hu1,ru1⟩:=rv1.get hx;obtain⟨⟨old,he⟩,⟨o1,e1,c1,f1⟩⟩:=id st;have hne:e≠it:=Ju he e1 rfl c1 #[1];refine wpAny_pyNext_enum_item he ⟨o1,e1,c1,f1⟩ p1.isList (x:=u1) (by simpa using hu1) hne fun h' a1 a2 a3 a4 hk=>?_;refine⟨_,rfl,wpAny_letOwnedTupleGo_enum a1 fun h2 hz2 sb=>?_⟩;have hT:H s.heap.objs.size=none:=I.fresh;have lt:∀{c o},s.heap.get? c=some o->c≠s.heap.objs.size:=fun e=>Op (N6 e)
  have kp:∀ c o,c∉[e,it]->s.heap.get? c=some o->h2.get? c=some o:=fun c o hc q=>by
   simp only[N4,Pf,QT,not_or] at hc;exact sb.extBut _ _ hc.1 (hk c o hc.1 hc.2 q)
  have hTe:s.heap.objs.size≠e:=(lt he).symm;have gT:h2.get? s.heap.objs.size=some {cls:=.type "tuple",data:=.seq #[.int i s.toks,u1]}:=sb.extBut _ _ hTe a3;have nH:∀ c∈[e,it],H c=none:=fun c hc=>(hf c hc).1;refine⟨.ref s.heap.objs.size,upd H s.heap.objs.size (.tup [.int i,x]),I.call' (s':={s with heap:=h2,toks:=s.toks+1}) (ch:=[e,it]) rfl ⟨fun c o e n _ hx=>kp c o hx e,fun c o e n _ hx=>⟨o.slots,kp c o hx e⟩,fun c o e n _=>by rw[ar (lt e)];exact n,fun c o e hx=>⟨o,kp c o hx e⟩,fun c xs e=>by rw[ar (aH e hT)];exact e,fun c o u e=>by rw[ar (aH e hT)];exact e,fun c ps e=>⟨#[],by rw[ar (aH e hT),e];simp⟩⟩ ?_ I.bare ?_,rfl,⟨_,x,rfl,hT,rfl,fun zs hz'=>by rw[I.list_inj hz' hq1];exact hx⟩,?_,?_⟩
  . intro c ob e;by_cases hb:c=s.heap.objs.size
    . subst hb;rw[ao] at e;cases e;exact⟨by show(2:Nat)<=sizeLine;exact Ou (aJ #[1]),[.int i s.toks,u1],.cons ⟨_,rfl⟩ (.cons ru1 .nil),⟨_,gT,rfl,_,rfl⟩⟩
    . rw[ar hb] at e;refine(I.hok c ob e).stay (fun d w' hd g=>kp d w' ?_ g) (fun d g=>by rw[ar (aH g hT)];exact g) fun d xs g=>by rw[ar (aH g hT)];exact g
      intro hm;rcases hd with rfl | hd
      . rw[nH _ hm] at e;cases e
      . rw[nH _ hm] at hd;cases hd
  . intro c hc;obtain⟨f0,f1,f2,f3,f4,f5⟩:=hf c hc;exact⟨f3,f1,f4,f5⟩
  . exact⟨⟨_,hz2⟩,a2.extBut sb.extBut hne.symm⟩
  . intro c hc
    obtain⟨o,q⟩:∃ o,s.heap.get? c=some o:=by
     simp only[N4,Pf,QT] at hc;rcases hc with rfl | rfl
     . exact⟨_,he⟩
     . exact⟨_,e1⟩
    rw[ar (lt q)];exact(hf c hc).1
 done:=by
  intro X hP hw hK hc i Nz s σ H E I hf st hg;subst hP hw hK;obtain⟨xs,hq1,hx⟩:=hg;obtain⟨its1,rv1,p1,hz1⟩:=I.list hq1;have hl1:=rv1.length;obtain⟨⟨old,he⟩,⟨o1,e1,c1,f1⟩⟩:=id st;have hend:its1.toArray[i]? =none:=by simp;omega
  obtain⟨f0,f1',f2,f3,f4,f5⟩:=hf it (by simp);exact wpAny_pyNext_enum_end (I.ok.hd hc) he ⟨o1,e1,c1,f1⟩ p1.isList hend fun h' eb=>⟨rfl,I.turned (t':=s.toks) (fun b o hb e=>eb b o hb e) f0 f1' f3 f4 f5⟩
 self:=fun _ _ _ _ _ st h=>by
  obtain⟨⟨old,he⟩,_⟩:=st;exact wpAny_pyIter_enum he h
def iEnum(K:Frag)(ta:TA):TI:=fun σ H R=>ta σ H fun vs H1=>∃ a,vs=[.ref a]/\(∃ xs,SqL K H1 a xs)/\R (Ite K a) H1
def Bo:bootBuiltins "enumerate"=some (.type "enumerate"):=by decide+kernel
def DK{es:List Expr}{x1:Nat}{tpos:Pos}{e1:Expr}{ta:TA}{p pos:Pos}(hg:Gl X "enumerate")(hm:X.mg "enumerate"=none)(ha:PA X [e1] ta)(hs:starEach [e1] X.env=[(false,eval e1 X.env)]:=by rfl):
  PI X (.Tuple es x1 tpos) (.Call (.Name "enumerate" p) [e1] [] pos) (iEnum X.K ta):=by
 intro Nz s σ H R I h;refine Call_ (gF I hg hm Bo (OH (thn (ha pos Nz s σ H _ I h) fun us s1 ⟨vs,H1,I1,r1,q1⟩=>?_) hs rfl));obtain⟨a,rfl,⟨xs,hq1⟩,q⟩:=q1;obtain⟨u1,rfl,ru1⟩:=fj r1;cases ru1;obtain⟨its1,rv1,p1,hz1⟩:=I1.list hq1;refine call_enumerate_list p1.isList fun h' a1 a2 a3 hk=>?_;refine wpAny_pyIter_enum a1 ?_;have I2:Inv X Nz σ H1 {s1 with heap:=h',toks:=s1.toks}:=I1.kept hk;refine⟨s1.heap.objs.size+1,[s1.heap.objs.size+1,s1.heap.objs.size],ESt a (s1.heap.objs.size+1) s1.heap.objs.size,Ite X.K a,H1,rfl,I2,FZ a (s1.heap.objs.size+1) s1.heap.objs.size,⟨⟨_,a1⟩,a2⟩,fun c hc=>?_,q⟩
 have hge:s1.heap.objs.size<=c:=by
  simp only[N4,Pf,QT] at hc;rcases hc with rfl | rfl <;> omega
 exact I1.fpOk hge (I1.hok.fresh hge)
end
section
variable{K:Frag}{g:TG}{tb:TS}{D:Ends}{σ:St}{H:Hp}{ta:TA}{Q:VK}{ix:List (Option Nat)}{tt:TT}{te:TE}{k:Nat}
def dy:tFor (iEnum K ta) g tb D σ H=ta σ H fun vs H1=>∃ a,vs=[.ref a]/\(∃ xs,SqL K H1 a xs)/\LoopR (Ite K a) g tb D σ H1:=rfl
def cN:tComp ix (iEnum K ta) g tt te σ H Q=ta σ H fun vs H1=>∃ a,vs=[.ref a]/\(∃ xs,SqL K H1 a xs)/\CompR (Ite K a) g tt te (fun l H'=>Q (.ref l) H') (subσ ix σ) H1:=rfl
def bT:sComp k ix (iEnum K ta) g tt te D σ H=ta σ H fun vs H1=>∃ a,vs=[.ref a]/\(∃ xs,SqL K H1 a xs)/\CompR (Ite K a) g tt te (fun l H'=>D.nx (σ.set k ↑l) H') (subσ ix σ) H1:=rfl
def F0 {a:Addr} {xs:List V} {fin:Addr->Hp->Prop} {σ0:St} {H1:Hp} (Pv:Addr->Nat->St->Hp->Prop) (h0:∀ l,H1 l=none->Pv l 0 σ0 (upd H1 l (.lst []))) (hq:∀ l i σ H,H1 l=none->i<=xs.length->Pv l i σ H->SqL K H a xs)
  (hs:∀ l i x T σ H,H1 l=none->xs[i]? =some x->Pv l i σ H->H T=none->g (.ref T) σ (upd H T (.tup [.int i,x])) fun σ2 H3=>tt σ2 H3 fun b H4=>if b=true then te σ2 H4 fun y H5=>∃ ys,H5 l=↥ys/\ys.length<sizeLine/\Pv l (i+1) σ2 (upd H5 l (.lst (ys++[y]))) else Pv l (i+1) σ2 H4)
  (hd:∀ l σ H,H1 l=none->Pv l xs.length σ H->fin l H):CompR (Ite K a) g tt te fin σ0 H1:=by
 intro l hl0;refine⟨fun i m σ H=>m=xs.length-i/\i<=xs.length/\Pv l i σ H,⟨xs.length,by simp,Ox _,h0 l hl0⟩,?_⟩;rintro i m σ H ⟨rfl,hi,p⟩;have q:=hq l i σ H hl0 hi p;by_cases hlt:i<xs.length
 . refine .inr ⟨⟨xs,xs[i],q,by simp[hlt]⟩,Pv l (i+1),fun σ' H' p'=>⟨xs.length - (i+1),by omega,rfl,hlt,p'⟩,fun v H' y=>?_⟩;obtain⟨T,x,rfl,hT,rfl,e⟩:=y;exact hs l i x T σ _ hl0 (e xs q) p hT
 . have e:i=xs.length:=by omega
   subst e;exact .inl ⟨⟨xs,q,NU _⟩,hd l σ H hl0 p⟩
theorem Ey {a:Addr} {xs:List V} {fin:Addr->Hp->Prop} {σ0:St} {H1:Hp} {k1 k2:Nat} (b:Nat->Bool) (f:Nat->V) (hn:xs.length<=900) (hne:k1≠k2) (hq:SqL K H1 a xs)
  (ht:∀(i:Nat) x H R,xs[i]? =some x->Same H1 H->(∀ H',Same H H'->R (b i) H')->tt ((σ0.set k1 ⇑(i:Int)).set k2 (some x)) H R)
  (he:∀(i:Nat) x H Q,xs[i]? =some x->b i=true->Same H1 H->(∀ H',Same H H'->Q (f i) H')->te ((σ0.set k1 ⇑(i:Int)).set k2 (some x)) H Q)
  (hd:∀ l H,H1 l=none->Same H1 H->H l=↥(((List.range xs.length).filter b).map f)->fin l H):
  CompR (Ite K a) (gTup K 2 (gCons (gName k1) (gCons (gName k2) gNil))) tt te fin σ0 H1:=by
 refine F0 (xs:=xs) (fun l i σ H=>(σ=σ0\/∃ c1 c2,σ=(σ0.set k1 c1).set k2 c2)/\Same H1 H/\H l=↥(((List.range i).filter b).map f)) (fun l hl=>⟨.inl rfl,fun b u e=>by rw[ar (aH e hl)];exact e,by rw[ao];rfl⟩) (fun l i σ H _ _ p=>p.2.1.seq hq) ?_ (fun l σ H hl p=>hd l H hl p.2.1 p.2.2);rintro l i x T σ H hl hx ⟨hσ,s1,el⟩ hT;have hi:i<xs.length:=(NR.mp hx).1;have sT:Same H (upd H T (.tup [.int i,x])):=fun b u e=>by rw[ar (aH e hT)];exact e
 refine⟨T,_,rfl,SqT.of ao,rfl,_,_,rfl,_,_,rfl,rfl,?_⟩
 have e:(σ.set k1 ⇑i).set k2 (some x)=(σ0.set k1 ⇑i).set k2 (some x):=by
  rcases hσ with rfl | ⟨c1,c2,rfl⟩
  . rfl
  . rw[List.set_comm _ _ (Qz hne),PD,PD,List.set_comm _ _ hne]
 show tt ((σ.set k1 ⇑i).set k2 (some x)) _ _;rw[e];refine ht i x _ _ hx (s1.trans sT) fun H2 s2=>?_;have el2:=s2 _ _ (sT _ _ el);have s12:=(s1.trans sT).trans s2;have own:∀{H3:Hp} {o:HO},Same H1 H3->Same H1 (upd H3 l o):=fun s b u e=>by rw[ar (aH e hl)];exact s b u e
 have NF:∀ i,i<=900->(((List.range i).filter b).map f).length<sizeLine:=fun i hi=>by
  rw[NI];refine aJ (NS (NX b _) ?_);rw[OK];omega
 cases hb:b i with
 | false=>
  rw[Ob NW];refine⟨.inr ⟨_,_,rfl⟩,s12,?_⟩;rw[OV,OD,OI,hb]
  simpa using el2
 | true=>
  rw[Oh rfl];refine he i x H2 _ hx hb s12 fun H3 s3=>⟨_,s3 _ _ el2,NF i #[0],.inr ⟨_,_,rfl⟩,own (s12.trans s3),?_⟩;rw[ao,OV,OD,OI,hb];simp
end
def rngL(i j:Int):∅:=(List.range (j-i).toNat).map fun(k:Nat)=>i+(k:Int)
def kZ(i j:Int):(rngL i j).length=(j-i).toNat:=by unfold rngL;simp
theorem vj:∀{xs:List V} {us:List Value},xs.length=us.length->(∀(i:Nat) x u,xs[i]? =some x->us[i]? =some u->RelV x u)->Vals xs us
 | [],[],_,_=>.nil
 | [],_::_,h,_=>by simp at h
 | _::_,[],h,_=>by simp at h
 | x::xs,u::us,h,f=>.cons (f 0 x u rfl rfl) (vj (by simpa using h) fun i y e h1 h2=>f (i+1) y e (by simpa using h1) (by simpa using h2))
def G7{i j:Int}{acc:Array Value}(h:ItemsOf (fun k v=>∃ t,v=.int (i+k*1) t) acc (j-i).toNat):Vals ((rngL i j).map V.int) acc.toList:=by
 refine vj (by rw[NI,kZ,Ov];exact h.1.symm) fun k x u hx hu=>?_;obtain⟨t,rfl⟩:=h.2 k u (by simpa using hu);unfold rngL at hx;rw[OE,NN] at hx;by_cases hk:k < (j-i).toNat
 . rw[OX hk] at hx;cases hx;exact⟨t,by rw[Int.mul_one]⟩
 . rw[Od (by simpa using hk)] at hx;cases hx
section
variable{X:Cx}
def lV(ta:TA):TE:=fun σ H Q=>ta σ H fun vs H1=>∃ j:Int,vs=[.int j]/\ -(2^60)<=j/\j<=1000/\∀ l,H1 l=none->Q (.ref l) (upd H1 l (.lst ((rngL 0 j).map V.int)))
def F1(ta:TA):TE:=fun σ H Q=>ta σ H fun vs H1=>∃ i j:Int,vs=[.int i,.int j]/\(0<=i/\i<=1000/\ -(2^60)<=j/\j<=1000)/\∀ l,H1 l=none->Q (.ref l) (upd H1 l (.lst ((rngL i j).map V.int)))
def G8 {Nz:List (Addr × Obj)} {σ:St} {H1:Hp} {s1:Shared} {Q:VK} {i j:Int} {t u v:Tok} {tk:Nat} {A:Around} {E:Value->Shared->Prop} (hh:A.handled=none) (I1:Inv X Nz σ H1 s1) (h1:0<=i) (h2:i<=1000) (h3: -(2^60)<=j) (h4:j<=1000)
  (q:∀ l,H1 l=none->Q (.ref l) (upd H1 l (.lst ((rngL i j).map V.int)))):
  wpAny (model X.prog X.w) A (call (.type "list") [.ref s1.heap.objs.size]) (EP X Nz σ Q) E {s1 with heap:=s1.heap.push {cls:=.type "range",data:=.fields #[.int i t,.int j u,.int 1 v]},toks:=tk}:=by
 have I2:Inv X Nz σ H1 {s1 with heap:=s1.heap.push {cls:=.type "range",data:=.fields #[.int i t,.int j u,.int 1 v]},toks:=tk}:=I1.kept fun b o e=>NQ _ e;refine call_list_range (n:=(j-i).toNat) hh (IsRange.new ..) (small_one #[0] #[0] #[0] #[0]) (by rw[rangeSize_one];split <;> omega) #[0] fun h' tk' acc' c' old hS' hacc=>?_;have NF:((rngL i j).map V.int).length<=sizeLine:=by rw[NI,kZ];exact Ou (aJ #[0])
 exact⟨.ref _,_,I2.laid (t':=tk') (o:=.lst ((rngL i j).map V.int)) old (NU _) ⟨NF,acc'.toList,c',G7 hacc,hS'⟩,rfl,q _ (I2.hok.fresh (NU _))⟩
theorem pj {a:Expr} {ta:TA} {p p2 pos pos2:Pos} (hc:X.calm=true) (hgl:Gl X "list") (hgr:Gl X "range") (hl:X.mg "list"=none) (hr:X.mg "range"=none) (ha:PA X [a] ta)
  (hs1:starEach [.Call (.Name "range" p2) [a] [] pos2] X.env=[(false,eval (.Call (.Name "range" p2) [a] [] pos2) X.env)]:=by rfl) (hs:starEach [a] X.env=[(false,eval a X.env)]:=by rfl):
  PE X (.Call (.Name "list" p) [.Call (.Name "range" p2) [a] [] pos2] [] pos) (lV ta):=by
 intro Nz s σ H Q I h;refine OZ (gF I hgl hl fg ?_ #[1] #[1]);refine OH ?_ hs1 rfl;rw[hs1];show wpAny _ _ (spliced [(false,eval (.Call (.Name "range" p2) [a] [] pos2) X.env)]) _ _ s;refine Pt ?_;refine Call_ (gF I hgr hr boot_range (OH (thn (ha pos2 Nz s σ H _ I h) fun us s1 ⟨vs,H1,I1,r1,q1⟩=>?_) hs rfl));obtain⟨j,e,q1,q2,q⟩:=q1;subst e
 cases r1 with
 | cons r rr=>
  cases rr;obtain⟨t,rfl⟩:=r;refine call_range_1 ?_;refine PB ?_;exact G8 (I.ok.hd hc) I1 #[0] #[0] q1 q2 q
end
section
variable{σ:St}{H:Hp}{Q:VK}{ta:TA}
def cO:lV ta σ H Q=ta σ H fun vs H1=>∃ j:Int,vs=[.int j]/\ -(2^60)<=j/\j<=1000/\∀ l,H1 l=none->Q (.ref l) (upd H1 l (.lst ((rngL 0 j).map V.int))):=rfl
def cP:F1 ta σ H Q=ta σ H fun vs H1=>∃ i j:Int,vs=[.int i,.int j]/\(0<=i/\i<=1000/\ -(2^60)<=j/\j<=1000)/\∀ l,H1 l=none->Q (.ref l) (upd H1 l (.lst ((rngL i j).map V.int))):=rfl
end
end L2
namespace L2
def besL(h w c:Int):∅:=(if 0<c/w then [c-w] else [])++(if 0<c%w then [c-1] else [])++(if c%w<w-1 then [c+1] else [])++(if c/w<h-1 then [c+w] else [])
inductive RC(h w:Int)(cs:∅)(st:Int):Int->Prop
 | start:st∈cs->RC h w cs st st
 | step {x y:Int}:RC h w cs st x->y∈besL h w x->y∈cs->RC h w cs st y
variable{h w x:Int}{cs:∅}
def RC.mem{st:Int}(r:RC h w cs st x):x∈cs:=by cases r <;> assumption
theorem RC.st{st:Int}(r:RC h w cs st x):st∈cs:=by
 induction r with
 | start h=>exact h
 | step _ _ _ ih=>exact ih
theorem iG:∀{xs ys:∅},xs.Nodup->(∀ x∈xs,x∈ys)->xs.length<=ys.length
 | [],_,_,_=>Ox _
 | x::xs,ys,nd,h=>by
  have hx:=h x Oc;have nd':=O7.mp nd
  have ih:=iG (xs:=xs) (ys:=ys.erase x) nd'.2 fun y hy=>by
   have ne:y≠x:=fun e=>nd'.1 (e ▸ hy);exact(List.mem_erase_of_ne ne).mpr (h y (N3 _ hy))
  rw[List.length_erase_of_mem hx] at ih;have:0<ys.length:=List.length_pos_of_mem hx;simp only[Oq];omega
structure BI(h w:Int)(cs:∅)(st:Int)(fs:∅)(pl:Nat):Prop where
 nd:fs.Nodup
 rc:∀ x∈fs,RC h w cs st x
 hst:st∈fs
 le:pl<=fs.length
 cl:∀(i:Nat) (x y:Int),i<pl->fs[i]? =some x->y∈besL h w x->y∈cs->y∈fs
variable{pl:Nat}
def BI.len{st:Int}{fs:∅}(b:BI h w cs st fs pl):fs.length<=cs.length:=iG b.nd fun x hx=>(b.rc x hx).mem
def BI.start{st:Int}(hs:st∈cs):BI h w cs st [st] 0:=
 ⟨by simp,fun x hx=>by rw[Oa.mp hx];exact .start hs,by simp,Ox _,fun i x y hi=>absurd hi (RI _)⟩
theorem BI.done{st:Int}{fs:∅}(b:BI h w cs st fs pl)(e:¬ pl<fs.length)(x:Int):x∈fs↔RC h w cs st x:=by
 refine⟨b.rc x,fun r=>?_⟩
 induction r with
 | start _=>exact b.hst
 | step r hy hc ih=>
  obtain⟨i,hi⟩:=List.getElem?_of_mem ih;have hlt:i<fs.length:=(NR.mp hi).1;exact b.cl i _ _ #[0] hi hy hc
def addC(cs fs:∅)(y:Int):∅:=if y∈cs/\¬ y∈fs then fs++[y] else fs
structure BJ(h w:Int)(cs:∅)(st:Int)(f0:∅)(pl:Nat)(bs:∅)(fs:∅):Prop where
 nd:fs.Nodup
 rc:∀ x∈fs,RC h w cs st x
 pre:f0 <+:fs
 al:∀ y∈bs,y∈cs->y∈fs
def BJ.zero{st:Int}{fs:∅}(b:BI h w cs st fs pl):BJ h w cs st fs pl [] fs:=⟨b.nd,b.rc,List.prefix_refl _,fun y hy=>nomatch hy⟩
def BJ.more{st:Int}{f0 fs bs:∅}{y:Int}(j:BJ h w cs st f0 pl bs fs)(hx:RC h w cs st x)(hy:y∈besL h w x):BJ h w cs st f0 pl (bs++[y]) (addC cs fs y):=by
 unfold addC
 split
 . rename_i hc
   refine⟨?_,fun z hz=>?_,j.pre.trans (List.prefix_append _ _),fun z hz hzc=>?_⟩
   . refine Pk.mpr ⟨j.nd,by simp,fun a ha b hb=>?_⟩;rw[Oa.mp hb];intro e;exact hc.2 (e ▸ ha)
   . rcases Oj.mp hz with hz | hz
     . exact j.rc z hz
     . rw[Oa.mp hz];exact .step hx hy hc.1
   . rcases Oj.mp hz with hz | hz
     . exact QC _ (j.al z hz hzc)
     . rw[Oa.mp hz];simp
 . rename_i hc
   refine⟨j.nd,j.rc,j.pre,fun z hz hzc=>?_⟩;rcases Oj.mp hz with hz | hz
   . exact j.al z hz hzc
   . rw[Oa.mp hz] at hzc ⊢;exact Decidable.byContradiction fun n=>hc ⟨hzc,n⟩
def BJ.done{st:Int}{f0 fs:∅}(b:BI h w cs st f0 pl)(hx:f0[pl]? =some x)(j:BJ h w cs st f0 pl (besL h w x) fs):BI h w cs st fs (pl+1):=by
 have hlt:pl<f0.length:=(NR.mp hx).1;have hle:=j.pre.length_le
 have get:∀ i,i<f0.length->fs[i]? =f0[i]? :=fun i hi=>by
  obtain⟨t,e⟩:=j.pre;rw[← e,OG hi]
 refine⟨j.nd,j.rc,j.pre.subset b.hst,by omega,fun i z y hi hz hy hc=>?_⟩;rw[get i #[0]] at hz;by_cases e:i<pl
 . exact j.pre.subset (b.cl i z y e hz hy hc)
 . have:i=pl:=by omega
   subst this;rw[hx] at hz;cases hz;exact j.al y hy hc
def F2{rs fs:∅}(p:rs.Perm fs)(s:rs.Pairwise (· <=·))(nd:fs.Nodup):rs.Pairwise (· < ·):=by
 have nd':rs.Nodup:=p.nodup_iff.mpr nd;refine(s.and nd').imp ?_;intro a b h;have:=h.1;have:=h.2;omega
theorem xc:∀{xs ys:∅},xs.Pairwise (· < ·)->ys.Pairwise (· < ·)->(∀ z,z∈xs↔z∈ys)->xs=ys
 | [],[],_,_,_=>rfl
 | [],y::ys,_,_,h=>absurd ((h y).mpr Oc) (fun q=>nomatch q)
 | x::xs,[],_,_,h=>absurd ((h x).mp Oc) (fun q=>nomatch q)
 | x::xs,y::ys,hx,hy,h=>by
  have hx':=List.pairwise_cons.mp hx;have hy':=List.pairwise_cons.mp hy
  have e:x=y:=by
   rcases N4.mp ((h x).mp Oc) with e | m1
   . exact e
   . rcases N4.mp ((h y).mpr Oc) with e | m2
     . exact e.symm
     . have:=hy'.1 x m1;have:=hx'.1 y m2;omega
  subst e;refine congrArg (x::·) (xc hx'.2 hy'.2 fun z=>⟨fun m=>?_,fun m=>?_⟩)
  . rcases N4.mp ((h z).mp (N3 _ m)) with e | q
    . have:=hx'.1 z m;omega
    . exact q
  . rcases N4.mp ((h z).mpr (N3 _ m)) with e | q
    . have:=hy'.1 z m;omega
    . exact q
end L2
namespace L2
open PySem PySem.Spec PyProof.Rows
def wk9(t:String):Lean.MacroM Lean.Syntax:=do
 let x<-(t.splitOn " ").toArray.mapM fun s=>`(Lean.Parser.Tactic.simpLemma|$(Lean.mkIdent s.toName):term)
 `(tactic|(first|simp only[$x,*]|dsimp only|skip))
def ws1:String:="az b9 bK aQ cq cr w_c e9 b5 cu ca cw w_b w_not dE gg cx cy dF c7 bM f9 cc dG c9 fw dH ce cA cB cC bO bP bv bA bB bh dI dJ dL dM dN dO dP dQ dR dS dU dW gh cD bC cE gi cF bQ bD dX dY cG cf cH List.getElem?_cons_zero List.getElem?_cons_succ Option.some.injEq exists_eq_left' exists_eq_left List.set_cons_zero List.set_cons_succ bo V.int.injEq V.bl.injEq V.ref.injEq V.str.injEq List.nil_append List.cons_append"
local macro_rules|`(tactic|walk_at "w")=>wk9 ws1
local macro_rules|`(tactic|symm)=>`(tactic|walk_at "w")
def aW{n:Nat}(h:n<=1000):n<=sizeLine:=Ou (aJ h)
def lnR{n:Nat}(h:Nat.ble n 1000=true):n<=sizeLine:=aW (ON h)
def IsFl(H:Hp)(a:Addr)(h w g:Int):Prop:=H a=some (.tup [.int h,.int w,.int g])
variable{H:Hp}{p:Addr}
def Same.laid{H':Hp}{o:HO}(s:Same H H')(h:H' p=none):Same H (upd H' p o):=fun b u e=>by
 rw[ar (aH (s b u e) h)];exact s b u e
def a9{U:Addr}(O:HO)(h:H U=none):∃ z,upd H U O=z/\Same H z/\z U=some O:=⟨_,rfl,(NK H).laid h,ao⟩
def Same.own{H':Hp}{o:HO}(s:Same H H')(h:H p=none):Same H (upd H' p o):=fun b u e=>by
 rw[ar (aH e h)];exact s b u e
variable{l:∅}{i:Nat}
def k9{x:Int}(h:l[i]? =some x):l.getD i 0=x:=by
 rw[List.getD,h];rfl
variable{ns:∅}
def vX{k:Int}(h0:0<=k)(h1:k<ns.length):atI (ns.map V.int) k=⇑(ns.getD k.toNat 0):=by
 have e:((k.toNat:Nat):Int)=k:=Int.toNat_of_nonneg h0;have hlt:k.toNat<ns.length:=by omega
 have:(ns.map V.int)[k.toNat]? =⇑(ns.getD k.toNat 0):=by
  rw[NN,NJ hlt];simp[List.getD,hlt]
 have q:=f7 this;rw[e] at q;exact q
def br{α:Type}(l:List α):l.filter (fun _=>true)=l:=Pp.mpr fun _ _=>rfl
theorem bi{y:V}(h:(l.map V.int)[i]? =some y):∃ z,l[i]? =some z/\y=.int z:=by
 rw[NN] at h
 cases e:l[i]? with
 | none=>rw[e] at h;cases h
 | some z=>rw[e] at h;cases h;exact⟨z,rfl,rfl⟩
theorem lM{l:List Addr}{y:V}(h:(l.map V.ref)[i]? =some y):∃ z,l[i]? =some z/\y=.ref z:=by
 rw[NN] at h
 cases e:l[i]? with
 | none=>rw[e] at h;cases h
 | some z=>rw[e] at h;cases h;exact⟨z,rfl,rfl⟩
def ox{h w:Int}(h0:1<=h)(h1:h<=6):CMul h w:=.inl ⟨by omega,by omega⟩
def jk{ps:List Addr}{k:Int}(h0:0<=k)(h:ps[k.toNat]? =some p):atI (ps.map V.ref) k=↑p:=by
 have e:((k.toNat:Nat):Int)=k:=Int.toNat_of_nonneg h0;have q0:(ps.map V.ref)[k.toNat]? =↑p:=by rw[NN,h];rfl
 have q:=f7 q0;rw[e] at q;exact q
section
variable{k:Nat}{lo:Int}{n:Nat}{tt:TT}{te:TE}{fin:Addr->Hp->Prop}{σ0:St}{H1:Hp}{K:Frag}{a:Addr}
def ng{n i:Nat}(b:Nat->Bool)(h:i<n)(hn:n<=900):((List.range i).filter b).length<=900:=by
 have:=NX b (List.range i);rw[OK] at this;omega
theorem vk (b:Nat->Bool) (f:Nat->V) (hn:n<=900)
  (ht:∀ i H R,i<n->Same H1 H->(∀ H',Same H H'->R (b i) H')->tt (σ0.set k ⇑(lo+i)) H R)
  (he:∀ i H Q,i<n->b i=true->Same H1 H->(∀ H',Same H H'->Q (f i) H')->te (σ0.set k ⇑(lo+i)) H Q)
  (hd:∀ l H,H1 l=none->Same H1 H->H l=↥(((List.range n).filter b).map f)->fin l H):
  CompR (Itr lo n) (gName k) tt te fin σ0 H1:=by
 refine qL (fun l i σ H=>(σ=σ0\/∃ cv,σ=σ0.set k cv)/\Same H1 H/\H l=↥(((List.range i).filter b).map f)) (fun l hl=>⟨.inl rfl,(NK H1).laid hl,by rw[ao];rfl⟩) ?_ (fun l σ H hl p=>hd l H hl p.2.1 p.2.2);rintro l i σ H hl hi ⟨hσ,s1,el⟩;rw[aQ]
 have e:σ.set k ⇑(lo+i)=σ0.set k ⇑(lo+i):=by
  rcases hσ with rfl | ⟨cv,rfl⟩
  . rfl
  . exact PD ..
 rw[e];refine ht i H _ hi s1 fun H2 s2=>?_;have el2:=s2 _ _ el
 cases hb:b i with
 | false=>
  rw[Ob NW];refine⟨.inr ⟨_,rfl⟩,s1.trans s2,?_⟩;rw[OV,OD,OI,hb]
  simpa using el2
 | true=>
  rw[Oh rfl];refine he i H2 _ hi hb (s1.trans s2) fun H3 s3=>⟨_,s3 _ _ el2,by rw[NI];exact aJ (NS (ng b hi hn) #[1]),.inr ⟨_,rfl⟩,((s1.trans s2).trans s3).own hl,?_⟩;rw[ao,OV,OD,OI,hb];simp
theorem cJ {xs:List V} (b:Nat->Bool) (f:Nat->V) (hn:xs.length<=900) (hq:SqL K H1 a xs)
  (ht:∀ i x H R,xs[i]? =some x->Same H1 H->(∀ H',Same H H'->R (b i) H')->tt (σ0.set k (some x)) H R)
  (he:∀ i x H Q,xs[i]? =some x->b i=true->Same H1 H->(∀ H',Same H H'->Q (f i) H')->te (σ0.set k (some x)) H Q)
  (hd:∀ l H,H1 l=none->Same H1 H->H l=↥(((List.range xs.length).filter b).map f)->fin l H):
  CompR (Itl K a) (gName k) tt te fin σ0 H1:=by
 refine sI (xs:=xs) (fun l i σ H=>(σ=σ0\/∃ cv,σ=σ0.set k cv)/\Same H1 H/\H l=↥(((List.range i).filter b).map f)) (fun l hl=>⟨.inl rfl,(NK H1).laid hl,by rw[ao];rfl⟩) (fun l i σ H _ _ p=>p.2.1.seq hq) ?_ (fun l σ H hl p=>hd l H hl p.2.1 p.2.2);rintro l i x σ H hl hx ⟨hσ,s1,el⟩;have hi:i<xs.length:=(NR.mp hx).1;rw[aQ]
 have e:σ.set k (some x)=σ0.set k (some x):=by
  rcases hσ with rfl | ⟨cv,rfl⟩
  . rfl
  . exact PD ..
 rw[e];refine ht i x H _ hx s1 fun H2 s2=>?_;have el2:=s2 _ _ el
 cases hb:b i with
 | false=>
  rw[Ob NW];refine⟨.inr ⟨_,rfl⟩,s1.trans s2,?_⟩;rw[OV,OD,OI,hb]
  simpa using el2
 | true=>
  rw[Oh rfl];refine he i x H2 _ hx hb (s1.trans s2) fun H3 s3=>⟨_,s3 _ _ el2,by rw[NI];exact aJ (NS (ng b hi hn) #[1]),.inr ⟨_,rfl⟩,((s1.trans s2).trans s3).own hl,?_⟩;rw[ao,OV,OD,OI,hb];simp
def d4 (b:Nat->Bool) (f:Nat->Int) (hn:n<=900)
  (ht:∀ i H R,i<n->Same H1 H->(∀ H',Same H H'->R (b i) H')->tt (σ0.set k ⇑(lo+i)) H R)
  (he:∀ i H Q,i<n->b i=true->Same H1 H->(∀ H',Same H H'->Q (.int (f i)) H')->te (σ0.set k ⇑(lo+i)) H Q)
  (hd:∀ l H,H1 l=none->Same H1 H->H l=↥((((List.range n).filter b).map f).map V.int)->fin l H):
  CompR (Itr lo n) (gName k) tt te fin σ0 H1:=
 vk b (fun i=>.int (f i)) hn ht he fun l H hl s1 el=>hd l H hl s1 (by rw[OE];exact el)
def F3(b:Int->Bool)(f:Int->Int)(xs:∅):((List.range xs.length).filter fun i=>b (xs.getD i 0)).map (fun i=>V.int (f (xs.getD i 0)))=((xs.filter b).map f).map V.int:=by
 have e:xs=(List.range xs.length).map fun i=>xs.getD i 0:=by
  refine O5 fun i=>?_;rw[NN];by_cases h:i<xs.length
  . rw[OX h,NJ h];simp[List.getD,h]
  . rw[Od #[0],Od (by simpa using h)];rfl
 conv=>rhs;rw[e]
 rw[List.filter_map,OE,OE];rfl
def aT {xs:∅} (b:Int->Bool) (f:Int->Int) (hn:xs.length<=900) (hq:SqL K H1 a (xs.map V.int))
  (ht:∀ x H R,x∈xs->Same H1 H->(∀ H',Same H H'->R (b x) H')->tt (σ0.set k ⇑x) H R)
  (he:∀ x H Q,x∈xs->b x=true->Same H1 H->(∀ H',Same H H'->Q (.int (f x)) H')->te (σ0.set k ⇑x) H Q)
  (hd:∀ l H,H1 l=none->Same H1 H->H l=↥(((xs.filter b).map f).map V.int)->fin l H):
  CompR (Itl K a) (gName k) tt te fin σ0 H1:=by
 refine cJ (xs:=xs.map V.int) (fun i=>b (xs.getD i 0)) (fun i=>.int (f (xs.getD i 0))) (by rw[NI];exact hn) hq ?_ ?_ ?_
 . intro i x H R hx s1 h;obtain⟨z,hz,rfl⟩:=bi hx;rw[k9 hz] at h;exact ht z H R (NV hz) s1 h
 . intro i x H Q hx hb s1 h;obtain⟨z,hz,rfl⟩:=bi hx;rw[k9 hz] at h hb;exact he z H Q (NV hz) hb s1 h
 . intro l H hl s1 el;refine hd l H hl s1 ?_;rw[NI] at el;rw[el,F3]
structure NewAt(H1 H:Hp)(l:Addr)(as:List Addr)(os:List HO):Prop where
 len:as.length=os.length
 nd:as.Nodup
 nl:l∉as
 fr:∀ a∈as,H1 a=none
 at_:∀(j:Nat) (a:Addr) (o:HO),as[j]? =some a->os[j]? =some o->H a=some o
def NewAt.nil{H1 H:Hp}{l:Addr}:NewAt H1 H l [] [] where
 len:=rfl
 nd:=Qp
 nl:=by simp
 fr:=fun a h=>nomatch h
 at_:=fun j a o h=>by simp at h
def NewAt.same{H1 H H':Hp}{l:Addr}{as:List Addr}{os:List HO}(x:NewAt H1 H l as os)(s:Same H H'):NewAt H1 H' l as os:=
 ⟨x.len,x.nd,x.nl,x.fr,fun j a o h1 h2=>s _ _ (x.at_ j a o h1 h2)⟩
def NewAt.mem{H1 H:Hp}{l:Addr}{as:List Addr}{os:List HO}(x:NewAt H1 H l as os){a:Addr}(h:a∈as):∃ o,H a=some o:=by
 obtain⟨j,hj,e⟩:=PC.mp h;have hj2:j<os.length:=by rw[← x.len];exact hj
 exact⟨os[j],x.at_ j a os[j] (by rw[NJ hj,e]) (NJ hj2)⟩
def NewAt.more{H1 H H2:Hp}{l p:Addr}{as:List Addr}{os:List HO}{o u:HO}(x:NewAt H1 H l as os)(s1:Same H1 H)(s:Same H H2)(hp:H p=none)(e:H2 p=some o)(hl:H l=some u)(o':HO):NewAt H1 (upd H2 l o') l (as++[p]) (os++[o]):=by
 have npl:p≠l:=fun z=>by rw[z,hl] at hp;cases hp
 refine⟨by simp[x.len],?_,?_,?_,?_⟩
 . refine Pk.mpr ⟨x.nd,by simp,fun a ha b hb z=>?_⟩;rw[Oa.mp hb] at z;obtain⟨o2,e2⟩:=x.mem ha;rw[z,hp] at e2;cases e2
 . intro hm;rcases Oj.mp hm with hm | hm
   . exact x.nl hm
   . exact npl (Oa.mp hm).symm
 . intro a ha;rcases Oj.mp ha with ha | ha
   . exact x.fr a ha
   . rw[Oa.mp ha]
     cases q:H1 p with
     | none=>rfl
     | some v=>rw[s1 _ _ q] at hp;cases hp
 . intro j a o2 h1 h2;have NF:=x.len;by_cases hj:j<as.length
   . rw[OG hj] at h1;rw[OG #[0]] at h2;have nal:a≠l:=fun z=>x.nl (z ▸ NV h1);rw[ar nal];exact s _ _ (x.at_ j a o2 h1 h2)
   . rw[OT #[0]] at h1;rw[OT #[0]] at h2
     have e0:j-as.length=0:=by
      have:=(NR.mp h1).1;simp at this;omega
     rw[e0] at h1;rw[show j-os.length=0 by omega] at h2;simp at h1 h2;subst h1 h2;rw[ar npl];exact e
theorem C9 (b:Nat->Bool) (o:Nat->HO) (hn:n<=900)
  (ht:∀ i H R,i<n->Same H1 H->(∀ H',Same H H'->R (b i) H')->tt (σ0.set k ⇑(lo+i)) H R)
  (he:∀ i H Q,i<n->b i=true->Same H1 H->(∀ a H',Same H H'->H a=none->H' a=some (o i)->Q (.ref a) H')->te (σ0.set k ⇑(lo+i)) H Q)
  (hd:∀ l as H,H1 l=none->Same H1 H->H l=↥(as.map V.ref)->NewAt H1 H l as (((List.range n).filter b).map o)->fin l H):
  CompR (Itr lo n) (gName k) tt te fin σ0 H1:=by
 refine qL (fun l i σ H=>(σ=σ0\/∃ cv,σ=σ0.set k cv)/\Same H1 H/\∃ as:List Addr,H l=↥(as.map V.ref)/\NewAt H1 H l as (((List.range i).filter b).map o)) (fun l hl=>⟨.inl rfl,(NK H1).laid hl,[],by rw[ao];rfl,NewAt.nil⟩) ?_ (fun l σ H hl ⟨_,s1,as,el,x⟩=>hd l as H hl s1 el x);rintro l i σ H hl hi ⟨hσ,s1,as,el,x⟩;rw[aQ]
 have e:σ.set k ⇑(lo+i)=σ0.set k ⇑(lo+i):=by
  rcases hσ with rfl | ⟨cv,rfl⟩
  . rfl
  . exact PD ..
 rw[e];refine ht i H _ hi s1 fun H2 s2=>?_;have el2:=s2 _ _ el;have x2:=x.same s2;have s12:=s1.trans s2
 cases hb:b i with
 | false=>
  rw[Ob NW];refine⟨.inr ⟨_,rfl⟩,s12,as,el2,?_⟩;rw[OV,OD,OI,hb]
  simpa using x2
 | true=>
  rw[Oh rfl];refine he i H2 _ hi hb s12 fun p H3 s3 hp ep=>⟨_,s3 _ _ el2,?_,.inr ⟨_,rfl⟩,(s12.trans s3).own hl,as++[p],?_,?_⟩
  . rw[NI,x2.len,NI];exact aJ (NS (ng b hi hn) #[1])
  . rw[ao];simp
  . have y:=x2.more s12 s3 hp ep el2 (.lst (as.map V.ref++[V.ref p]));rw[OV,OD,OI,hb]
    simpa using y
theorem Ez {xs:List V} (b:Nat->Bool) (o:Nat->HO) (hn:xs.length<=900) (hq:SqL K H1 a xs)
  (ht:∀ i x H R,xs[i]? =some x->Same H1 H->(∀ H',Same H H'->R (b i) H')->tt (σ0.set k (some x)) H R)
  (he:∀ i x H Q,xs[i]? =some x->b i=true->Same H1 H->(∀ a H',Same H H'->H a=none->H' a=some (o i)->Q (.ref a) H')->te (σ0.set k (some x)) H Q)
  (hd:∀ l as H,H1 l=none->Same H1 H->H l=↥(as.map V.ref)->NewAt H1 H l as (((List.range xs.length).filter b).map o)->fin l H):
  CompR (Itl K a) (gName k) tt te fin σ0 H1:=by
 refine sI (xs:=xs) (fun l i σ H=>(σ=σ0\/∃ cv,σ=σ0.set k cv)/\Same H1 H/\∃ as:List Addr,H l=↥(as.map V.ref)/\NewAt H1 H l as (((List.range i).filter b).map o)) (fun l hl=>⟨.inl rfl,(NK H1).laid hl,[],by rw[ao];rfl,NewAt.nil⟩) (fun l i σ H _ _ p=>p.2.1.seq hq) ?_ (fun l σ H hl ⟨_,s1,as,el,x⟩=>hd l as H hl s1 el x);rintro l i y σ H hl hy ⟨hσ,s1,as,el,x⟩;have hi:i<xs.length:=(NR.mp hy).1;rw[aQ]
 have e:σ.set k (some y)=σ0.set k (some y):=by
  rcases hσ with rfl | ⟨cv,rfl⟩
  . rfl
  . exact PD ..
 rw[e];refine ht i y H _ hy s1 fun H2 s2=>?_;have el2:=s2 _ _ el;have x2:=x.same s2;have s12:=s1.trans s2
 cases hb:b i with
 | false=>
  rw[Ob NW];refine⟨.inr ⟨_,rfl⟩,s12,as,el2,?_⟩;rw[OV,OD,OI,hb]
  simpa using x2
 | true=>
  rw[Oh rfl];refine he i y H2 _ hy hb s12 fun p H3 s3 hp ep=>⟨_,s3 _ _ el2,?_,.inr ⟨_,rfl⟩,(s12.trans s3).own hl,as++[p],?_,?_⟩
  . rw[NI,x2.len,NI];exact aJ (NS (ng b hi hn) #[1])
  . rw[ao];simp
  . have z:=x2.more s12 s3 hp ep el2 (.lst (as.map V.ref++[V.ref p]));rw[OV,OD,OI,hb]
    simpa using z
end
theorem yW:∀{ds:List PyData},(∀ d∈ds,PyData.canLay0 d=true)->PyData.canLayAll0 ds=true
 | [],_=>rfl
 | d::r,h=>by rw[PyData.canLayAll0,h d Oc,yW fun e he=>h e (N3 _ he)];rfl
theorem zQ{n:Nat}:∀{ds:List PyData},(∀ d∈ds,PyData.depth d<=n)->PyData.depthAll ds<=n
 | [],_=>Ox _
 | d::r,h=>by rw[PyData.depthAll];exact Nat.max_le.mpr ⟨h d Oc,zQ fun e he=>h e (N3 _ he)⟩
theorem yX{α:Type}[DecidableEq α](g:α->PyData)(hg:∀ a b,PyData.eqv (g a) (g b)=decide (a=b)):∀ xs ys:List α,PyData.eqvAll (xs.map g) (ys.map g)=decide (xs=ys)
 | [],[]=>rfl
 | [],_::_=>rfl
 | _::_,[]=>rfl
 | x::xs,y::ys=>by
  rw[Os,Os,PyData.eqvAll,hg,yX g hg xs ys,Oi];simp
structure IsLL(H:Hp)(l:Addr)(as:List Addr)(NE:List ∅):Prop where
 top:H l=↥(as.map V.ref)
 len:as.length=NE.length
 at_:∀(j:Nat) (a:Addr) (xs:∅),as[j]? =some a->NE[j]? =some xs->H a=↥(xs.map V.int)
def IsLL.same{H':Hp}{l:Addr}{as:List Addr}{NE:List ∅}(x:IsLL H l as NE)(s:Same H H'):IsLL H' l as NE:=
 ⟨s _ _ x.top,x.len,fun j a xs h1 h2=>s _ _ (x.at_ j a xs h1 h2)⟩
def mM(K:Frag):Sp:=fun vs H Q _=>∃ a h w g c,vs=[.ref a,.int c]/\IsFl H a h w g/\0<w/\w<100/\∀ p,H p=none->Q (.ref p) (upd H p (.tup [.int (c/w),.int (c%w)]))
def qP(K:Frag):TS:=#[":glbi0df#1 h#2 jTabP12abC12e"]
abbrev eD9(Q:VK):Ends:={nx:=fun _ H'=>Q .non H',rt:=Q}
variable{K:Frag}{vs:List V}
def EA{Q:VK}{E:XK}(h:mM K vs H Q E):qP K (eD9 Q) (start ["floor","cell","wide"] vs) H:=by
 obtain⟨a,h,w,g,c,rfl,ha,w0,w1,k⟩:=h;ac_nf;unfold qP;symm;rw[jj ha];refine bf (a:=V.int w) rfl ?_;symm;refine⟨⟨w0,by omega⟩,w0,lnR rfl,k⟩
def vY(h w c:Int):(besL h w c).length<=4:=by
 unfold besL;simp only[N0]
 split <;> split <;> split <;> split <;> simp
def ge(K:Frag):Sp:=fun vs H Q _=>∃ a h w g c,vs=[.ref a,.int c]/\IsFl H a h w g/\0<w/\w<100/\∀ l H',Same H H'->H l=none->H' l=↥((besL h w c).map V.int)->Q (.ref l) H'
def sM(K:Frag):TS:=#[":glbi0df#0 h#2 glbi0df#1 h#3 gl,'kca0a1eh#4 glveh#5 gnmb>bi4df#0 df#0 NEcGW5abH13eognmb>bi4df#1 df#0 NEcGW5abH1df#1 eognmb<bi4df#1 bH3df#1 NEcGW5abt1df#1 eognmb<bi4df#0 bH2df#1 NEcGW5abt13eoj5"]
theorem sN {D:Ends} {σ:St} {t:TT} {e:TE} {b:Bool} {v:Int} {l:Addr} (hσ:σ[i]? =some ↑l) (ht:∀ R,R b H->t σ H R) (hl:H l=↥(ns.map V.int)) (hn:ns.length<=900)
  (he:∀ Q,Q (.int v) H->e σ H Q) (k:∀ H',(H' l=↥((ns++if b=true then [v] else []).map V.int))->(∀ c,c≠l->H' c=H c)->D.nx σ H'):
  tIfS t (tDrop (tBM K "list" bp (tVar i) (tCons e tNil))) tNext D σ H:=by
 rw[aC];refine ht _ ?_
 cases b with
 | false=>
  refine iteF ?_;rw[b9];exact k H (by simpa using hl) fun _ _=>rfl
 | true=>
  refine iteT ?_;rw[ca,fw,HG];refine⟨_,hσ,bL hl,?_⟩;rw[bM];refine he _ ?_;rw[c7,ia hl];refine⟨by rw[NI];exact aJ #[0],k _ ?_ fun c hc=>ar hc⟩;rw[ao];simp
def F4{Q:VK}{E:XK}(h:ge K vs H Q E):sM K (eD9 Q) (start ["floor","cell","high","wide","spot","found"] vs) H:=by
 obtain⟨a,h,w,g,c,rfl,ha,w0,w1,k⟩:=h;ac_nf;unfold sM;symm;rw[jj ha];refine bf (a:=V.int h) rfl ?_;symm;rw[jj ha];refine bf (a:=V.int w) rfl ?_;symm;refine⟨a,h,w,g,c,rfl,ha,w0,w1,fun p hp=>?_⟩;symm;refine⟨aW #[1],fun l hl=>?_⟩;have npl:p≠l:=fun e=>by rw[e,ao] at hl;cases hl
 have hl0:H l=none:=by rw[ar npl.symm] at hl;exact hl
 have hpS:∀ H':Hp,(∀ d,d≠l->H' d=upd H p (.tup [.int (c/w),.int (c%w)]) d)->H' p=some (.tup [.int (c/w),.int (c%w)]):=fun H' e=>by rw[e p npl,ao]
 refine sN (ns:=[]) (l:=l) (i:=5) (b:=decide (0<c/w)) (v:=c-w) rfl (fun R q=>?_) ao #[1] (fun Q q=>?_) fun H1 e1 f1=>?_
 . symm;rw[jj (hpS _ fun d hd=>ar hd)];refine bf rfl ?_;symm;exact q
 . symm;exact q
 symm;refine sN (l:=l) (i:=5) (b:=decide (0<c%w)) (v:=c-1) rfl (fun R q=>?_) e1 (by simp;split <;> simp) (fun Q q=>?_) fun H2 e2 f2=>?_
 . symm;rw[jj (hpS _ fun d hd=>by rw[f1 d hd,ar hd])];refine bf rfl ?_;symm;exact q
 . symm;exact q
 symm;refine sN (l:=l) (i:=5) (b:=decide (c%w<w-1)) (v:=c+1) rfl (fun R q=>?_) e2 (by simp;split <;> split <;> simp) (fun Q q=>?_) fun H3 e3 f3=>?_
 . symm;rw[jj (hpS _ fun d hd=>by rw[f2 d hd,f1 d hd,ar hd])];refine bf rfl ?_;symm;exact q
 . symm;exact q
 symm;refine sN (l:=l) (i:=5) (b:=decide (c/w<h-1)) (v:=c+w) rfl (fun R q=>?_) e3 (by simp;split <;> split <;> split <;> simp) (fun Q q=>?_) fun H4 e4 f4=>?_
 . symm;rw[jj (hpS _ fun d hd=>by rw[f3 d hd,f2 d hd,f1 d hd,ar hd])];refine bf rfl ?_;symm;exact q
 . symm;exact q
 symm;refine k l H4 (fun b o e=>?_) hl0 ?_
 . have nb:b≠l:=aH e hl0;have nbp:b≠p:=aH e hp;rw[f4 b nb,f3 b nb,f2 b nb,f1 b nb,ar nb,ar nbp];exact e
 . rw[e4];unfold besL;simp[NO]
structure FlOk(h w g:Int):Prop where
 h0:1<=h
 h1:h<=6
 w0:1<=w
 w1:w<=6
 m:h*w<=16
 g0:1<=g
 g1:g<=6
section
variable{K:Frag}{H:Hp}{Q:VK}
def Bp{p:Addr}{xs:List V}(hp:H p=↥xs)(h:Q (.bl true) H):kIsi [.ref p,.ty "list"] H Q:=by
 refine⟨by decide,bf (a:="list") (by unfold m7;dsimp only;rw[hp]) ?_⟩;rw[show isTy "list" "list"=true by decide];exact h
def Bq{p:Addr}{xs:List V}(hp:H p=some (.tup xs))(h:Q (.bl true) H):kIsi [.ref p,.ty "tuple"] H Q:=by
 refine⟨by decide,bf (a:="tuple") (by unfold m7;dsimp only;rw[hp]) ?_⟩;rw[show isTy "tuple" "tuple"=true by decide];exact h
def G9{p q:Addr}{xs ys:List V}(hp:H p=↥xs)(hq:H q=↥ys)(hn:xs.length+ys.length<=1000)(h:Q .non (upd H p (.lst (xs++ys)))):iF (.ref p) [.ref q] H Q:=by
 show bnd (unM (H p)) _;rw[hp];show bnd (unM (H q)) _;rw[hq];exact⟨Ou (aJ hn),h⟩
def Br{n:Nat}{t:TGs}{σ:St}{k:St->Hp->Prop}{p:Addr}{xs:List V}(hp:H p=some (.tup xs))(hn:xs.length=n)(h:t xs σ H k):gTup K n t (.ref p) σ H k:=⟨p,xs,rfl,SqT.of hp,hn,h⟩
def Bs{i j:Nat}{x y:V}{σ:St}{k:St->Hp->Prop}:gCons (gName i) (gCons (gName j) gNil) [x,y] σ H k=k ((σ.set i (some x)).set j (some y)) H:=by
 refine propext ⟨?_,fun h=>⟨x,[y],rfl,y,[],rfl,rfl,h⟩⟩;rintro⟨v,r,e,v2,r2,e2,e3,h⟩;cases e;cases e2;exact h
end
end L2
namespace L2
open PySem PySem.Builtin PySem.Builtin.Str
def tx(l:List Nat):Str:=⟨l.toArray⟩
def xf(l:List Nat):(tx l).cps.toList=l:=by simp[tx]
def Kh(x:Str):tx x.cps.toList=x:=by cases x;simp[tx]
def F5{a b:List Nat}(h:tx a=tx b):a=b:=by rw[← xf a,h,xf]
def ga(l:List Nat):(tx l).length=l.length:=by simp[tx,Str.length]
def nh(a b:List Nat):tx a++tx b=tx (a++b):=by
 refine Str.ext' ?_;rw[Str.cps_append];simp[tx]
def ba(a b:List Nat):decide (tx a=tx b)=decide (a=b):=by
 by_cases h:a=b
 . subst h;simp
 . have:¬ tx a=tx b:=fun e=>h (F5 e);rw[NL h,NL this]
def catL(c:Nat):List (List Nat)->List Nat
 | []=>[]
 | [x]=>x
 | x::y::r=>x++c::catL c (y::r)
theorem uH(c:Nat):∀ ts:List (List Nat),Str.join (tx [c]) (ts.map tx)=tx (catL c ts)
 | []=>rfl
 | [x]=>rfl
 | x::y::r=>by
  show tx x++tx [c]++Str.join (tx [c]) ((y::r).map tx)=_;rw[uH c (y::r),nh,nh];show tx _=tx (x++c::catL c (y::r));rw[P7];rfl
def Bu(sep:Str)(ts:List Str):Txt.join sep ts=Str.join sep ts:=StrLaws.glued_eq_join sep ts
theorem DL{c:Nat}:∀{a b x y:List Nat},c∉a->c∉b->a++c::x=b++c::y->a=b/\x=y
 | [],[],_,_,_,_,h=>⟨rfl,by simpa using h⟩
 | [],b::bs,_,_,_,hb,h=>by
  simp at h;exact absurd (N4.mpr (.inl h.1)) hb
 | a::as,[],_,_,ha,_,h=>by
  simp at h;exact absurd (N4.mpr (.inl h.1.symm)) ha
 | a::as,b::bs,x,y,ha,hb,h=>by
  simp at h;have:=DL (fun z=>ha (N3 _ z)) (fun z=>hb (N3 _ z)) h.2;exact⟨by rw[h.1,this.1],this.2⟩
def Bv{c:Nat}:∀{x:List Nat} {r:List (List Nat)} {y:List Nat},c∈catL c (x::y::r):=by
 intro x r y;show c∈x++c::_;simp
theorem Bw{c:Nat}:∀{xs ys:List (List Nat)},xs≠[]->ys≠[]->(∀ x∈xs,c∉x)->(∀ y∈ys,c∉y)->catL c xs=catL c ys->xs=ys
 | [],_,h,_,_,_,_=>absurd rfl h
 | _,[],_,h,_,_,_=>absurd rfl h
 | [x],[y],_,_,_,_,h=>by
  have h':x=y:=h;rw[h']
 | [x],y::z::r,_,_,hx,_,h=>by
  have h':x=catL c (y::z::r):=h;exact absurd (h' ▸ Bv) (hx x Oc)
 | x::z::r,[y],_,_,_,hy,h=>by
  have h':catL c (x::z::r)=y:=h;exact absurd (h' ▸ Bv) (hy y Oc)
 | x::z::r,y::u::s,_,_,hx,hy,h=>by
  obtain⟨e1,e2⟩:=DL (hx x Oc) (hy y Oc) (show x++c::catL c (z::r)=y++c::catL c (u::s) from h);rw[e1,Bw (by simp) (by simp) (fun w hw=>hx w (N3 _ hw)) (fun w hw=>hy w (N3 _ hw)) e2]
def Ha(x y:Str):Txt.split x y≠[]:=by
 intro h;unfold Txt.split at h
 split at h
 . cases h
 . split at h
   . cases h
   . rw[StrLaws.partsBetween_eq] at h;obtain⟨p,r,e⟩:=StrLaws.partsFrom_ne x y.length 0 (occurrences x y 0 x.length (x.length+1));rw[e] at h;cases h
def Hc{c:Nat}{NA:List (List Nat)}(hne:NA≠[])(hf:∀ r∈NA,c∉r):Txt.split (tx (catL c NA)) (tx [c])=NA.map tx:=by
 have h1:=StrLaws.join_split (tx (catL c NA)) (tx [c]);have h2:∀ p∈Txt.split (tx (catL c NA)) (tx [c]),c∉p.cps.toList:=StrLaws.split_free _ c;have h3:=Ha (tx (catL c NA)) (tx [c]);generalize Txt.split (tx (catL c NA)) (tx [c])=S at*
 have e:S=(S.map (·.cps.toList)).map tx:=by
  rw[OE]
  conv=>lhs;rw[← List.map_id S]
  exact QL fun x _=>(Kh x).symm
 rw[e,uH] at h1;have h4:=F5 h1;have h5:=Bw (c:=c) (xs:=S.map (·.cps.toList)) (ys:=NA) (by simpa using h3) hne (fun x hx=>by obtain⟨p,hp,rfl⟩:=N9.mp hx;exact h2 p hp) hf h4;rw[e,h5]
end L2
namespace L2
end L2
namespace L2
open PySem PySem.Spec PyProof.Rows
local macro_rules|`(tactic|walk_at "w")=>wk9 ws1
local macro_rules|`(tactic|symm)=>`(tactic|walk_at "w")
section
variable{k:Nat}{tt:TT}{te:TE}{fin:Addr->Hp->Prop}{σ0:St}{H1:Hp}
def F6 {cs:List Nat} (b:Nat->Bool) (f:Nat->V) (hn:cs.length<=900)
  (ht:∀ i c H R,cs[i]? =some c->Same H1 H->(∀ H',Same H H'->R (b i) H')->tt (σ0.set k (some (.str (tx [c])))) H R)
  (he:∀ i c H Q,cs[i]? =some c->b i=true->Same H1 H->(∀ H',Same H H'->Q (f i) H')->te (σ0.set k (some (.str (tx [c])))) H Q)
  (hd:∀ l H,H1 l=none->Same H1 H->H l=↥(((List.range cs.length).filter b).map f)->fin l H):
  CompR (Its (tx cs)) (gName k) tt te fin σ0 H1:=by
 intro l hl;have hsz:(tx cs).cps.size=cs.length:=by simp[tx]
 refine⟨fun i m σ H=>m=cs.length-i/\i<=cs.length/\(σ=σ0\/∃ cv,σ=σ0.set k cv)/\Same H1 H/\H l=↥(((List.range i).filter b).map f),⟨cs.length,by simp,Ox _,.inl rfl,(NK H1).laid hl,by rw[ao];rfl⟩,?_⟩;rintro i m σ H ⟨rfl,hi,hσ,s1,el⟩;by_cases hlt:i<cs.length
 . refine .inr ⟨by show i < (tx cs).cps.size;rw[hsz];exact hlt,fun σ H=>(σ=σ0\/∃ cv,σ=σ0.set k cv)/\Same H1 H/\H l=↥(((List.range (i+1)).filter b).map f),fun σ' H' p'=>⟨cs.length - (i+1),by omega,rfl,hlt,p'⟩,?_⟩;rintro x H' ⟨rfl,c,hc,rfl⟩;have hc':cs[i]? =some c:=by simpa [tx] using hc
   show gName k (.str (tx [c])) σ H' _;rw[aQ]
   have e:σ.set k (some (.str (tx [c])))=σ0.set k (some (.str (tx [c]))):=by
    rcases hσ with rfl | ⟨cv,rfl⟩
    . rfl
    . exact PD ..
   rw[e];refine ht i c H' _ hc' s1 fun H2 s2=>?_;have el2:=s2 _ _ el
   cases hb:b i with
   | false=>
    rw[Ob NW];refine⟨.inr ⟨_,rfl⟩,s1.trans s2,?_⟩;rw[OV,OD,OI,hb]
    simpa using el2
   | true=>
    rw[Oh rfl];refine he i c H2 _ hc' hb (s1.trans s2) fun H3 s3=>⟨_,s3 _ _ el2,by rw[NI];exact aJ (NS (ng b hlt hn) #[1]),.inr ⟨_,rfl⟩,((s1.trans s2).trans s3).own hl,?_⟩;rw[ao,OV,OD,OI,hb];simp
 . have e:i=cs.length:=by omega
   subst e;exact .inl ⟨by show(tx cs).cps.size<=_;rw[hsz];exact NU _,hd l H hl s1 el⟩
end
def rH{α:Type}(xs:∅)(g:Int->α):(List.range xs.length).map (fun i=>g (xs.getD i 0))=xs.map g:=by
 have e:xs=(List.range xs.length).map fun i=>xs.getD i 0:=by
  refine O5 fun i=>?_;rw[NN];by_cases h:i<xs.length
  . rw[OX h,NJ h];simp[List.getD,h]
  . rw[Od #[0],Od (by simpa using h)];rfl
 conv=>rhs;rw[e]
 rw[OE];rfl
def sO{sep:Str}{ts:List Str}(h1:ts.length<=1000)(h2:∀ t∈ts,t.length<=1000)(h3:sep.length<=10):JoinOk sep ts=true:=by
 unfold JoinOk;rw[P8];refine StrLaws.joinFits (B:=1000) h2 ?_;have a1:ts.length*1000<=1000*1000:=QD _ h1;have a2:ts.length*sep.length<=1000*10:=Nat.mul_le_mul h1 h3;omega
abbrev rIsN:R2:=fun x y H Q=>y=.non/\Q (.bl (decide (x=.non))) H
abbrev rNotN:R2:=fun x y H Q=>y=.non/\Q (.bl (!decide (x=.non))) H
def kStr:List V->Hp->VK->Prop
 | [.int i],H,Q=>i.natAbs.log2<1920/\Q (.str (Str.ofString (toString i))) H
 | _,_,_=>False
section
variable{X:Cx}
def gf:CallR X (.type "str") kStr:=by
 intro Nz s σ H xs us Q I r h;unfold kStr at h
 split at h
 . obtain⟨hi,q⟩:=h
   cases r with
   | cons r0 rr=>
    cases rr;obtain⟨t,rfl⟩:=r0;exact PySem.P.str_of_int hi ⟨.str _,H,I.tok _,⟨_,rfl⟩,q⟩
 . exact h.elim
end
section
variable{K:Frag}{H:Hp}{Q:VK}
def gj{x:V}:rIsN x .non H Q=Q (.bl (decide (x=.non))) H:=by simp[rIsN]
def eP{x:V}:rNotN x .non H Q=Q (.bl (!decide (x=.non))) H:=by simp[rNotN]
def fO{i:Int}:kStr [.int i] H Q=(i.natAbs.log2<1920/\Q (.str (Str.ofString (toString i))) H):=rfl
end
structure Bt2(mg:Str->Option Value):Prop extends Bt mg where
 all_:mg "all"=none
 sum_:mg "sum"=none
 enumerate_:mg "enumerate"=none
section
variable{K:Frag}{H:Hp}{Q:VK}{D:Ends}{σ:St}{g:TG}{tb:TS}{ta:TA}{ix:List (Option Nat)}{tt:TT}{te tf:TE}{k:Nat}
def fP:tIf tt te tf σ H Q=tt σ H fun c H1=>if c=true then te σ H1 Q else tf σ H1 Q:=rfl
def bU:tComp ix (uB ta) g tt te σ H Q=ta σ H fun vs H1=>∃ i j:Int,vs=[.int i,.int j]/\(-(2^62)<=i/\i<2^62/\ -(2^62)<=j/\j<2^62)/\CompR (Itr i (j-i).toNat) g tt te (fun l H'=>Q (.ref l) H') (subσ ix σ) H1:=rfl
def bI:sComp k ix (uB ta) g tt te D σ H=ta σ H fun vs H1=>∃ i j:Int,vs=[.int i,.int j]/\(-(2^62)<=i/\i<2^62/\ -(2^62)<=j/\j<2^62)/\CompR (Itr i (j-i).toNat) g tt te (fun l H'=>D.nx (σ.set k ↑l) H') (subσ ix σ) H1:=rfl
def isiE{x:V}{n t:String}{b:Bool}(hx:m7 H x=some t)(hn:uF n=true)(hb:isTy t n=b):kIsi [x,.ty n] H Q=Q (.bl b) H:=by
 subst hb;show(uF n=true/\bnd (m7 H x) fun t=>Q (.bl (isTy t n)) H)=_;rw[hx];simp only[hn,true_and,bo]
def bV{i:Int}:kIsi [.int i,.ty "int"] H Q=Q (.bl true) H:=isiE (t:="int") rfl #[1] #[1]
def bW{i:Int}:kIsi [.int i,.ty "bool"] H Q=Q (.bl false) H:=isiE (t:="int") rfl #[1] #[1]
def bX{i:Int}:kIsi [.int i,.ty "str"] H Q=Q (.bl false) H:=isiE (t:="int") rfl #[1] #[1]
def bY{i:Bool}:kIsi [.bl i,.ty "bool"] H Q=Q (.bl true) H:=isiE (t:="bool") rfl #[1] #[1]
def bZ{i:Bool}:kIsi [.bl i,.ty "int"] H Q=Q (.bl true) H:=isiE (t:="bool") rfl #[1] #[1]
def b3{i:Str}:kIsi [.str i,.ty "str"] H Q=Q (.bl true) H:=isiE (t:="str") rfl #[1] #[1]
def b4{i:Bool}:kIsi [.bl i,.ty "str"] H Q=Q (.bl false) H:=isiE (t:="bool") rfl #[1] #[1]
def dz{A B:Prop}:(if true=true then A else B)=A:=Oh rfl
def dA{A B:Prop}:(if false=true then A else B)=B:=Ob NW
def dB{i:Int}:rU (fun i=>.int (-i)) (.int i) H Q=Q (.int (-i)) H:=by
 refine propext ⟨?_,fun h=>⟨i,rfl,h⟩⟩;rintro⟨j,e,h⟩;cases e;exact h
def ixT{p:Addr}{i:Int}{xs:List V}{v:V}(h:H p=some (.tup xs))(e:atI xs i=some v)(q:Q v H):cIx (.ref p) (.int i) H Q:=by
 rw[jj h];exact bf e q
def ixL{p:Addr}{i:Int}{xs:List V}{v:V}(h:H p=↥xs)(e:atI xs i=some v)(q:Q v H):cIx (.ref p) (.int i) H Q:=by
 rw[HH h];exact bf e q
def ixI{p:Addr}{i:Int}{ns:∅}(h:H p=↥(ns.map V.int))(h0:0<=i)(h1:i<ns.length)(q:Q (.int (ns.getD i.toNat 0)) H):cIx (.ref p) (.int i) H Q:=ixL h (vX h0 h1) q
end
def cMulB:R2
 | .int i,.int j,H,Q=>IntMulOk i j/\Q (.int (i*j)) H
 | _,_,_,_=>False
end L2
namespace Att
open PySem PySem.W PySem.Calls PyProof.Rows
end Att
namespace L2
open PySem PySem.Spec PyProof.Rows
section
variable{K:Frag}{H:Hp}{Q:VK}{D:Ends}{σ:St}
def Ku{i j:Int}:cMulB (.int i) (.int j) H Q=(IntMulOk i j/\Q (.int (i*j)) H):=rfl
def gk{i j:Int}:cPow (.int i) (.int j) H Q=(CPow i j/\Q (.int (i^j.toNat)) H):=rfl
def DM{ix:List (Option Nat)}{tl:TE}{g:TG}{tt:TT}{te:TE}:tComp ix (iTup K tl) g tt te σ H Q=tl σ H fun x H1=>∃ a,x=.ref a/\(∃ xs,SqT K H1 a xs)/\CompR (Itt K a) g tt te (fun l H'=>Q (.ref l) H') (subσ ix σ) H1:=rfl
def EB{p:Addr}{bs:List Bool}(hp:H p=↥(bs.map V.bl))(h:Q (.bl (bs.any id)) H):kAny [.ref p] H Q:=by
 show bnd (unL (H p)) _;rw[hp];exact bf (a:=bs.map V.bl) rfl ⟨bs,rfl,h⟩
def ja{p q:Addr}{xs ys:List V}(hp:H p=↥xs)(hq:H q=↥ys)(hn:xs.length+ys.length<=1000)(h:∀ r,H r=none->Q (.ref r) (upd H r (.lst (xs++ys)))):cAdd (.ref p) (.ref q) H Q:=by
 show bnd (unM (H p)) _;rw[hp];refine bf (a:=xs) rfl ?_;rw[hq];exact bf (a:=ys) rfl ⟨Ou (aJ hn),h⟩
def Hd {g:TG} {tt:TT} {te:TE} {a:Addr} {xs:List V} {fin:Addr->Hp->Prop} {σ0:St} {H1:Hp} (Pv:Addr->Nat->St->Hp->Prop) (h0:∀ l,H1 l=none->Pv l 0 σ0 (upd H1 l (.lst []))) (hq:∀ l i σ H,H1 l=none->i<=xs.length->Pv l i σ H->SqT K H a xs)
  (hs:∀ l i x σ H,H1 l=none->xs[i]? =some x->Pv l i σ H->g x σ H fun σ2 H3=>tt σ2 H3 fun b H4=>if b=true then te σ2 H4 fun y H5=>∃ ys,H5 l=↥ys/\ys.length<sizeLine/\Pv l (i+1) σ2 (upd H5 l (.lst (ys++[y]))) else Pv l (i+1) σ2 H4)
  (hd:∀ l σ H,H1 l=none->Pv l xs.length σ H->fin l H):CompR (Itt K a) g tt te fin σ0 H1:=by
 intro l hl0;refine⟨fun i m σ H=>m=xs.length-i/\i<=xs.length/\Pv l i σ H,⟨xs.length,by simp,Ox _,h0 l hl0⟩,?_⟩;rintro i m σ H ⟨rfl,hi,p⟩;have q:=hq l i σ H hl0 hi p;by_cases hlt:i<xs.length
 . refine .inr ⟨⟨xs,xs[i],q,by simp[hlt]⟩,Pv l (i+1),fun σ' H' p'=>⟨xs.length - (i+1),by omega,rfl,hlt,p'⟩,fun x H' y=>?_⟩;obtain⟨e,y⟩:=y;subst e;exact hs l i x σ _ hl0 (y xs q) p
 . have e:i=xs.length:=by omega
   subst e;exact .inl ⟨⟨xs,q,NU _⟩,hd l σ H hl0 p⟩
end
inductive RK where
 | Rule | Unlike | Sum | Rising | Seen | Count | Joined | NoSquare | Ring
 deriving DecidableEq
structure RCl (ι:Type) where
 A:ι->Addr
 ok:ι->Bool
section
variable{ι:Type}
def tFldK(c:RCl ι)(ta:TE)(f:Str):TE:=fun σ H Q=>ta σ H fun x H1=>∃ a k dx fs v,x=.ref a/\c.ok k=true/\H1 a=some (.ins (c.A k) dx fs)/\fs.lookup f=some v/\Q v H1
def sFldK(c:RCl ι)(ta tv:TE)(f:Str):TS:=fun D σ H=>tv σ H fun y H1=>ta σ H1 fun x H2=>∃ a k dx fs,x=.ref a/\c.ok k=true/\H2 a=some (.ins (c.A k) dx fs)/\fs.length<1000/\
 D.nx σ (upd H2 a (.ins (c.A k) dx (putF f y fs)))
def aL(c:RCl ι)(okm:ι->Bool)(m:Str)(sp:ι->Sp)(ta:TE)(t:TA):TE:=fun σ H Q=>ta σ H fun x H1=>∃ a k dx fs,x=.ref a/\okm k=true/\H1 a=some (.ins (c.A k) dx fs)/\fs.lookup m=none/\
 t σ H1 fun vs H2=>sp k (x::vs) H2 Q E0
structure FldK(K:Frag)(c:RCl ι)(f:Str):Prop where
 ex:∀ k,c.ok k=true->Cls K (c.A k)/\NoAttr K (c.A k) f
structure MCal(P:Program)(w:World)(K:Frag)(mg:Str->Option Value)(base:Heap)(c:RCl ι)(okm:ι->Bool)(k:Nat)(m:Str)(ps:List Str)(sp:ι->Sp):Prop where
 ex:∀ i,okm i=true->∃(f:Addr) (fd:FuncData),Cls K (c.A i)/\Meth K (c.A i) m f/\FnOk P w K mg base CX0 k f fd ps (sp i)/\Binds K fd ps []
structure KCal(P:Program)(w:World)(K:Frag)(mg:Str->Option Value)(base:Heap)(k:Nat)(x:Str)(C:Addr)(ps:List Str)(sp:Sp):Prop where
 ex:∃(f:Addr) (fd:FuncData),Mk K C f/\FnOk P w K mg base CX0 k f fd ps sp/\mg x=↑C/\Binds K fd ps []
end
section
variable{ι:Type}{X:Cx}{c:RCl ι}{o e value:Expr}{es:List Expr}{f x m:Str}{p pos pos' apos:Pos}{ta tv:TE}{t:TA}{okm:ι->Bool}{k n:Nat}{ps:List Str}{sp:ι->Sp}{sp1:Sp}{C:Addr}
def b6(he:PE X e ta)(F:FldK X.K c f)(hb:attributeBase e f X.env (eval e X.env)=eval e X.env:=by rfl):PE X (.Attribute e f pos) (tFldK c ta f):=by
 intro Nz s σ H Q I h;refine HU hb (thn (he Nz s σ H _ I h) fun u s1 ⟨x,H1,I1,rx,a,k,dx,fs,v,ex,hk,ea,l,q⟩=>?_);subst ex;obtain rfl:u=Value.ref a:=rx;obtain⟨cl,na⟩:=F.ex k hk;exact Er I1 ea cl na l fun u' s2 I2 ru=>⟨v,H1,I2,ru,q⟩
def jM(ha:PE X o ta)(hv:PE X value tv)(F:FldK X.K c f)(hs:swapsWith value (some (.Attribute o f pos')) pos.line X.env=pure false:=by rfl):PS X (.Assign [.Attribute o f pos'] value pos) (sFldK c ta tv f):=by
 intro Nz s σ H D I h;refine plainObj_wpAny_Assign_Attribute (thn (hv Nz s σ H _ I h) fun u s1 ⟨y,H1,I1,ry,q⟩=>thn (ha Nz s1 σ H1 _ I1 q) fun ov s2 ⟨x,H2,I2,rx,a,k,dx,fs,ex,hk,ea,l,q2⟩=>?_) hs;subst ex;obtain rfl:ov=Value.ref a:=rx;obtain⟨cl,na⟩:=F.ex k hk;exact Es I2 ea cl na l ry fun s3 I3=>⟨σ,_,I3,q2⟩
def dk {pl:Sem Bool} (M:MCal X.prog X.w X.K X.mg X.base c okm k m ps sp) (hr:Room n X.A) (hk:k<=n) (he:PE X o ta) (ha:PA X (e::es) t)
  (hst:starEach (e::es) X.env=(false,eval e X.env)::starEach es X.env:=by rfl) (hpl:(backTo pos (starEach es X.env)).any (·.1)=false:=by rfl)
  (ht:eval (.Call (.Attribute o m apos) (e::es) [] pos) X.env=(do
   let ov ← eval o X.env
   standAt apos.atName
   let (f,first) ← holding [ov] (getMethod ov m pl)
   callWith pos f first (backTo pos (starEach (e::es) X.env)) (backToKw pos (keywordEach [] X.env))):=by rfl):
  PE X (.Call (.Attribute o m apos) (e::es) [] pos) (aL c okm m sp ta t):=by
 intro Nz s σ H Q I h;refine RL (pl:=pl) (thn (he Nz s σ H _ I h) fun u s1 ⟨x,H1,I1,rx,a,i,dx,fs,ex,hi,ea,l,q⟩=>?_) ht;subst ex;obtain rfl:u=Value.ref a:=rx;obtain⟨f,fd,cl,hm,F,hb⟩:=M.ex i hi;refine wS I1 ea cl hm l ?_;refine QS (first:=[.ref a]) (h₀:=X.base) I.ok.mod.kin hm.kp (thn (ha pos Nz s1 σ H1 _ I1 q) fun us s2 ⟨vs,H2,I2,r,q2⟩=>⟨I2.kIn,?_⟩) hst hpl;exact A8 (us:=.ref a::us) (vs:=.ref a::vs) F (hr.mono hk) hb .nil AY I2 (.cons rfl r) (by rw[QF];exact q2)
def aR {pl:Sem Bool} (M:MCal X.prog X.w X.K X.mg X.base c okm k m ps sp) (hr:Room n X.A) (hk:k<=n) (he:PE X o ta)
  (ht:eval (.Call (.Attribute o m apos) [] [] pos) X.env=(do
   let ov ← eval o X.env
   standAt apos.atName
   let (f,first) ← holding [ov] (getMethod ov m pl)
   callWith pos f first (backTo pos (starEach [] X.env)) (backToKw pos (keywordEach [] X.env))):=by rfl):
  PE X (.Call (.Attribute o m apos) [] [] pos) (aL c okm m sp ta tNil):=by
 intro Nz s σ H Q I h;refine RL (pl:=pl) (thn (he Nz s σ H _ I h) fun u s1 ⟨x,H1,I1,rx,a,i,dx,fs,ex,hi,ea,l,q⟩=>?_) ht;subst ex;obtain rfl:u=Value.ref a:=rx;obtain⟨f,fd,cl,hm,F,hb⟩:=M.ex i hi;refine wS I1 ea cl hm l ?_;exact PySem.W.callWith_K0 (first:=[.ref a]) I1.kIn hm.kp (A8 (us:=[.ref a]) (vs:=[.ref a]) F (hr.mono hk) hb .nil AY I1 (.cons rfl .nil) q)
def mN (M:KCal X.prog X.w X.K X.mg X.base k x C ps sp1) (hr:Room n X.A) (hk:k+1<=n) (hg:Gl X x) (ha:PA X (e::es) t)
  (hdb:(x==("__debug__":Str))=false:=by decide) (he:starEach (e::es) X.env=(false,eval e X.env)::starEach es X.env:=by rfl) (hpl:(backTo pos (starEach es X.env)).any (·.1)=false:=by rfl):
  PE X (.Call (.Name x p) (e::es) [] pos) (tMake C sp1 [] E0 t):=by
 obtain⟨f,fd,mk,F,hm,hb⟩:=M.ex;exact HW mk F (hr.mono hk) hg hm hb .nil AY ha hdb he hpl
end
def ni(K:Frag):List V->Hp->VK->Prop
 | [.ref p],H,Q=>bnd (unM (H p)) fun ys=>∀ l,H l=none->Q (.ref l) (upd H l (.tup ys))
 | _,_,_=>False
def tInG(ws:List Str)(neg:Bool)(te:TE):TE:=fun σ H Q=>te σ H fun x H1=>∃ z,x=.str z/\Q (.bl (if neg then !decide (z∈ws) else decide (z∈ws))) H1
structure GTup(K:Frag)(mg:Str->Option Value)(x:Str)(ws:List Str):Prop where
 ex:∃(p:Addr) (o:Obj) (ND:Array Value) (n:Nat),mg x=↑p/\K.lookup p=some o/\o.cls=.type "tuple"/\o.data=.seq ND n/\ND.size<=sizeLine/\Vals (ws.map V.str) ND.toList
theorem oy:∀ ns:List Str,(ns.map V.str).all flatV=true
 | []=>rfl
 | n::r=>by rw[Os,QA,oy r];rfl
theorem qQ(i:Str):∀ ns:List Str,inV (.str i) (ns.map V.str)=decide (i∈ns)
 | []=>by simp[inV]
 | n::r=>by
  have ih:=qQ i r;unfold inV at ih ⊢;rw[Os,P5,ih];show((n==i)||decide (i∈r))=decide (i∈n::r);rw[Oi,RG,Pe,NO,NO,N4];exact⟨fun h=>h.elim (fun e=>.inl e.symm) .inr,fun h=>h.elim (fun e=>.inl e.symm) .inr⟩
section
variable{X:Cx}{a:Expr}{ta:TE}{pos p:Pos}{x:Str}{ws:List Str}
def vm:CallR X (.type "tuple") (ni X.K):=by
 intro Nz s σ H xs us Q I r h;unfold ni at h
 split at h
 . obtain⟨ys,e,q⟩:=bg h;exact Ar Nz s σ H _ us Q I r ⟨_,ys,rfl,.inl ⟨N5 (hX e),q⟩⟩
 . exact h.elim
def Jz{ws:List Str}{q:Addr}(hq:∃(o:Obj) (ND:Array Value) (n:Nat),X.K.lookup q=some o/\o.cls=.type "tuple"/\o.data=.seq ND n/\ND.size<=sizeLine/\Vals (ws.map V.str) ND.toList):
  OpR X (compareOp .In) (fun x y H Q=>∃ z,x=.str z/\y=.ref q/\Q (.bl (decide (z∈ws))) H):=by
 intro Nz s σ H x y v u Q I rx ry h;obtain⟨z,rfl,rfl,h⟩:=h;refine sD Nz s σ H _ _ v u Q I rx ry ⟨q,ws.map V.str,rfl,.inr (.inr hq),rfl,oy ws,?_⟩;rw[qQ];exact h
def Ig{ws:List Str}{q:Addr}(hq:∃(o:Obj) (ND:Array Value) (n:Nat),X.K.lookup q=some o/\o.cls=.type "tuple"/\o.data=.seq ND n/\ND.size<=sizeLine/\Vals (ws.map V.str) ND.toList):
  OpR X (compareOp .NotIn) (fun x y H Q=>∃ z,x=.str z/\y=.ref q/\Q (.bl (!decide (z∈ws))) H):=by
 intro Nz s σ H x y v u Q I rx ry h;obtain⟨z,rfl,rfl,h⟩:=h;refine sE Nz s σ H _ _ v u Q I rx ry ⟨q,ws.map V.str,rfl,.inr (.inr hq),rfl,oy ws,?_⟩;rw[qQ];exact h
end
section
variable{ι:Type}{c:RCl ι}{ta tv:TE}{t:TA}{f m:Str}{σ:St}{H:Hp}{Q:VK}{D:Ends}{okm:ι->Bool}{sp:ι->Sp}{sp1:Sp}{C:Addr}{K:Frag}
def eQ:tMake C sp1 [] E0 t σ H Q=t σ H fun vs H1=>∀ x dx,H1 x=none->H1 dx=none->dx≠x->sp1 (.ref x::(vs++[])) (upd (upd H1 dx (.own x)) x (.ins C dx [])) (fun v H2=>v=.non/\Q (.ref x) H2) E0:=rfl
def gl{ws:List Str}{neg:Bool}{te:TE}:tInG ws neg te σ H Q=te σ H fun x H1=>∃ z,x=.str z/\Q (.bl (if neg then !decide (z∈ws) else decide (z∈ws))) H1:=rfl
def Ih{p:Addr}{xs:List V}(hp:H p=↥xs)(h:∀ l,H l=none->Q (.ref l) (upd H l (.tup xs))):ni K [.ref p] H Q:=by
 unfold ni;dsimp only;rw[hp];exact h
end
def cntD(ns:∅):Nat:=(firstMet (fun i=>ns.getD i 0) ns.length).length
def uI(te:TE):TE:=fun σ H Q=>te σ H fun x H1=>∃ p ns,x=.ref p/\H1 p=↥(ns.map V.int)/\ns.length<=900/\Q (.int (cntD ns:Nat)) H1
def b8{te:TE}{σ:St}{H:Hp}{Q:VK}:uI te σ H Q=te σ H fun x H1=>∃ p ns,x=.ref p/\H1 p=↥(ns.map V.int)/\ns.length<=900/\Q (.int (cntD ns:Nat)) H1:=rfl
def DN:bootBuiltins "set"=some (.type "set"):=by decide+kernel
def zR {X:Cx} {e:Expr} {te:TE} {p p2 pos pos2:Pos} (hc:X.calm=true) (hgl:Gl X "len") (hgs:Gl X "set") (hl:X.mg "len"=none) (hs:X.mg "set"=none) (he:PE X e te)
  (hs1:starEach [.Call (.Name "set" p2) [e] [] pos2] X.env=[(false,eval (.Call (.Name "set" p2) [e] [] pos2) X.env)]:=by rfl) (hs2:starEach [e] X.env=[(false,eval e X.env)]:=by rfl):
  PE X (.Call (.Name "len" p) [.Call (.Name "set" p2) [e] [] pos2] [] pos) (uI te):=by
 intro Nz s σ H Q I h;refine OZ (gF I hgl hl aI ?_ #[1] #[1]);refine PR ?_ hs1 rfl;rw[hs1];show wpAny _ _ (spliced [(false,eval (.Call (.Name "set" p2) [e] [] pos2) X.env)]) _ _ s;refine Pt ?_;refine OZ (gF I hgs hs DN ?_ #[1] #[1]);refine OH ?_ hs2 rfl;rw[hs2];show wpAny _ _ (spliced [(false,eval e X.env)]) _ _ s;refine Pt (thn (he Nz s σ H _ I h) fun u s1 ⟨x,H1,I1,r1,q1⟩=>?_);refine PB ?_;obtain⟨l,ns,rfl,hys,hn,q⟩:=q1;cases r1;obtain⟨ND,n,rv,ho,hz⟩:=I1.lst hys;have hL:s1.heap.IsList l ND.toArray:=⟨_,ho,rfl,n,rfl⟩;have hI:IntsAre ND ns:=qG rv;have NF:=rv.length;rw[NI] at NF;refine call_set_list (ns:=ns) (I.ok.hd hc) hL (by simpa using hI) (by rw[N1,← NF];exact OA (Nat.succ_le_succ hn) #[1]) fun h' tk hS old=>?_;refine PB ?_;obtain⟨o,es,ep,t,h1,h2,h3,h4,h5,h6,h7,h8⟩:=hS;have hb:(firstMet (fun i=>ns.getD i 0) ND.toArray.size).length<=900:=NS (firstMet_length_le _ _) (by rw[N1,← NF];exact hn);refine call_len_set h1 h2 h3 h7 #[0] ?_;have I2:Inv X Nz σ H1 {s1 with heap:=h',toks:=tk}:=I1.kept fun b o' e=>old b o' (N6 e) e;refine⟨.int _,H1,I2.tok _,⟨_,rfl⟩,?_⟩;rw[h8,N1,← NF];exact q
def jY:V->List V->Hp->VK->Prop
 | .str sep,[.ref p],H,Q=>bnd (unS (H p)) fun ys=>∃ ts:List Str,ys=ts.map V.str/\JoinOk sep ts=true/\Q (.str (Txt.join sep ts)) H
 | _,_,_,_=>False
def sP{X:Cx}:MtR X "str.join" jY:=by
 intro Nz s σ H x vs v us Q I rx rv h;unfold jY at h
 split at h
 . rename_i sep p
   obtain⟨ys,e,ts,rfl,hok,q⟩:=bg h;rcases pX (K:=X.K) e with hq | hq
   . obtain⟨t,rfl⟩:=rx;obtain⟨u,rfl,ru⟩:=fj rv;cases ru;obtain⟨ND,rvv,pl,hz⟩:=I.list hq;obtain⟨l,rfl,hl⟩:=yU rvv;exact SC.join pl.isList hl hok fun t' k=>⟨.str _,H,I.tok k,⟨t',rfl⟩,q⟩
   . obtain⟨t,rfl⟩:=rx;obtain⟨u,rfl,ru⟩:=fj rv;cases ru;obtain⟨ND,rvv,pl,hz⟩:=I.tuple hq;obtain⟨l,rfl,hl⟩:=yU rvv;subst hl;obtain⟨o,h1,h2,n,h3⟩:=pl;have hok':=hok;unfold JoinOk at hok';rw[P8] at hok';exact PK F.slot_str_join (Qw _ _ _) F.entry_str_join (F.args_str_join_2 _ _) (meets_str_join_tuple sep t p l hok') ⟨⟨o,n,h1,h2,h3⟩,post_join l ⟨joinFit_length hok',fun t' k=>⟨.str _,H,I.tok k,⟨t',rfl⟩,q⟩⟩⟩
 . exact h.elim
section
variable{X:Cx}{e:Expr}{te:TE}{p2 p3 p4 pos:Pos}{z0:Nat}
def xg:V->List V->Hp->VK->Prop
 | .ref l,[.int i],H,Q=>bnd (unM (H l)) fun xs=>0<=i/\i<xs.length/\bnd (xs[i.toNat]?) fun y=>Q y (upd H l (.lst (xs.eraseIdx i.toNat)))
 | _,_,_,_=>False
def seqIx{i:Int}{n:Nat}(h0:0<=i)(h1:i<n):seqIndex? i n=some i.toNat:=by
 obtain⟨k,rfl⟩:=PV h0;have hk:k<n:=by omega
 unfold seqIndex?;have hn:¬ ((k:Int)<0):=by omega
 simp[hk,hn]
def F7:MtR X "list.pop" xg:=by
 intro Nz s σ H x vs v us Q I rx rv h;unfold xg at h
 split at h
 . obtain⟨xs,e,h0,h1,h⟩:=bg h;obtain⟨y,ey,q⟩:=bg h;have hz:xs.length<=sizeLine:=(I.lstM (hX e)).1;have hs:(sizeLine:Int)<2^63:=by decide
   exact GZ Nz s σ H _ _ v us Q I rx rv ⟨_,xs,_,_,y,rfl,rfl,hX e,by omega,by omega,seqIx h0 h1,ey,q⟩
 . exact h.elim
def tRevL(te:TE):TE:=fun σ H Q=>te σ H fun x H1=>∃ p xs,x=.ref p/\H1 p=↥xs/\∀ l,H1 l=none->Q (.ref l) (upd H1 l (.lst xs.reverse))
end
section
variable{σ:St}{H:Hp}{Q:VK}{te:TE}
def gm{i j:Int}{H:Hp}{Q:VK}:kMax [.int i,.int j] H Q=Q (.int (if j>i then j else i)) H:=rfl
def eX:tRevL te σ H Q=te σ H fun x H1=>∃ p xs,x=.ref p/\H1 p=↥xs/\∀ l,H1 l=none->Q (.ref l) (upd H1 l (.lst xs.reverse)):=rfl
def Ii{l:Addr}{i:Int}{xs:List V}{y:V}(hl:H l=↥xs)(h0:0<=i)(h1:i<xs.length)(ey:xs[i.toNat]? =some y)(q:Q y (upd H l (.lst (xs.eraseIdx i.toNat)))):xg (.ref l) [.int i] H Q:=by
 show bnd (unM (H l)) _;rw[hl];exact bf (a:=xs) rfl ⟨h0,h1,bf ey q⟩
end
def EC:typeLookup (.type "str") (Str.ofString "__int__")=pure none:=by rw[Qh,Px];kernel_rfl
def Bx:typeLookup (.type "str") (Str.ofString "__index__")=pure none:=by rw[Qh,Px];kernel_rfl
def By:typeLookup (.type "str") (Str.ofString "__trunc__")=pure none:=by rw[Qh,Px];kernel_rfl
def numC(n:Nat):List Nat:=if n<10 then [48+n] else [48+n/10,48+n%10]
variable{n:Nat}
def F8(h:n<100):((tx (numC n)).cps.all fun x=>decide (x<128))=true:=by
 have t:((List.range 100).all fun n=>(tx (numC n)).cps.all fun x=>decide (x<128))=true:=by decide+kernel
 exact Oe.mp t n (N8.mpr h)
def F9{α:Type}{M:Model}{A:Around}{E:Value->Shared->Prop}{s:Shared}{Q:α->Shared->Prop}{m m':Sem α}(e:m=m')(h:wpAny M A m' Q E s):wpAny M A m Q E s:=e ▸ h
def gis(n:Nat)(hn:n<100)(u:Tok):Gives (Builtin.«int.__new__» ⟨[.type "int",.str (tx (numC n)) u],[]⟩) (.int n):=
 .of_wp fun M A E s Q h=>by
  obtain⟨hp,g,d,tk,os⟩:=s;have f1:=PySem.F.conv_sub_int;have f2:=PySem.F.madeHere_int;have f3:=EC;have f4:=Bx;have f5:=By
  iterate 44 (any_goals (first | assumption | wp_step))
  refine NM (Q8 (a:=some (tx (numC n))) rfl ?_);refine Q8 (a:=some (numC n)) ?e1 ?_
  case e1=>
   show(pure (some (if ((tx (numC n)).cps.all fun x=>decide (x<128))=true then(tx (numC n)).cps.toList else _)):Sem _)=_;rw[Oh (F8 hn),xf]
  refine F9 (m':=mkInt (n:Int)) ?e2 ?_
  case e2=>
   clear h f1 f2 f3 f4 f5
   match n,hn with | 0,_=>kernel_rfl | 1,_=>kernel_rfl | 2,_=>kernel_rfl | 3,_=>kernel_rfl | 4,_=>kernel_rfl | 5,_=>kernel_rfl | 6,_=>kernel_rfl | 7,_=>kernel_rfl | 8,_=>kernel_rfl | 9,_=>kernel_rfl | 10,_=>kernel_rfl | 11,_=>kernel_rfl | 12,_=>kernel_rfl | 13,_=>kernel_rfl | 14,_=>kernel_rfl | 15,_=>kernel_rfl | 16,_=>kernel_rfl | 17,_=>kernel_rfl | 18,_=>kernel_rfl | 19,_=>kernel_rfl | 20,_=>kernel_rfl | 21,_=>kernel_rfl | 22,_=>kernel_rfl | 23,_=>kernel_rfl | 24,_=>kernel_rfl | 25,_=>kernel_rfl | 26,_=>kernel_rfl | 27,_=>kernel_rfl | 28,_=>kernel_rfl | 29,_=>kernel_rfl | 30,_=>kernel_rfl | 31,_=>kernel_rfl | 32,_=>kernel_rfl | 33,_=>kernel_rfl | 34,_=>kernel_rfl | 35,_=>kernel_rfl | 36,_=>kernel_rfl | 37,_=>kernel_rfl | 38,_=>kernel_rfl | 39,_=>kernel_rfl | 40,_=>kernel_rfl | 41,_=>kernel_rfl | 42,_=>kernel_rfl | 43,_=>kernel_rfl | 44,_=>kernel_rfl | 45,_=>kernel_rfl | 46,_=>kernel_rfl | 47,_=>kernel_rfl | 48,_=>kernel_rfl | 49,_=>kernel_rfl | 50,_=>kernel_rfl | 51,_=>kernel_rfl | 52,_=>kernel_rfl | 53,_=>kernel_rfl | 54,_=>kernel_rfl | 55,_=>kernel_rfl | 56,_=>kernel_rfl | 57,_=>kernel_rfl | 58,_=>kernel_rfl | 59,_=>kernel_rfl | 60,_=>kernel_rfl | 61,_=>kernel_rfl | 62,_=>kernel_rfl | 63,_=>kernel_rfl | 64,_=>kernel_rfl | 65,_=>kernel_rfl | 66,_=>kernel_rfl | 67,_=>kernel_rfl | 68,_=>kernel_rfl | 69,_=>kernel_rfl | 70,_=>kernel_rfl | 71,_=>kernel_rfl | 72,_=>kernel_rfl | 73,_=>kernel_rfl | 74,_=>kernel_rfl | 75,_=>kernel_rfl | 76,_=>kernel_rfl | 77,_=>kernel_rfl | 78,_=>kernel_rfl | 79,_=>kernel_rfl | 80,_=>kernel_rfl | 81,_=>kernel_rfl | 82,_=>kernel_rfl | 83,_=>kernel_rfl | 84,_=>kernel_rfl | 85,_=>kernel_rfl | 86,_=>kernel_rfl | 87,_=>kernel_rfl | 88,_=>kernel_rfl | 89,_=>kernel_rfl | 90,_=>kernel_rfl | 91,_=>kernel_rfl | 92,_=>kernel_rfl | 93,_=>kernel_rfl | 94,_=>kernel_rfl | 95,_=>kernel_rfl | 96,_=>kernel_rfl | 97,_=>kernel_rfl | 98,_=>kernel_rfl | 99,_=>kernel_rfl | (m+100),hm=>exact absurd hm #[0]
  repeat (any_goals (first | assumption | wp_step))
  all_goals first | exact⟨_,rfl,h⟩ | skip
def qR:List V->Hp->VK->Prop
 | [.int i],H,Q=>Q (.int i) H
 | [.bl k],H,Q=>Q (.int (if k then 1 else 0)) H
 | [.str z],H,Q=>∃ n:Nat,n<100/\z=tx (numC n)/\Q (.int n) H
 | _,_,_=>False
def xh{X:Cx}:CallR X (.type "int") qR:=by
 intro Nz s σ H xs us Q I r h;unfold qR at h
 split at h
 . exact zF Nz s σ H _ us Q I r (.inl ⟨_,rfl,h⟩)
 . exact zF Nz s σ H _ us Q I r (.inr ⟨_,rfl,h⟩)
 . obtain⟨n,hn,rfl,q⟩:=h;obtain⟨u,rfl,ru⟩:=fj r;obtain⟨t,rfl⟩:=ru;exact call_int_1 (gis n hn t).meets (show(Made.int (n:Int)).post _ s from⟨rfl,⟨.int n,H,I.tok _,⟨_,rfl⟩,q⟩⟩)
 . exact h.elim
def cZ{k:Bool}{H:Hp}{Q:VK}:qR [.bl k] H Q=Q (.int (if k then 1 else 0)) H:=rfl
def c5{i:Int}{H:Hp}{Q:VK}:qR [.int i] H Q=Q (.int i) H:=rfl
def uJ(h:n<100):Str.ofString (toString (n:Int))=tx (numC n):=by
 have t:((List.range 100).all fun(n:Nat)=>decide (Str.ofString (toString (n:Int))=tx (numC n)))=true:=by decide+kernel
 simpa using Oe.mp t n (N8.mpr h)
def vZ(h:n<100):32∉numC n:=by
 have t:((List.range 100).all fun(n:Nat)=>decide (32∉numC n))=true:=by decide+kernel
 simpa using Oe.mp t n (N8.mpr h)
def JA(h:n<100):numC n≠[]:=by unfold numC;split <;> simp
def gH:(numC n).length<=2:=by unfold numC;split <;> simp
def He(h:n<100):((numC n).head? =some 48->n=0)/\numC 0=[48]:=by
 have t:((List.range 100).all fun(n:Nat)=>decide ((numC n).head? =some 48->n=0))=true:=by decide+kernel
 exact⟨Oy (Oe.mp t n (N8.mpr h)),rfl⟩
def DO(h:n<100):∀ c∈numC n,48<=c/\c<=57:=by
 have t:((List.range 100).all fun(n:Nat)=>(numC n).all fun c=>decide (48<=c/\c<=57))=true:=by decide+kernel
 intro c hc
 simpa using Oe.mp (Oe.mp t n (N8.mpr h)) c hc
local macro_rules|`(tactic|walk_at "w")=>wk9 ws1
local macro_rules|`(tactic|symm)=>`(tactic|walk_at "w")
def cS(K:Frag):Sp:=fun vs H Q _=>∃ a h w g,vs=[.ref a]/\IsFl H a h w g/\1<=h/\h<=6/\Q (.int (h*w)) H
def l5(K:Frag):TS:=#[":jbXbi0df#0 bi0df#1 "]
variable{K:Frag}{vs:List V}{H:Hp}{Q:VK}{E:XK}
def As(h:cS K vs H Q E):l5 K (eD9 Q) (start ["floor"] vs) H:=by
 obtain⟨a,h,w,g,rfl,ha,h0,h1,q⟩:=h;ac_nf;unfold l5;symm;rw[jj ha];refine bf (a:=V.int h) rfl ?_;symm;rw[jj ha];refine bf (a:=V.int w) rfl ?_;symm;exact⟨ox h0 h1,q⟩
def cornB(h w c:Int):Bool:=decide (c/w<h-1)&&decide (c%w<w-1)
def nj(K:Frag):Sp:=fun vs H Q _=>∃ a h w g c,vs=[.ref a,.int c]/\IsFl H a h w g/\0<w/\w<100/\∀ H',Same H H'->Q (.bl (cornB h w c)) H'
def nk(K:Frag):TS:=#[":gl,'kca0a1eh#2 jOb<bi2df#0 bHbi0df#0 df#1 b<bi2df#1 bHbi0df#1 df#1 "]
theorem BA(h:nj K vs H Q E):nk K (eD9 Q) (start ["floor","cell","spot"] vs) H:=by
 obtain⟨a,h,w,g,c,rfl,ha,w0,w1,k⟩:=h;ac_nf;unfold nk;symm;refine⟨a,h,w,g,c,rfl,ha,w0,w1,fun p hp=>?_⟩;have s1:Same H (upd H p (.tup [.int (c/w),.int (c%w)])):=(NK H).laid hp;have k1:=k _ s1;have ha1:=s1 _ _ ha;have hp1:(upd H p (.tup [.int (c/w),.int (c%w)])) p=some (.tup [.int (c/w),.int (c%w)]):=ao;generalize upd H p (.tup [.int (c/w),.int (c%w)])=H1 at*;symm;rw[jj hp1];refine bf (a:=V.int (c/w)) rfl ?_;symm;rw[jj ha1];refine bf (a:=V.int h) rfl ?_;symm;unfold cornB at k1
 cases hb:decide (c/w<h-1) with
 | false=>
  rw[hb,NZ] at k1;exact iteF k1
 | true=>
  rw[hb,N2] at k1;refine iteT ?_;rw[jj hp1];refine bf (a:=V.int (c%w)) rfl ?_;symm;rw[jj ha1];refine bf (a:=V.int w) rfl ?_;symm;exact k1
def sqL(w c:Int):∅:=[c,c+1,c+w,c+w+1]
def no(K:Frag):Sp:=fun vs H Q _=>∃ a h w g c,vs=[.ref a,.int c]/\IsFl H a h w g/\∀ p,H p=none->Q (.ref p) (upd H p (.lst ((sqL w c).map V.int)))
def np(K:Frag):TS:=#[":glbt1bi0df#1 h#2 jva1abt1df#1 a2abt2df#1 e"]
def BB(h:no K vs H Q E):np K (eD9 Q) (start ["floor","corner","below"] vs) H:=by
 obtain⟨a,h,w,g,c,rfl,ha,k⟩:=h;ac_nf;unfold np;symm;rw[jj ha];refine bf (a:=V.int w) rfl ?_;symm;exact⟨lnR rfl,k⟩
def squL(h w:Int):List ∅:=((List.range (h*w).toNat).filter fun(i:Nat)=>cornB h w i).map fun(i:Nat)=>sqL w i
def mO(K:Frag):Sp:=fun vs H Q _=>∃ a h w g,vs=[.ref a]/\IsFl H a h w g/\FlOk h w g/\
 ∀ l as H',Same H H'->H l=none->IsLL H' l as (squL h w)->as.Nodup->l∉as->(∀ a∈as,H a=none)->Q (.ref l) H'
def qS(K:Frag):TS:=#[":jx&--0 Ua,~tca0eeh#1 z,'Sca2a1e,'Tca2a1e"]
def NewAt.ll{H1:Hp}{l:Addr}{as:List Addr}{NE:List ∅}(x:NewAt H1 H l as (NE.map fun xs=>.lst (xs.map V.int)))(e:H l=↥(as.map V.ref)):IsLL H l as NE:=
 ⟨e,by rw[x.len,NI],fun j a xs h1 h2=>x.at_ j a _ h1 (by rw[NN,h2];rfl)⟩
def ED(h:mO K vs H Q E):qS K (eD9 Q) (start ["floor"] vs) H:=by
 obtain⟨a,h,w,g,rfl,ha,F,k⟩:=h;obtain⟨h0,h1,w0,w1,m16,g0,g1⟩:=F;have mpos:0<=h*w:=Qa #[0] #[0];ac_nf;unfold qS;symm;refine⟨a,h,w,g,rfl,ha,h0,h1,?_⟩;symm;refine⟨h*w,rfl,by omega,by omega,?_⟩;refine C9 (fun(i:Nat)=>cornB h w i) (fun(i:Nat)=>.lst ((sqL w i).map V.int)) #[0] ?_ ?_ ?_
 . intro i H1 R hi s1 k1;show tB _ [none,⇑(0+(i:Int)),↑a] H1 R;symm;rw[OU];exact⟨a,h,w,g,_,rfl,s1 _ _ ha,by omega,by omega,fun H2 s2=>⟨_,rfl,k1 H2 s2⟩⟩
 . intro i H1 Q1 hi hb s1 k1;show tCall _ _ _ _ [none,⇑(0+(i:Int)),↑a] H1 Q1;symm;rw[OU];exact⟨a,h,w,g,_,rfl,s1 _ _ ha,fun p hp=>k1 p _ ((NK H1).laid hp) hp ao⟩
 . intro l as H2 hl s2 el x
   have x':NewAt H H2 l as ((squL h w).map fun xs=>.lst (xs.map V.int)):=by
    unfold squL;rw[OE];exact x
   exact k l as H2 s2 hl (x'.ll el) x.nd x.nl x.fr
def ws4:String:="az eQ gl b8 eX cZ c5 gm gj eP gk if_true if_false Bool.false_eq_true decide_true decide_false cO cP fP bU bI cM dy cN bT dv dw bS fM bV bW bY bZ b3 b4 bX dz dA dB dt fO Bool.not_true Bool.not_false az "++ws1
local macro_rules|`(tactic|walk_at "w")=>wk9 ws4
def nmC:RK->List Nat
 | .Rule=>[]
 | .Unlike=>[117,110,108,105,107,101]
 | .Sum=>[115,117,109]
 | .Rising=>[114,105,115,105,110,103]
 | .Seen=>[115,101,101,110]
 | .Count=>[99,111,117,110,116]
 | .Joined=>[106,111,105,110,101,100]
 | .NoSquare=>[110,111,115,113,117,97,114,101]
 | .Ring=>[114,105,110,103]
def iH:List Str:=[tx [115,117,109],tx [115,101,101,110],tx [99,111,117,110,116]]
def ib:List Str:=[tx [99,111,117,110,116],tx [106,111,105,110,101,100],tx [110,111,115,113,117,97,114,101],tx [114,105,110,103]]
def gZ:List Str:=[tx [106,111,105,110,101,100],tx [110,111,115,113,117,97,114,101],tx [114,105,110,103]]
def rFs(p W C:Addr)(n m:Int):List (Str × V):=[("floor",.ref p),("words",.ref W),("cells",.ref C),("amount",.int n),("mark",.int m)]
structure IsRule(H:Hp)(c:RCl RK)(k:RK)(r p:Addr)(ws:List (List Nat))(cs:∅)(n m:Int):Prop where
 ok:c.ok k=true
 ex:∃ dx W C,H r=some (.ins (c.A k) dx (rFs p W C n m))/\H W=some (.tup ((ws.map tx).map V.str))/\H C=some (.tup (cs.map V.int))
variable{H:Hp}{c:RCl RK}{p:Addr}{cs:∅}
def IsRule.same{H':Hp}{k:RK}{r:Addr}{ws:List (List Nat)}{n m:Int}(x:IsRule H c k r p ws cs n m)(s:Same H H'):IsRule H' c k r p ws cs n m:=by
 obtain⟨dx,W,C,h1,h2,h3⟩:=x.ex;exact⟨x.ok,dx,W,C,s _ _ h1,s _ _ h2,s _ _ h3⟩
section
variable{ι:Type}{c:RCl ι}{σ:St}{H:Hp}{Q:VK}{i:Nat}{r dx:Addr}{k:ι}{fs:List (Str × V)}{f m:Str}{v:V}{okm:ι->Bool}{sp:ι->Sp}{t:TA}{D:Ends}{tv:TE}{y:V}{H1:Hp}
def fldE(hσ:σ[i]? =some ↑r)(ok:c.ok k=true)(hr:H r=some (.ins (c.A k) dx fs))(hl:fs.lookup f=some v)(q:Q v H):tFldK c (tVar i) f σ H Q:=qE hσ ⟨r,k,dx,fs,v,rfl,ok,hr,hl,q⟩
def methE(hσ:σ[i]? =some ↑r)(ok:okm k=true)(hr:H r=some (.ins (c.A k) dx fs))(hl:fs.lookup m=none)(q:t σ H fun vs H2=>sp k (.ref r::vs) H2 Q E0):aL c okm m sp (tVar i) t σ H Q:=qE hσ ⟨r,k,dx,fs,rfl,ok,hr,hl,q⟩
def sfldV{j:Nat}{x:V}(hj:σ[j]? =some (some x))(hσ:σ[i]? =some ↑r)(ok:c.ok k=true)(hr:H r=some (.ins (c.A k) dx fs))(hn:fs.length<1000)(q:D.nx σ (upd H r (.ins (c.A k) dx (putF f x fs)))):sFldK c (tVar i) (tVar j) f D σ H:=
 qE hj (qE hσ ⟨r,k,dx,fs,rfl,ok,hr,hn,q⟩)
def sfldT {K:Frag} {j:Nat} {p:Addr} {xs:List V} (hj:σ[j]? =some ↑p) (hp:H p=↥xs) (hσ:σ[i]? =some ↑r) (ok:c.ok k=true) (hr:H r=some (.ins (c.A k) dx fs)) (hn:fs.length<1000)
  (q:∀ l,H l=none->D.nx σ (upd (upd H l (.tup xs)) r (.ins (c.A k) dx (putF f (.ref l) fs)))):sFldK c (tVar i) (tCB (ni K) (tCons (tVar j) tNil)) f D σ H:=by
 unfold sFldK;symm;refine qE hj (Ih hp fun l hl=>?_);exact qE hσ ⟨r,k,dx,fs,rfl,ok,by rw[ar (aH hr hl)];exact hr,hn,q l hl⟩
end
variable{Q:VK}
def Ij{xs:List V}(hp:H p=some (.tup xs))(h:∀ l,H l=none->Q (.ref l) (upd H l (.lst xs))):kList [.ref p] H Q:=by
 unfold kList;dsimp only;rw[hp];exact h
def DP{sep:Str}{ts:List Str}(hp:H p=↥(ts.map V.str))(hok:JoinOk sep ts=true)(h:Q (.str (Txt.join sep ts)) H):jY (.str sep) [.ref p] H Q:=by
 unfold jY;dsimp only;rw[hp];exact⟨ts,rfl,hok,h⟩
variable{K:Frag}{fin:Addr->Hp->Prop}
theorem zS {a:Addr} {k:Nat} {tt:TT} {te:TE} {σ0:St} {H1:Hp} {xs:∅} (b:Int->Bool) (f:Int->Int) (hn:xs.length<=900) (hq:H1 a=some (.tup (xs.map V.int)))
  (ht:∀ x H R,x∈xs->Same H1 H->(∀ H',Same H H'->R (b x) H')->tt (σ0.set k ⇑x) H R)
  (he:∀ x H Q,x∈xs->b x=true->Same H1 H->(∀ H',Same H H'->Q (.int (f x)) H')->te (σ0.set k ⇑x) H Q)
  (hd:∀ l H,H1 l=none->Same H1 H->H l=↥(((xs.filter b).map f).map V.int)->fin l H):CompR (Itt K a) (gName k) tt te fin σ0 H1:=by
 refine Hd (xs:=xs.map V.int) (fun l i σ H=>(σ=σ0\/∃ cv,σ=σ0.set k cv)/\Same H1 H/\H l=↥((((xs.take i).filter b).map f).map V.int)) (fun l hl=>⟨.inl rfl,(NK H1).laid hl,by rw[ao];rfl⟩) (fun l i σ H _ _ p=>SqT.of (p.2.1 _ _ hq)) ?_ (fun l σ H hl p=>hd l H hl p.2.1 (by have:=p.2.2;rw[NI,O2] at this;exact this));rintro l i x σ H hl hx ⟨hσ,s1,el⟩;obtain⟨z,hz,rfl⟩:=bi hx;have hi:i<xs.length:=(NR.mp hz).1;have et:xs.take (i+1)=xs.take i++[z]:=by rw[Pu,hz];rfl
 rw[aQ]
 have e:σ.set k ⇑z=σ0.set k ⇑z:=by
  rcases hσ with rfl | ⟨cv,rfl⟩
  . rfl
  . exact PD ..
 rw[e];refine ht z H _ (NV hz) s1 fun H2 s2=>?_;have el2:=s2 _ _ el
 have NF:((((xs.take i).filter b).map f).map V.int).length<sizeLine:=by
  rw[NI,NI];refine aJ (NS (NX b _) ?_);rw[OP];omega
 cases hb:b z with
 | false=>
  rw[Ob NW];refine⟨.inr ⟨_,rfl⟩,s1.trans s2,?_⟩;rw[et,OD,OI,hb]
  simpa using el2
 | true=>
  rw[Oh rfl];refine he z H2 _ (NV hz) hb (s1.trans s2) fun H3 s3=>⟨_,s3 _ _ el2,NF,.inr ⟨_,rfl⟩,((s1.trans s2).trans s3).own hl,?_⟩;rw[ao,et,OD,OI,hb];simp
def yY(K:Frag)(c:RCl RK)(k:RK):Sp:=fun vs H Q _=>∃ r p w ws cs n m,vs=[.ref r]/\IsRule H c k r p (w::ws) cs n m/\Q (.str (tx w)) H
def jm(K:Frag)(c:RCl RK)(k:RK):Sp:=fun vs H Q _=>∃ r p ws cs n m,vs=[.ref r]/\IsRule H c k r p ws cs n m/\∀ l,H l=none->Q (.ref l) (upd H l (.lst (cs.map V.int)))
def jN(K:Frag)(c:RCl RK)(k:RK):Sp:=fun vs H Q _=>∃ r p ws cs n m,vs=[.ref r]/\IsRule H c k r p ws cs n m/\Q (.int n) H
def lc(K:Frag)(c:RCl RK)(k:RK):Sp:=fun vs H Q _=>∃ r p ws cs n m,vs=[.ref r]/\IsRule H c k r p ws cs n m/\Q (.int m) H
def sgAt(xs cs:∅):∅:=cs.map fun c=>xs.getD c.toNat 0
def mkAt(xs cs:∅)(m:Int):∅:=cs.filter fun c=>decide (xs.getD c.toNat 0=m)
def aU(cs:∅)(n:Nat):Prop:=cs.length<=63/\∀ c∈cs,0<=c/\c<n
def gJ(K:Frag)(c:RCl RK)(k:RK):Sp:=fun vs H Q _=>∃ r p f ws cs xs n m,vs=[.ref r,.ref f]/\IsRule H c k r p ws cs n m/\H f=↥(xs.map V.int)/\aU cs xs.length/\
 ∀ l H',Same H H'->H l=none->H' l=↥((sgAt xs cs).map V.int)->Q (.ref l) H'
def jO(K:Frag)(c:RCl RK)(k:RK):Sp:=fun vs H Q _=>∃ r p f ws cs xs n m,vs=[.ref r,.ref f]/\IsRule H c k r p ws cs n m/\H f=↥(xs.map V.int)/\aU cs xs.length/\
 ∀ l H',Same H H'->H l=none->H' l=↥((mkAt xs cs m).map V.int)->Q (.ref l) H'
def risB:∅->Bool
 | x::y::r=>decide (x<y)&&risB (y::r)
 | _=>true
def seenN(xs:∅):Int × Int:=xs.foldl (fun a x=>if a.1<x then(x,a.2+1) else a) (0,0)
noncomputable def joinB (h w:Int) (ms:∅):Bool:=@decide (ms=[]\/(ms.Pairwise (· < ·)/\∀ x∈ms,RC h w ms (ms.headD 0) x)) (Classical.propDecidable _)
def twoB(h w:Int)(ms:∅)(c:Int):Bool:=decide (((besL h w c).filter fun y=>decide (y∈ms)).length=2)
noncomputable def hoB (k:RK) (h w:Int) (cs:∅) (n m:Int) (xs:∅):Bool:=match k with
 | .Unlike=>decide (cntD (sgAt xs cs)=(sgAt xs cs).length)
 | .Sum=>decide ((sgAt xs cs).sum=n)
 | .Rising=>risB (sgAt xs cs)
 | .Seen=>decide ((seenN (sgAt xs cs)).2=n)
 | .Count=>decide (((mkAt xs cs m).length:Int)=n)
 | .NoSquare=>!((squL h w).any fun sq=>sq.all fun c=>decide (c∈mkAt xs cs m))
 | .Joined=>joinB h w (mkAt xs cs m)
 | .Ring=>joinB h w (mkAt xs cs m)&&(mkAt xs cs m).all (twoB h w (mkAt xs cs m))
 | _=>true
def fz(K:Frag)(c:RCl RK)(k:RK):Sp:=fun vs H Q _=>∃ r p f ws cs xs n m h w g,vs=[.ref r,.ref f]/\IsRule H c k r p ws cs n m/\IsFl H p h w g/\FlOk h w g/\H f=↥(xs.map V.int)/\aU cs xs.length/\(∀ x∈xs,0<=x/\x<=1000)/\
 ∀ H',Same H H'->Q (.bl (hoB k h w cs n m xs)) H'
def jZ(K:Frag)(c:RCl RK)(k:RK):Sp:=fun vs H Q _=>∃ r p C ws cs ms n m h w g,vs=[.ref r,.ref C]/\IsRule H c k r p ws cs n m/\IsFl H p h w g/\FlOk h w g/\H C=↥(ms.map V.int)/\ms.length<=63/\
 ∀ H',Same H H'->Q (.bl (joinB h w ms)) H'
def iJ(K:Frag)(c:RCl RK)(k:RK):Sp:=fun vs H Q _=>∃ r p C ws cs ms n m h w g z,vs=[.ref r,.ref C,.int z]/\IsRule H c k r p ws cs n m/\IsFl H p h w g/\FlOk h w g/\H C=↥(ms.map V.int)/\ms.length<=63/\
 ∀ H',Same H H'->Q (.bl (twoB h w ms z)) H'
def aV(K:Frag)(c:RCl RK):Sp:=fun vs H Q _=>∃ k x dx p W C ws cs n m,vs=[.ref x,.ref p,.ref W,.ref C,.int n,.int m]/\c.ok k=true/\H x=some (.ins (c.A k) dx [])/\W≠x/\C≠x/\
 H W=↥((ws.map tx).map V.str)/\H C=↥(cs.map V.int)/\∀ H',(∀ b o,b≠x->H b=some o->H' b=some o)->IsRule H' c k x p ws cs n m->Q .non H'
def jn(K:Frag)(c:RCl RK):TS:=#[":g~ek01~fg~ek0p'lca2e'mg~ek0p'lca3e~Kg~ek04~v~ek05~?"]
variable{vs:List V}{E:XK}
def wa(h:aV K c vs H Q E):jn K c (eD9 Q) (start ["self","floor","words","cells","amount","mark"] vs) H:=by
 obtain⟨k,x,dx,p,W,C,ws,cs,n,m,rfl,ok,hx,nW,nC,hW,hC,q⟩:=h;ac_nf;unfold jn;symm;refine sfldV (k:=k) (j:=1) rfl rfl ok hx #[1] ?_;symm;refine sfldT (k:=k) (j:=2) (p:=W) rfl (by rw[ar nW];exact hW) rfl ok ao (by show(1:Nat)<1000;decide) fun l1 h1=>?_;have n1:l1≠x:=fun e=>by rw[e,ao] at h1;cases h1
 have g1:H l1=none:=by rw[ar n1] at h1;exact h1
 symm;refine sfldT (k:=k) (j:=3) (p:=C) rfl (by rw[ar nC,ar (aH hC g1),ar nC];exact hC) rfl ok ao (by show(2:Nat)<1000;decide) fun l2 h2=>?_;have n2:l2≠x:=fun e=>by rw[e,ao] at h2;cases h2
 have n21:l2≠l1:=fun e=>by rw[e,ar n1,ao] at h2;cases h2
 have g2:H l2=none:=by rw[ar n2,ar n21,ar n2] at h2;exact h2
 symm;refine sfldV (k:=k) (j:=4) rfl rfl ok ao (by show(3:Nat)<1000;decide) ?_;symm;refine sfldV (k:=k) (j:=5) rfl rfl ok ao (by show(4:Nat)<1000;decide) ?_;refine q _ (fun b o hb e=>?_) ⟨ok,dx,l1,l2,by rw[ao];rfl,?_,?_⟩
 . rw[ar hb,ar hb,ar hb,ar (aH e g2),ar hb,ar (aH e g1),ar hb];exact e
 . rw[ar n1,ar n1,ar n1,ar n21.symm,ar n1,ao]
 . rw[ar n2,ar n2,ar n2,ao]
def sQ(K:Frag)(c:RCl RK):Sp:=fun vs H Q E=>∃ k,yY K c k vs H Q E
def nq(K:Frag)(c:RCl RK):TS:=#[":jbiVk0'mdf#0 "]
def BC(h:sQ K c vs H Q E):nq K c (eD9 Q) (start ["self"] vs) H:=by
 obtain⟨k,r,p,w,ws,cs,n,m,rfl,x,q⟩:=h;obtain⟨dx,W,C,h1,h2,h3⟩:=x.ex;ac_nf;unfold nq;symm;refine fldE rfl x.ok h1 (v:=.ref W) (by rfl) ?_;symm;have e0:atI (((w::ws).map tx).map V.str) 0=some (V.str (tx w)):=f7 (j:=0) rfl;exact ixT h2 e0 q
def rJ(K:Frag)(c:RCl RK):Sp:=fun vs H Q E=>∃ k,jm K c k vs H Q E
def l6(K:Frag)(c:RCl RK):TS:=#[":jp:aVk0~Ke"]
def At(h:rJ K c vs H Q E):l6 K c (eD9 Q) (start ["self"] vs) H:=by
 obtain⟨k,r,p,ws,cs,n,m,rfl,x,q⟩:=h;obtain⟨dx,W,C,h1,h2,h3⟩:=x.ex;ac_nf;unfold l6;symm;refine fldE rfl x.ok h1 (v:=.ref C) (by rfl) ?_;symm;exact Ij h3 q
def pZ(K:Frag)(c:RCl RK):Sp:=fun vs H Q E=>∃ k,jN K c k vs H Q E
def lf(K:Frag)(c:RCl RK):TS:=#[":jVk0~v"]
def yZ(h:pZ K c vs H Q E):lf K c (eD9 Q) (start ["self"] vs) H:=by
 obtain⟨k,r,p,ws,cs,n,m,rfl,x,q⟩:=h;obtain⟨dx,W,C,h1,h2,h3⟩:=x.ex;ac_nf;unfold lf;symm;exact fldE rfl x.ok h1 (v:=.int n) (by rfl) q
def sR(K:Frag)(c:RCl RK):Sp:=fun vs H Q E=>∃ k,lc K c k vs H Q E
def nr(K:Frag)(c:RCl RK):TS:=#[":jVk0~?"]
def BD(h:sR K c vs H Q E):nr K c (eD9 Q) (start ["self"] vs) H:=by
 obtain⟨k,r,p,ws,cs,n,m,rfl,x,q⟩:=h;obtain⟨dx,W,C,h1,h2,h3⟩:=x.ex;ac_nf;unfold nr;symm;exact fldE rfl x.ok h1 (v:=.int m) (by rfl) q
def nt(K:Frag)(c:RCl RK):Sp:=fun vs H Q E=>∃ k,gJ K c k vs H Q E
def jo(K:Frag)(c:RCl RK):TS:=#[":jx&--1 'ncVk0~Kh#1 Jbi21"]
def wc(h:nt K c vs H Q E):jo K c (eD9 Q) (start ["self","filling"] vs) H:=by
 obtain⟨k,r,p,f,ws,cs,xs,n,m,rfl,x,hf,⟨hn,hc⟩,q⟩:=h;obtain⟨dx,W,C,h1,h2,h3⟩:=x.ex;ac_nf;unfold jo;rw[b5,DM];refine fldE rfl x.ok h1 (v:=.ref C) (by rfl) ?_;refine⟨C,rfl,⟨_,SqT.of h3⟩,?_⟩;refine zS (xs:=cs) (fun _=>true) (fun c=>xs.getD c.toNat 0) #[0] h3 ?_ ?_ ?_
 . intro x H1 R hx s1 k1;exact k1 _ (NK _)
 . intro z H1 Q1 hz hb s1 k1;show tOp cIx _ _ [none,⇑z,↑f] H1 Q1;symm;have:=hc z hz;exact ixI (s1 _ _ hf) this.1 #[0] (k1 _ (NK _))
 . intro l H1 hl s1 el;rw[br] at el;exact q l H1 s1 hl el
def nu(K:Frag):Sp:=fun vs H Q _=>∃ n:Nat,vs=[.str (tx (numC n))]/\n<100/\∀ H',Same H H'->Q (.int n) H'
def nv(K:Frag):TS:=#[":gnQmbsc0dqr=Qmb>pya0edf#9 Smbscbi0df#0 dqr`0mbAc0dqr`0jd~gognRzp~aax&-- 'U0h#1 JbKcB1dqr`1ejd~gojp'oa0e",[48],[48,49,50,51,52,53,54,55,56,57]]
def JB{c:Nat}(h0:48<=c)(h1:c<=57):(!(Builtin.Str.occurrences (tx [48,49,50,51,52,53,54,55,56,57]) ⟨#[c]⟩ 0 (tx [48,49,50,51,52,53,54,55,56,57]).length 1).isEmpty)=true:=by
 have t:((List.range 58).all fun c=>!decide (48<=c)||!(Builtin.Str.occurrences (tx [48,49,50,51,52,53,54,55,56,57]) ⟨#[c]⟩ 0 (tx [48,49,50,51,52,53,54,55,56,57]).length 1).isEmpty)=true:=by decide+kernel
 have:=Oe.mp t c (N8.mpr #[0])
 simpa [h0] using this
theorem BE(h:nu K vs H Q E):nv K (eD9 Q) (start ["word"] vs) H:=by
 obtain⟨n,rfl,hn,q⟩:=h;have hne:=JA hn;have hl:=gH (n:=n);ac_nf;unfold nv;rw[az,aC];symm;rw[ba,NL hne];refine iteF ⟨by rw[ga];exact aW #[0],?_⟩;symm;rw[ga,NL (show ¬ (9:Int) < ((numC n).length:Nat) by omega)];refine iteF ?_;rw[Kg,ga,xf]
 obtain⟨c,r,ec⟩:∃ c r,numC n=c::r:=by
  cases e:numC n with
  | nil=>exact absurd e hne
  | cons c r=>exact⟨c,r,rfl⟩
 refine⟨aW #[0],bf (a:=c) (by rw[ec];exact f7 (j:=0) rfl) ?_⟩;symm
 have e1:decide ((⟨#[c]⟩:Str)=tx [48])=decide (c=48):=by
  have:(⟨#[c]⟩:Str)=tx [c]:=rfl;rw[this,ba];simp
 rw[e1,ba]
 have e2:(decide (c=48)=true->decide (numC n=[48])=true):=by
  intro h;rw[NO] at h;have:=(He hn).1 (by rw[ec,h];rfl);subst this;decide
 have goal2:tSeq (tIfS (tNot (tB (tCB kAll (tCons (tComp [none,none] (iStr (tVar 0)) (gName 1) tTrue (tOp (cIn K false) (tVar 1) (tC (.str (tx [48,49,50,51,52,53,54,55,56,57]))))) tNil)))) (tRet (tC .non)) tNext) (tRet (tCB qR (tCons (tVar 0) tNil)))
   (eD9 Q) [some (.str (tx (numC n)))] H:=by
  rw[az,aC];symm;refine F6 (cs:=numC n) (fun _=>true) (fun _=>.bl true) #[0] ?_ ?_ ?_
  . intro i c H1 R hc s1 k1;exact k1 _ (NK _)
  . intro i c H1 Q1 hc hb s1 k1;have hd:=DO hn c (NV hc);show tOp (cIn K false) _ _ [none,some (.str (tx [c]))] H1 Q1;symm;have q1:=k1 _ (NK H1);show Q1 (.bl (if false=true then _ else !(Builtin.Str.occurrences (tx [48,49,50,51,52,53,54,55,56,57]) (tx [c]) 0 (tx [48,49,50,51,52,53,54,55,56,57]).length 1).isEmpty)) H1;rw[Ob NW,show tx [c]=⟨#[c]⟩ from rfl,JB hd.1 hd.2];exact q1
  . intro l H1 hl1 s1 el
    have eb:((List.range (numC n).length).filter fun _=>true).map (fun _=>V.bl true)=(List.replicate (numC n).length true).map V.bl:=by
     rw[br,List.map_const',OK,QV]
    rw[eb] at el;refine mL el ?_
    have ea:(List.replicate (numC n).length true).all id=true:=by
     rw[Oe];intro b hb;exact(QW.mp hb).2
    rw[ea];symm;exact⟨n,hn,rfl,q _ s1⟩
 cases hc:decide (c=48) with
 | false=>
  refine iteF ?_;exact goal2
 | true=>
  refine iteT ?_;rw[e2 hc];exact goal2
def gn(K:Frag):Sp:=fun vs H Q _=>∃ n lo hi,vs=[.str (tx (numC n)),.int lo,.int hi]/\n<100/\lo<=n/\n<=hi/\∀ H',Same H H'->Q (.int n) H'
def jp(K:Frag):TS:=#[":gl,'Vca0eh#3 gnQmb'p3d~gQmb<31mb>32Yoj3"]
def we(h:gn K vs H Q E):jp K (eD9 Q) (start ["word","least","most","number"] vs) H:=by
 obtain⟨n,lo,hi,rfl,hn,h0,h1,q⟩:=h;ac_nf;unfold jp;symm;refine⟨n,rfl,hn,fun H1 s1=>?_⟩;symm;rw[aC];symm;rw[NL (show ¬ V.int n=V.non from fun e=>nomatch e)];refine iteF ?_;rw[NL (show ¬ (n:Int)<lo by omega)];refine iteF ?_;rw[NL (show ¬ hi < (n:Int) by omega)];refine iteF ?_;symm;exact q _ s1
def WOk(ws:List (List Nat)):Prop:=∀ w∈ws,∀ c∈w,c<128
variable{w:List Nat}
def WOk.cons{ws:List (List Nat)}(h:∀ c∈w,c<128)(hs:WOk ws):WOk (w::ws):=fun v hv=>by
 rcases N4.mp hv with rfl | hv
 . exact h
 . exact hs v hv
variable{n:Nat}
def y0(h:n<100):∀ c∈numC n,c<128:=fun c hc=>by have:=DO h c hc;omega
def HJ(h:∀ c∈w,c<128):PyData.strOk (tx w)=true:=by
 unfold PyData.strOk;simp[tx];intro c hc;have:=h c hc;omega
def WOk.strs{ws:List (List Nat)}(h:WOk ws):∀ x∈ws.map tx,PyData.strOk x=true:=fun x hx=>by
 obtain⟨w,hw,rfl⟩:=N9.mp hx;exact HJ (h w hw)
def fu(K:Frag):Sp:=fun vs H Q _=>∃ p n ws lo hi,vs=[.ref p,.int lo,.int hi]/\H p=↥(((numC n::ws).map tx).map V.str)/\n<100/\WOk ws/\lo<=n/\n<=hi/\∀ H',Same H H'->Q (.int n) H'
def j3(K:Frag):TS:=#[":gnmbsc0veYoj,'qcabi0df#0 a1a2e"]
theorem DVs.strs{K:Frag}{H:Hp}:∀ ns:List Str,DVs K H (ns.map V.str) (ns.map PyData.str)
 | []=>.nil
 | n::r=>.cons (.str n) (DVs.strs r)
def oz(a b:Str):PyData.eqv (.str a) (.str b)=decide (a=b):=by
 rw[PyData.eqv];by_cases h:a=b
 . subst h;simp
 . simp[h]
def lN(ns:List Str)(hs:∀ x∈ns,PyData.strOk x=true):SeqAt.shaped (.list (ns.map PyData.str))=true:=by
 have h1:PyData.canLayAll0 (ns.map PyData.str)=true:=yW fun d hd=>by obtain⟨x,hx,rfl⟩:=N9.mp hd;rw[PyData.canLay0];exact hs x hx
 have h2:PyData.depthAll (ns.map PyData.str)<=0:=zQ fun d hd=>by obtain⟨x,_,rfl⟩:=N9.mp hd;exact NU _
 simp[SeqAt.shaped,PyData.canLay0,h1,PyData.depth];omega
variable{xs:List Str}
def JC{q:Addr}{ys:List Str}(hp:H p=↥(xs.map V.str))(hq:H q=↥(ys.map V.str))(h1:∀ x∈xs,PyData.strOk x=true)(h2:∀ x∈ys,PyData.strOk x=true)(h:Q (.bl (decide (xs=ys))) H):cEq K (.ref p) (.ref q) H Q:=by
 show rEqD K (.ref p) (.ref q) H Q;refine⟨.list (xs.map PyData.str),.list (ys.map PyData.str),.lst (N5 hp) (.strs xs),.lst (N5 hq) (.strs ys),lN xs h1,lN ys h2,?_⟩;rw[PyData.eqv,yX PyData.str oz];exact h
def JD{q:Addr}{ys:List Str}(hp:H p=↥(xs.map V.str))(hq:H q=↥(ys.map V.str))(h1:∀ x∈xs,PyData.strOk x=true)(h2:∀ x∈ys,PyData.strOk x=true)(h:Q (.bl (!decide (xs=ys))) H):cNe K (.ref p) (.ref q) H Q:=by
 show rNeD K (.ref p) (.ref q) H Q;refine⟨.list (xs.map PyData.str),.list (ys.map PyData.str),.lst (N5 hp) (.strs xs),.lst (N5 hq) (.strs ys),lN xs h1,lN ys h2,?_⟩;rw[PyData.eqv,yX PyData.str oz];exact h
def xi(h:fu K vs H Q E):j3 K (eD9 Q) (start ["words","least","most"] vs) H:=by
 obtain⟨p,n,ws,lo,hi,rfl,hp,hn,hw,h0,h1,q⟩:=h;ac_nf;unfold j3;rw[az,aC];symm;refine⟨aW #[1],fun l hl=>?_⟩;have s1:Same H (upd H l (.lst [])):=(NK H).laid hl;refine JC (s1 _ _ hp) (ys:=[]) ao (WOk.strs (WOk.cons (y0 hn) hw)) (fun x hx=>nomatch hx) ?_;generalize upd H l (.lst [])=H1 at*;symm;rw[NL (by simp)];refine iteF ?_;symm;have e0:atI (((numC n::ws).map tx).map V.str) 0=some (V.str (tx (numC n))):=f7 (j:=0) rfl;refine ixL (s1 _ _ hp) e0 ?_;symm;exact⟨n,lo,hi,rfl,hn,h0,h1,fun H2 s2=>q _ (s1.trans s2)⟩
def Hf(acc:∅)(v:Int):(step_dedup acc v).length<=acc.length+1:=by
 unfold step_dedup
 split <;> simp
theorem BF:∀(l acc:∅),(l.foldl step_dedup acc).length<=acc.length+l.length
 | [],acc=>by simp
 | x::r,acc=>by
  have h1:=BF r (step_dedup acc x);have h2:=Hf acc x;rw[P2,Oq];omega
theorem vn:∀(l acc:∅),acc.Nodup->((l.foldl step_dedup acc).length=acc.length+l.length↔(acc++l).Nodup)
 | [],acc,h=>by simpa using h
 | x::r,acc,h=>by
  rw[P2];by_cases hx:x∈acc
  . have e:step_dedup acc x=acc:=by
     unfold step_dedup;rw[Oh (by simpa using hx)]
    rw[e];have:=BF r acc;constructor
    . intro z;rw[Oq] at z;omega
    . intro z;have:=(Pk.mp z).2.2 x hx x Oc;exact absurd rfl this
  . have e:step_dedup acc x=acc++[x]:=by
     unfold step_dedup;rw[Ob (by simpa using hx)]
    rw[e];have hn:(acc++[x]).Nodup:=Pk.mpr ⟨h,by simp,fun a ha b hb z=>hx (by rw[Oa.mp hb] at z;exact z ▸ ha)⟩;have ih:=vn r (acc++[x]) hn;rw[N0,RJ] at ih;rw[Oq,show acc.length+(r.length+1)=acc.length+1+r.length by omega,show acc++x::r=acc++[x]++r by simp];exact ih
def y2(ns:∅):(List.range ns.length).map (fun i=>ns.getD i 0)=ns:=by
 have:=rH ns (fun x=>x)
 simpa using this
def Hg(ns:∅):cntD ns=ns.length↔ns.Nodup:=by
 unfold cntD firstMet;rw[y2];have:=vn ns [] Qp
 simpa using this
def l7(K:Frag):Sp:=fun vs H Q _=>∃(a p:Addr) (h w g:Int) (ns:List Nat),vs=[.ref a,.ref p]/\IsFl H a h w g/\FlOk h w g/\H p=↥(((ns.map numC).map tx).map V.str)/\ns≠[]/\ns.length<=16/\(∀ n∈ns,(n:Int)<h*w)/\ns.Nodup/\
 ∀ l H',Same H H'->H l=none->H' l=↥((ns.map fun(n:Nat)=>(n:Int)).map V.int)->Q (.ref l) H'
def l8(K:Frag):TS:=#[":g~w#2 &--0 wc1h#1 J,'qca1adf#0 abH,~tca2edf#1 egnmbsc2veYognmbAc'r2pya2eYoj2"]
variable{ns:List Nat}
theorem xj(h:ns.Nodup):(ns.map fun(n:Nat)=>(n:Int)).Nodup:=by
 induction ns with
 | nil=>exact Qp
 | cons a r ih=>
  rw[O7] at h;rw[Os,O7];refine⟨fun z=>?_,ih h.2⟩;obtain⟨b,hb,e⟩:=N9.mp z
  exact h.1 (by have:b=a:=by omega
                exact this ▸ hb)
def Au(h:l7 K vs H Q E):l8 K (eD9 Q) (start ["floor","words","cells"] vs) H:=by
 obtain⟨a,p,h,w,g,ns,rfl,ha,F,hp,hne,hn16,hlt,hnd,q⟩:=h;obtain⟨h0,h1,w0,w1,m16,g0,g1⟩:=F;ac_nf;unfold l8;symm;refine⟨⟨_,N5 hp⟩,?_⟩;refine cJ (xs:=((ns.map numC).map tx).map V.str) (fun _=>true) (fun i=>.int (ns.getD i 0:Nat)) (by simp;omega) (N5 hp) ?_ ?_ ?_
 . intro i x H1 R hx s1 k1;exact k1 _ (NK _)
 . intro i x H1 Q1 hx hb s1 k1;rw[NN,NN,NN] at hx
   cases e:ns[i]? with
   | none=>rw[e] at hx;cases hx
   | some n=>
    rw[e] at hx;cases hx;have hm:=hlt n (NV e);show tCall _ _ _ _ [none,some (.str (tx (numC n))),↑a] H1 Q1;symm;refine⟨a,h,w,g,rfl,s1 _ _ ha,h0,h1,?_⟩;symm;refine⟨n,0,_,rfl,by omega,by omega,by omega,fun H2 s2=>?_⟩;have q1:=k1 _ s2;have eg:ns.getD i 0=n:=by rw[List.getD,e];rfl
    rw[eg] at q1;exact q1
 . intro l H1 hl s1 el
   have ec:((List.range (((ns.map numC).map tx).map V.str).length).filter fun _=>true).map (fun i=>V.int (ns.getD i 0:Nat))=(ns.map fun(n:Nat)=>(n:Int)).map V.int:=by
    rw[br,NI,NI,NI,OE];refine O5 fun i=>?_;rw[NN,NN];by_cases h:i<ns.length
    . rw[OX h,NJ h];simp[List.getD,h]
    . rw[Od (by simpa using h),Od #[0]];rfl
   rw[ec] at el;symm;rw[aC];symm;refine⟨aW #[1],fun z hz=>?_⟩;have s2:Same H1 (upd H1 z (.lst [])):=(NK H1).laid hz;refine lL (s2 _ _ el) (ys:=[]) ao ?_;generalize upd H1 z (.lst [])=H2 at*;symm;rw[NL (by simpa using hne)];refine iteF ?_;symm;rw[aC];symm;refine⟨l,_,rfl,s2 _ _ el,by rw[NI];omega,?_⟩;rw[aS (s2 _ _ el),NI];symm;rw[NP (by rw[(Hg _).mpr (xj hnd)])];refine iteF ?_;symm;exact q l _ (s1.trans s2) hl (s2 _ _ el)
def allK:RK->Bool
 | .Joined=>true
 | .NoSquare=>true
 | .Ring=>true
 | _=>false
def numK:RK->Bool
 | .Sum=>true
 | .Seen=>true
 | .Count=>true
 | _=>false
def sgnK:RK->Bool
 | .Count=>true
 | .Joined=>true
 | .NoSquare=>true
 | .Ring=>true
 | _=>false
def JE(k:RK):decide (tx (nmC k)∈gZ)=allK k:=by cases k <;> decide+kernel
def JF(k:RK):decide (tx (nmC k)∈iH)=numK k:=by cases k <;> decide+kernel
def JG(k:RK):decide (tx (nmC k)∈ib)=sgnK k:=by cases k <;> decide+kernel
structure y3(k:RK)(h w:Int)(ns:List Nat)(cs:∅):Prop where
 told:allK k=false->ns≠[]/\ns.length<=16/\(∀ n∈ns,(n:Int)<h*w)/\ns.Nodup/\cs=ns.map fun(n:Nat)=>(n:Int)
 all:allK k=true->ns=[]/\cs=rngL 0 (h*w)
def pq(K:Frag):Sp:=fun vs H Q _=>∃ k a p h w g ns cs,vs=[.ref a,.str (tx (nmC k)),.ref p]/\IsFl H a h w g/\FlOk h w g/\H p=↥(((ns.map numC).map tx).map V.str)/\y3 k h w ns cs/\(∀ n∈ns,n<100)/\
 ∀ l H',Same H H'->H l=none->H' l=↥(cs.map V.int)->Q (.ref l) H'
def pr(K:Frag):TS:=#[":gnz~h'WM1j,'Xca0a2eognmbAc2veYoj~[a,~tca0ee"]
theorem Da(h:pq K vs H Q E):pr K (eD9 Q) (start ["floor","name","words"] vs) H:=by
 obtain⟨k,a,p,h,w,g,ns,cs,rfl,ha,F,hp,hc,hn,q⟩:=h;obtain⟨h0,h1,w0,w1,m16,g0,g1⟩:=id F;have mpos:0<=h*w:=Qa #[0] #[0];ac_nf;unfold pr;rw[az,aC];symm;rw[JE]
 cases hk:allK k with
 | false=>
  obtain⟨c1,c2,c3,c4,rfl⟩:=hc.told hk;symm;exact⟨a,p,h,w,g,ns,rfl,ha,F,hp,c1,c2,c3,c4,q⟩
 | true=>
  obtain⟨rfl,rfl⟩:=hc.all hk;symm;rw[aC];symm;refine⟨aW #[1],fun z hz=>?_⟩;have s1:Same H (upd H z (.lst [])):=(NK H).laid hz;refine JD (xs:=[]) (ys:=[]) (s1 _ _ hp) ao (fun x hx=>nomatch hx) (fun x hx=>nomatch hx) ?_;generalize upd H z (.lst [])=H1 at*;symm;refine⟨a,h,w,g,rfl,s1 _ _ ha,h0,h1,?_⟩;symm;refine⟨h*w,rfl,by omega,by omega,fun l hl=>?_⟩;exact q l _ (s1.laid hl) (s1.free hl) ao
def qT(K:Frag)(c:RCl RK):Sp:=fun vs H Q _=>∃ k p W C ws cs n m,vs=[.ref p,.ref W,.ref C,.int n,.int m]/\k≠.Rule/\c.ok k=true/\H W=↥(((nmC k::ws).map tx).map V.str)/\H C=↥(cs.map V.int)/\
 ∀ r H',Same H H'->H r=none->IsRule H' c k r p (nmC k::ws) cs n m->Q (.ref r) H'
def qU(K:Frag)(c:RCl RK):TS:=#[":glbi1df#0 h#5 gnmbsc5dqr`0j~b~i'Y~jck=~ca0a1a2a3a4eognmbsc5dqr`1j~b~i'Z~jck=~ca0a1a2a3a4eognmbsc5dqr`2j~b~i'*~jck=~ca0a1a2a3a4eognmbsc5dqr`3j~b~i'+~jck=~ca0a1a2a3a4eognmbsc5dqr`4j~b~i'-~jck=~ca0a1a2a3a4eognmbsc5dqr`5j~b~i'/~jck=~ca0a1a2a3a4eognmbsc5dqr`6j~b~i':~jck=~ca0a1a2a3a4eognmbsc5dqr`7j~b~i';~jck=~ca0a1a2a3a4eoY",[117,110,108,105,107,101],[115,117,109],[114,105,115,105,110,103],[115,101,101,110],[99,111,117,110,116],[106,111,105,110,101,100],[110,111,115,113,117,97,114,101],[114,105,110,103]]
def Ik{k:RK}{W C:Addr}{ws:List (List Nat)}{n m:Int}(ok:c.ok k=true)(hW:H W=↥((ws.map tx).map V.str))(hC:H C=↥(cs.map V.int))(q:∀ r H',Same H H'->H r=none->IsRule H' c k r p ws cs n m->Q (.ref r) H'):
  ∀ x dx,H x=none->H dx=none->dx≠x->aV K c (.ref x::([.ref p,.ref W,.ref C,.int n,.int m]++[])) (upd (upd H dx (.own x)) x (.ins (c.A k) dx [])) (fun v H2=>v=.non/\Q (.ref x) H2) E0:=by
 intro x dx hx hd ne;refine⟨k,x,dx,p,W,C,ws,cs,n,m,rfl,ok,ao,aH hW hx,aH hC hx,?_,?_,fun H' hs hr=>⟨rfl,q x H' (fun b o e=>hs b o (aH e hx) ?_) hx hr⟩⟩
 . rw[ar (aH hW hx),ar (aH hW hd)];exact hW
 . rw[ar (aH hC hx),ar (aH hC hd)];exact hC
 . rw[ar (aH e hx),ar (aH e hd)];exact e
theorem EE(h:qT K c vs H Q E):qU K c (eD9 Q) (start ["floor","words","cells","amount","mark","name"] vs) H:=by
 obtain⟨k,p,W,C,ws,cs,n,m,rfl,hk,ok,hW,hC,q⟩:=h;have mk:=Ik (K:=K) ok hW hC q;have e0:atI (((nmC k::ws).map tx).map V.str) 0=some (V.str (tx (nmC k))):=f7 (j:=0) rfl;ac_nf;unfold qU;symm;refine ixL hW e0 ?_
 have D:∀(l:List Nat) (t:TS) (u:TS) (D:Ends) (b:Bool),decide (nmC k=l)=b->(if b=true then t D [↑p,↑W,↑C,⇑n,⇑m,some (.str (tx (nmC k)))] H else u D [↑p,↑W,↑C,⇑n,⇑m,some (.str (tx (nmC k)))] H)->
   tIfS (tTest (tOp (cEq K) (tVar 5) (tC (.str (tx l))))) t u D [↑p,↑W,↑C,⇑n,⇑m,some (.str (tx (nmC k)))] H:=fun l t u D b hb hq=>by
  rw[aC];symm;rw[ba,hb];exact hq
 have R:∀(D:Ends),D.rt=Q->tRet (tMake (c.A k) (aV K c) [] E0 (tCons (tVar 0) (tCons (tVar 1) (tCons (tVar 2) (tCons (tVar 3) (tCons (tVar 4) tNil)))))) D [↑p,↑W,↑C,⇑n,⇑m,some (.str (tx (nmC k)))] H:=fun D hD=>by
  symm;rw[hD];exact mk
 cases k with
 | Rule=>exact absurd rfl hk
 | Unlike=>exact D _ _ _ _ true #[1] (iteT (R _ rfl))
 | Sum=>exact D _ _ _ _ false #[1] (iteF (D _ _ _ _ true #[1] (iteT (R _ rfl))))
 | Rising=>exact D _ _ _ _ false #[1] (iteF (D _ _ _ _ false #[1] (iteF (D _ _ _ _ true #[1] (iteT (R _ rfl))))))
 | Seen=>exact D _ _ _ _ false #[1] (iteF (D _ _ _ _ false #[1] (iteF (D _ _ _ _ false #[1] (iteF (D _ _ _ _ true #[1] (iteT (R _ rfl))))))))
 | Count=>exact D _ _ _ _ false #[1] (iteF (D _ _ _ _ false #[1] (iteF (D _ _ _ _ false #[1] (iteF (D _ _ _ _ false #[1] (iteF (D _ _ _ _ true #[1] (iteT (R _ rfl))))))))))
 | Joined=>exact D _ _ _ _ false #[1] (iteF (D _ _ _ _ false #[1] (iteF (D _ _ _ _ false #[1] (iteF (D _ _ _ _ false #[1] (iteF (D _ _ _ _ false #[1] (iteF (D _ _ _ _ true #[1] (iteT (R _ rfl))))))))))))
 | NoSquare=>exact D _ _ _ _ false #[1] (iteF (D _ _ _ _ false #[1] (iteF (D _ _ _ _ false #[1] (iteF (D _ _ _ _ false #[1] (iteF (D _ _ _ _ false #[1] (iteF (D _ _ _ _ false #[1] (iteF (D _ _ _ _ true #[1] (iteT (R _ rfl))))))))))))))
 | Ring=>exact D _ _ _ _ false #[1] (iteF (D _ _ _ _ false #[1] (iteF (D _ _ _ _ false #[1] (iteF (D _ _ _ _ false #[1] (iteF (D _ _ _ _ false #[1] (iteF (D _ _ _ _ false #[1] (iteF (D _ _ _ _ false #[1] (iteF (D _ _ _ _ true #[1] (iteT (R _ rfl))))))))))))))))
def rowW(k:RK)(n m:Nat)(ns:List Nat):List (List Nat):=nmC k::((if numK k then [numC n] else [])++(if sgnK k then [numC m] else [])++ns.map numC)
structure BG(k:RK)(h w g:Int)(n m:Nat)(ns:List Nat)(cs:∅):Prop where
 k0:k≠.Rule
 n0:n<=99
 nz:numK k=false->n=0
 m0:sgnK k=true->1<=(m:Int)/\(m:Int)<=g
 mz:sgnK k=false->m=0
 cl:y3 k h w ns cs
 ns0:∀ x∈ns,x<100
 len:ns.length<=16
def nA(K:Frag)(c:RCl RK):Sp:=fun vs H Q _=>∃ k p h w g n m ns cs,vs=[.ref p,.str (tx (catL 32 (rowW k n m ns)))]/\IsFl H p h w g/\FlOk h w g/\BG k h w g n m ns cs/\c.ok k=true/\
 ∀ r H',Same H H'->H r=none->IsRule H' c k r p (rowW k n m ns) cs n m->Q (.ref r) H'
def g7(K:Frag)(c:RCl RK):TS:=#[":j,'?cka0a2a,'[ca0a3a4ea5a6e"]
def j4(K:Frag)(c:RCl RK):TS:=#[":glbi2df#0 h#3 gl~n~o2~ddf#1 ~xh#4 gldf#0 h#5 gldf#0 h#6 gnz~h']B3gl,'sca4adf#0 adf#99 eh#5 l~n~o4~ddf#1 ~xh#4 ognz~h'^B3gl,'sca4adf#1 abi0df#2 eh#6 l~n~o4~ddf#1 ~xh#4 o{ack"]
def nB(K:Frag)(c:RCl RK):TS:=#[":gnRzp-a1ad/~yeYoglEc~y{b1adqr`0eh#2 {cck",[32]]
def Il(k:RK):32∉nmC k:=by cases k <;> decide
def Ki(k:RK):∀ c∈nmC k,c<128:=by cases k <;> decide
variable{m:Nat}
def Ga{k:RK}(hn:n<100)(hm:m<100)(hs:∀ x∈ns,x<100):∀ r∈rowW k n m ns,32∉r:=by
 intro r hr;unfold rowW at hr;rcases N4.mp hr with rfl | hr
 . exact Il k
 rcases Oj.mp hr with hr | hr
 . rcases Oj.mp hr with hr | hr
   . split at hr
     . rw[Oa.mp hr];exact vZ hn
     . cases hr
   . split at hr
     . rw[Oa.mp hr];exact vZ hm
     . cases hr
 . obtain⟨x,hx,rfl⟩:=N9.mp hr;exact vZ (hs x hx)
theorem Hh(xs:List V):cutV xs (some 1) none=xs.drop 1:=by
 unfold cutV;have h1:HT.sIx xs.length 0 (some 1)=min 1 xs.length:=HT.sIx_nat ..;have h2:HT.sIx xs.length xs.length none=xs.length:=rfl;rw[h1,h2]
 cases xs with
 | nil=>rfl
 | cons x r=>
  have:min 1 (x::r).length=1:=by simp
  rw[this];show(r).take _=r;rw[OS (by simp)]
def oA {k:RK} {W R:Addr} {h w g:Int} {ws:List (List Nat)} {lv:V} (F:FlOk h w g) (ha:IsFl H p h w g) (hW:H W=↥(((nmC k::ws).map tx).map V.str)) (hR:H R=↥(((ns.map numC).map tx).map V.str)) (hc:y3 k h w ns cs) (hn:∀ x∈ns,x<100) (k0:k≠.Rule) (ok:c.ok k=true)
  (q:∀ r H',Same H H'->H r=none->IsRule H' c k r p (nmC k::ws) cs n m->Q (.ref r) H'):
  g7 K c (eD9 Q) [↑p,some lv,↑W,some (.str (tx (nmC k))),↑R,⇑n,⇑m] H:=by
 unfold g7;symm;refine⟨k,p,R,h,w,g,ns,cs,rfl,ha,F,hR,hc,hn,fun l H1 s1 hl el=>?_⟩;symm;exact⟨k,p,W,l,ws,cs,n,m,rfl,k0,ok,s1 _ _ hW,el,fun r H2 s2 hr x=>q r H2 (s1.trans s2) (s1.free hr) x⟩
def Db{k:RK}(h:ns.length<=16):(rowW k n m ns).length<=100/\∀ w∈rowW k n m ns,w.length<=100:=by
 unfold rowW;refine⟨?_,fun w hw=>?_⟩
 . simp only[Oq,N0,NI]
   split <;> split <;> simp <;> omega
 . rcases N4.mp hw with rfl | hw
   . cases k <;> decide
   have h2:∀ x,(numC x).length<=100:=fun x=>NS gH #[1];rcases Oj.mp hw with hw | hw
   . rcases Oj.mp hw with hw | hw
     . split at hw
       . rw[Oa.mp hw];exact h2 _
       . cases hw
     . split at hw
       . rw[Oa.mp hw];exact h2 _
       . cases hw
   . obtain⟨x,hx,rfl⟩:=N9.mp hw;exact h2 _
theorem xk:∀(NA:List (List Nat)),(∀ r∈NA,r.length<=100)->(catL 32 NA).length<=101*NA.length
 | [],_=>Ox _
 | [x],h=>by
  have:=h x Oc;show x.length<=101*1;omega
 | x::y::r,h=>by
  have h1:=h x Oc;have ih:=xk (y::r) fun z hz=>h z (N3 _ hz);have e:catL 32 (x::y::r)=x++32::catL 32 (y::r):=by first | rfl | simp[catL]
  rw[e,N0,Oq,Oq];omega
def y4{x:Str}(hp:H p=↥((x::xs).map V.str))(q:∀ l,H l=none->Q (.ref l) (upd H l (.lst (xs.map V.str)))):nc (.ref p) (some 1) none H Q:=by
 refine w9 hp fun l hl=>?_;rw[Hh];exact q l hl
theorem xm {k:RK} {W:Addr} {h w g:Int} {lv:V} (F:FlOk h w g) (ha:IsFl H p h w g) (hW:H W=↥(((rowW k n m ns).map tx).map V.str)) (O:BG k h w g n m ns cs) (ok:c.ok k=true)
  (q:∀ r H',Same H H'->H r=none->IsRule H' c k r p (rowW k n m ns) cs n m->Q (.ref r) H'):
  j4 K c (eD9 Q) [↑p,some lv,↑W,none,none,none,none] H:=by
 obtain⟨k0,n0,nz,m0,mz,cl,ns0,len⟩:=O;obtain⟨h0,h1,w0,w1,m16,g0,g1⟩:=id F;have e0:atI (((rowW k n m ns).map tx).map V.str) 0=some (V.str (tx (nmC k))):=f7 (j:=0) rfl;have hns:WOk (ns.map numC):=fun v hv=>by obtain⟨x,hx,rfl⟩:=N9.mp hv;exact y0 (ns0 x hx)
 unfold j4;symm;refine ixL hW e0 ?_;symm;refine y4 hW fun R hR=>?_;obtain⟨H1,z9,s1,eR⟩:=a9 (.lst ((((if numK k then [numC n] else [])++(if sgnK k then [numC m] else [])++ns.map numC).map tx).map V.str)) hR;rw[z9];symm
 have two:∀{H2:Hp} {R2:Addr},Same H H2->H2 R2=↥((((if sgnK k then [numC m] else [])++ns.map numC).map tx).map V.str)->
   tSeq (tIfS (tB (tInG ib false (tVar 3))) (tSeq (tAsg (tCall (fu K) [] E0 (tCons (tVar 4) (tCons (tC (.int 1)) (tCons (tOp cIx (tVar 0) (tC (.int 2))) tNil)))) (gName 6)) (tAsg (tSl nc (tVar 4) (tPart (tC (.int 1))) jL) (gName 4))) tNext) (g7 K c) (eD9 Q)
    [↑p,some lv,↑W,some (.str (tx (nmC k))),↑R2,⇑n,⇑0] H2:=by
  intro H2 R2 s2 eR2;rw[az,aC];symm;rw[JG]
  cases hs:sgnK k with
  | false=>
   rw[hs] at eR2;have:=mz hs;subst this;symm;exact oA F (s2 _ _ ha) (s2 _ _ hW) eR2 cl ns0 k0 ok fun r H3 s3 hr x=>q r H3 (s2.trans s3) (s2.free hr) x
  | true=>
   rw[hs] at eR2;have hm:=m0 hs;symm;refine ixT (s2 _ _ ha) (v:=V.int g) rfl ?_;symm;refine⟨R2,m,ns.map numC,1,g,rfl,eR2,by omega,hns,hm.1,hm.2,fun H3 s3=>?_⟩;symm;refine y4 (s3 _ _ eR2) fun R3 hR3=>?_;have s4:Same H3 (upd H3 R3 (.lst (((ns.map numC).map tx).map V.str))):=(NK H3).laid hR3;have s24:=(s2.trans s3).trans s4;exact oA F (s24 _ _ ha) (s24 _ _ hW) ao cl ns0 k0 ok fun r H5 s5 hr x=>q r H5 (s24.trans s5) (s24.free hr) x
 rw[aC];symm;rw[JF]
 cases hn:numK k with
 | false=>
  rw[hn] at eR;have:=nz hn;subst this;symm;exact two s1 eR
 | true=>
  rw[hn] at eR;symm;refine⟨R,n,(if sgnK k then [numC m] else [])++ns.map numC,0,99,rfl,eR,by omega,?_,by omega,by omega,fun H3 s3=>?_⟩
  . intro v hv;rcases Oj.mp hv with hv | hv
    . split at hv
      . rename_i hs
        have:=m0 hs;rw[Oa.mp hv];exact y0 #[0]
      . cases hv
    . exact hns v hv
  symm;refine y4 (s3 _ _ eR) fun R3 hR3=>?_;have s4:Same H3 (upd H3 R3 (.lst ((((if sgnK k then [numC m] else [])++ns.map numC).map tx).map V.str))):=(NK H3).laid hR3;symm;exact two ((s1.trans s3).trans s4) ao
def BH(h:nA K c vs H Q E):nB K c (eD9 Q) (start ["floor","line","words","name","rest","amount","mark"] vs) H:=by
 obtain⟨k,p,h,w,g,n,m,ns,cs,rfl,ha,F,O,ok,q⟩:=h
 have hm:m<100:=by
  by_cases hs:sgnK k=true
  . have:=(O.m0 hs).2;have:=F.g1;omega
  . have:=O.mz (by simpa using hs);omega
 have hsp:Txt.split (tx (catL 32 (rowW k n m ns))) (tx [32])=(rowW k n m ns).map tx:=Hc (by simp[rowW]) (Ga (by have:=O.n0;omega) hm O.ns0);have hl:=Db (k:=k) (n:=n) (m:=m) O.len;have hl2:=xk _ hl.2;ac_nf;unfold nB;rw[az,aC];symm;refine⟨Ex,?_⟩;rw[Ie,hsp];refine⟨by rw[ga];decide,by rw[ga];exact Ou (OA hl2 (OA (Nat.mul_le_mul_left 101 hl.1) #[1])),by rw[NI];exact aW #[0],fun W hW=>?_⟩;have s1:Same H (upd H W (.lst (((rowW k n m ns).map tx).map V.str))):=(NK H).laid hW;exact xm F (s1 _ _ ha) ao O ok fun r H2 s2 hr x=>q r H2 (s1.trans s2) (s1.free hr) x
theorem zT{α β:Type}(f:α->β):∀(l:List α) (j:Nat),(l.map f).eraseIdx j=(l.eraseIdx j).map f
 | [],_=>rfl
 | _::_,0=>rfl
 | x::r,j+1=>by
  show f x::(r.map f).eraseIdx j=f x::(r.eraseIdx j).map f;rw[zT f r j]
theorem xn{α:Type}:∀(l:List α) (j:Nat) (h:j<l.length),(l[j]::l.eraseIdx j).Perm l
 | [],_,h=>absurd h (by simp)
 | x::r,0,_=>List.Perm.refl _
 | x::r,j+1,h=>by
  have hj:j<r.length:=by simpa using h
  have ih:=xn r j hj;show(r[j]::x::r.eraseIdx j).Perm (x::r);exact(List.Perm.swap x r[j] (r.eraseIdx j)).trans (List.Perm.cons x ih)
theorem sS{α β:Type}(f:α->β):∀{l:List α},(l.map f).Nodup->l.Nodup
 | [],_=>Qp
 | a::r,h=>by
  rw[Os,O7] at h;rw[O7];exact⟨fun z=>h.1 (N9.mpr ⟨a,z,rfl⟩),sS f h.2⟩
def Gb(n:Int):(rngL 0 n).Nodup:=by
 unfold rngL;have e:(List.range (n-0).toNat).map (fun(k:Nat)=>0+(k:Int))=(List.range (n-0).toNat).map fun(k:Nat)=>(k:Int):=QL fun k _=>by omega
 rw[e];exact xj List.nodup_range
def DQ{n x:Int}(h:x∈rngL 0 n):0<=x/\x<n:=by
 unfold rngL at h;obtain⟨k,hk,rfl⟩:=N9.mp h;have:=N8.mp hk;omega
def oB(K:Frag)(c:RCl RK):Sp:=fz K c .Unlike
def j5(K:Frag)(c:RCl RK):TS:=#[":glDkL~L~Mck0a1eh#2 jbsc'r2pya2e"]
def xo(h:oB K c vs H Q E):j5 K c (eD9 Q) (start ["self","filling","signs"] vs) H:=by
 obtain⟨r,p,f,ws,cs,xs,n,m,h,w,g,rfl,x,ha,F,hf,hC,hx,q⟩:=h;obtain⟨dx,W,C,h1,h2,h3⟩:=x.ex;ac_nf;unfold j5;symm;refine methE rfl x.ok h1 (by rfl) ?_;symm;refine⟨r,p,f,ws,cs,xs,n,m,rfl,x,hf,hC,fun l H1 s1 hl el=>?_⟩;have NF:(sgAt xs cs).length<=100:=by unfold sgAt;rw[NI];exact NS hC.1 #[1]
 symm;refine⟨l,_,rfl,el,by omega,?_⟩;symm;rw[aS el,NI];symm;have q1:=q _ s1;unfold hoB at q1;dsimp only at q1
 have e:decide (((cntD (sgAt xs cs):Nat):Int)=((sgAt xs cs).length:Nat))=decide (cntD (sgAt xs cs)=(sgAt xs cs).length):=by
  rw[Oi,NO,NO];omega
 rw[e];exact q1
def vo(xs:∅)(i:Nat)(y:Int):(xs.map V.int).set i (.int y)=(xs.set i y).map V.int:=by rw[List.map_set]
def uK(h:n<100):((n:Int)).natAbs.log2<1920:=by
 have t:((List.range 100).all fun n=>decide (n.log2<1920))=true:=by decide+kernel
 have:=Oe.mp t n (N8.mpr h)
 simpa using this
def Im(h:n<100)(q:Q (.str (tx (numC n))) H):kStr [.int (n:Int)] H Q:=by
 refine⟨uK h,?_⟩;rw[uJ h];exact q
def zU {C:Addr} {cs:List Nat} (hC:H C=↥((cs.map fun(n:Nat)=>(n:Int)).map V.int)) (hl:cs.length<=100) (hc:∀ c∈cs,c<100)
  (hd:∀ l H',H l=none->Same H H'->H' l=↥(((cs.map numC).map tx).map V.str)->fin l H'):CompR (Itl K C) (gName 1) tTrue (tCB kStr (tCons (tVar 1) tNil)) fin [none,none] H:=by
 refine cJ (xs:=(cs.map fun(n:Nat)=>(n:Int)).map V.int) (fun _=>true) (fun i=>.str (tx (numC (cs.getD i 0)))) (by simp;omega) (N5 hC) ?_ ?_ ?_
 . intro i x H1 R hx s1 k1;exact k1 _ (NK _)
 . intro i x H1 Q1 hx hb s1 k1;rw[NN,NN] at hx
   cases e:cs[i]? with
   | none=>rw[e] at hx;cases hx
   | some n=>
    rw[e] at hx;cases hx;show tCB kStr _ [none,⇑(n:Int)] H1 Q1;symm;have q1:=k1 _ (NK H1);have eg:cs.getD i 0=n:=by rw[List.getD,e];rfl
    rw[eg] at q1;have:=Im (H:=H1) (Q:=Q1) (hc n (NV e)) q1;exact this
 . intro l H1 hl1 s1 el;refine hd l H1 hl1 s1 ?_;rw[el,br,NI,NI,OE,OE]
   congr 2
   refine O5 fun i=>?_;rw[NN,NN];by_cases h:i<cs.length
   . rw[OX h,NJ h];simp[List.getD,h]
   . rw[Od (by simpa using h),Od #[0]];rfl
theorem fC{c:Nat}{x:List Nat}:∀{rs:List (List Nat)},rs≠[]->catL c (x::rs)=x++c::catL c rs
 | [],h=>absurd rfl h
 | y::r,_=>by first | rfl | simp[catL]
section
variable{X:Cx}{a:Expr}{ta:TE}{pos p:Pos}{x:Str}{ws:List Str}
def p0(G:GTup X.K X.mg x ws)(ha:PE X a ta)(hg:Gl X x)(hdb:(x==("__debug__":Str))=false:=by decide)(hm:behindInMarks .In (.Name x p)=false:=by with_unfolding_all rfl):PT X (.Compare a [.In] [.Name x p] pos) (tB (tInG ws false ta)):=by
 obtain⟨q,o,ND,n,h1,h2⟩:=G.ex;have h0:=ak (pos:=pos) (Jz ⟨o,ND,n,h2⟩) ha (cK (v:=V.ref q) hg h1 rfl hdb) hm;intro Nz s σ H Q I h;refine h0 Nz s σ H Q I ?_
 have e:(fun(x:V) (H1:Hp)=>∃ z,x=.str z/\∃ k,V.bl (if false=true then !decide (z∈ws) else decide (z∈ws))=.bl k/\Q k H1)=fun x H1=>∃ z,x=.str z/\(V.ref q=V.ref q)/\∃ k,V.bl (decide (z∈ws))=.bl k/\Q k H1:=by
  funext x H1;simp
 have h':ta σ H (fun(x:V) (H1:Hp)=>∃ z,x=.str z/\∃ k,V.bl (if false=true then !decide (z∈ws) else decide (z∈ws))=.bl k/\Q k H1):=h;rw[e] at h';exact h'
def DR(G:GTup X.K X.mg x ws)(ha:PE X a ta)(hg:Gl X x)(hdb:(x==("__debug__":Str))=false:=by decide)(hm:behindInMarks .NotIn (.Name x p)=false:=by with_unfolding_all rfl):PT X (.Compare a [.NotIn] [.Name x p] pos) (tB (tInG ws true ta)):=by
 obtain⟨q,o,ND,n,h1,h2⟩:=G.ex;have h0:=ak (pos:=pos) (Ig ⟨o,ND,n,h2⟩) ha (cK (v:=V.ref q) hg h1 rfl hdb) hm;intro Nz s σ H Q I h;refine h0 Nz s σ H Q I ?_
 have e:(fun(x:V) (H1:Hp)=>∃ z,x=.str z/\∃ k,V.bl (if true=true then !decide (z∈ws) else decide (z∈ws))=.bl k/\Q k H1)=fun x H1=>∃ z,x=.str z/\(V.ref q=V.ref q)/\∃ k,V.bl (!decide (z∈ws))=.bl k/\Q k H1:=by
  funext x H1;simp
 have h':ta σ H (fun(x:V) (H1:Hp)=>∃ z,x=.str z/\∃ k,V.bl (if true=true then !decide (z∈ws) else decide (z∈ws))=.bl k/\Q k H1):=h;rw[e] at h';exact h'
end
inductive PzK where
 | Puzzle
 deriving DecidableEq
structure RR where
 k:RK
 n:Nat
 m:Nat
 ns:List Nat
 cs:∅
def RR.ws(r:RR):List (List Nat):=rowW r.k r.n r.m r.ns
def RR.txt(r:RR):Str:=tx (catL 32 r.ws)
def RR.Ok(r:RR)(h w g:Int):Prop:=BG r.k h w g r.n r.m r.ns r.cs
structure IsRules(H:Hp)(c:RCl RK)(p L:Addr)(rs:List Addr)(NA:List RR):Prop where
 top:H L=↥(rs.map V.ref)
 len:rs.length=NA.length
 at_:∀(i:Nat) (r:Addr) (x:RR),rs[i]? =some r->NA[i]? =some x->IsRule H c x.k r p x.ws x.cs x.n x.m
variable{H:Hp}{c:RCl RK}{p:Addr}{rs:List Addr}{NA:List RR}
def IsRules.same{H':Hp}{L:Addr}(x:IsRules H c p L rs NA)(s:Same H H'):IsRules H' c p L rs NA:=
 ⟨s _ _ x.top,x.len,fun i r y h1 h2=>(x.at_ i r y h1 h2).same s⟩
variable{cs:∅}{o:HO}
def IsRule.lst{k:RK}{r a:Addr}{ws:List (List Nat)}{n m:Int}{xs:List V}(x:IsRule H c k r p ws cs n m)(ha:H a=↥xs):IsRule (upd H a o) c k r p ws cs n m:=by
 obtain⟨dx,W,C,h1,h2,h3⟩:=x.ex;refine⟨x.ok,dx,W,C,?_,?_,?_⟩
 . rw[ar (fun e=>by rw[e,ha] at h1;cases h1)];exact h1
 . rw[ar (fun e=>by rw[e,ha] at h2;cases h2)];exact h2
 . rw[ar (fun e=>by rw[e,ha] at h3;cases h3)];exact h3
def pFs(p L G:Addr):List (Str × V):=[("floor",.ref p),("laws",.ref L),("given",.ref G)]
structure xp(c:RCl RK)(h w g:Int)(NA:List RR):Prop where
 F:FlOk h w g
 n:NA.length<=12
 ok:∀ r∈NA,r.Ok h w g
 c:∀ r∈NA,c.ok r.k=true
structure CluesOk(h w g:Int)(cl:∅):Prop where
 len:cl.length=(h*w).toNat
 ok:∀ x∈cl,0<=x/\x<=g
structure IsPz(H:Hp)(c:RCl RK)(d:RCl PzK)(P L G:Addr)(h w g:Int)(NA:List RR)(cl:∅):Prop where
 ok:d.ok .Puzzle=true
 R:xp c h w g NA
 C:CluesOk h w g cl
 gv:H G=↥(cl.map V.int)
 ex:∃ dx p rs,H P=some (.ins (d.A .Puzzle) dx (pFs p L G))/\IsFl H p h w g/\IsRules H c p L rs NA
variable{d:RCl PzK}{cl:∅}
def IsPz.same{H':Hp}{P L G:Addr}{h w g:Int}(x:IsPz H c d P L G h w g NA cl)(s:Same H H'):IsPz H' c d P L G h w g NA cl:=by
 obtain⟨dx,p,rs,h1,h2,h3⟩:=x.ex;exact⟨x.ok,x.R,x.C,s _ _ x.gv,dx,p,rs,s _ _ h1,s _ _ h2,h3.same s⟩
def fD(K:Frag):Sp:=fun vs H Q _=>∃ i:Int,vs=[.int i]/\Q (.bl true) H
def px(K:Frag):TS:=#[":jOp-a0ad/~Ne'tp-a0ad/'ue"]
variable{K:Frag}{vs:List V}{Q:VK}{E:XK}
def Dc(h:fD K vs H Q E):px K (eD9 Q) (start ["value"] vs) H:=by
 obtain⟨i,rfl,q⟩:=h;ac_nf;unfold px;symm;exact q
def cQ(K:Frag):Sp:=fun vs H Q _=>∃ i m:Int,vs=[.int i,.int m]/\Q (.bl (decide (1<=i)&&decide (i<=m))) H
def iK(K:Frag):TS:=#[":jO,~zca0eOb(df#1 0b(01"]
theorem uS(h:cQ K vs H Q E):iK K (eD9 Q) (start ["value","most"] vs) H:=by
 obtain⟨i,m,rfl,q⟩:=h;ac_nf;unfold iK;symm;refine⟨i,rfl,⟨true,rfl,iteT ?_⟩⟩;symm
 cases hb:decide (1<=i) with
 | false=>
  rw[hb,NZ] at q;exact iteF q
 | true=>
  rw[hb,N2] at q;exact iteT q
def pA(K:Frag):Sp:=fun vs H Q _=>∃ h w g:Int,vs=[.int h,.int w,.int g]/\FlOk h w g/\∀ p,H p=none->Q (.ref p) (upd H p (.tup [.int h,.int w,.int g]))
def pB(K:Frag):TS:=#[":gnRz,~Oca0adf#6 eYognRz,~Oca1adf#6 eYognmb>bX01df#16 YognRz,~Oca2adf#6 eYojTa0a1a2e"]
def Dd(h:pA K vs H Q E):pB K (eD9 Q) (start ["high","wide","signs"] vs) H:=by
 obtain⟨h,w,g,rfl,F,q⟩:=h;obtain⟨h0,h1,w0,w1,m16,g0,g1⟩:=id F;ac_nf;unfold pB;rw[az,aC];symm;refine⟨h,6,rfl,⟨_,rfl,?_⟩⟩;rw[NP h0,NP h1,RS];refine iteF ?_;rw[aC];symm;refine⟨w,6,rfl,⟨_,rfl,?_⟩⟩;rw[NP w0,NP w1,RS];refine iteF ?_;rw[aC];symm;refine⟨ox h0 h1,?_⟩;rw[NL (show ¬ (16:Int)<h*w by omega)];refine iteF ?_;rw[aC];symm;refine⟨g,6,rfl,⟨_,rfl,?_⟩⟩;rw[NP g0,NP g1,RS];refine iteF ?_;symm;exact⟨lnR rfl,q⟩
def jq(K:Frag):Sp:=fun vs H Q _=>∃ p h w g,vs=[.ref p]/\IsFl H p h w g/\FlOk h w g/\∀ p,H p=none->Q (.ref p) (upd H p (.tup [.int h,.int w,.int g]))
def jr(K:Frag):TS:=#[":gnQRzp-a0ad/~]embAcpya0edf#3 Yoj,{dcabi0df#0 abi0df#1 abi0df#2 e"]
def wf(h:jq K vs H Q E):jr K (eD9 Q) (start ["floor"] vs) H:=by
 obtain⟨p,h,w,g,rfl,hp,F,q⟩:=h;ac_nf;unfold jr;rw[az,aC];symm;refine Bq hp ?_;symm;rw[Bk hp,show(([V.int h,V.int w,V.int g]:List V).length:Int)=3 from rfl];symm;refine ixT hp (v:=V.int h) rfl ?_;symm;refine ixT hp (v:=V.int w) rfl ?_;symm;refine ixT hp (v:=V.int g) rfl ?_;symm;exact⟨h,w,g,rfl,F,q⟩
def l9(K:Frag)(c:RCl RK):Sp:=fun vs H Q _=>∃ p a h w g NA,vs=[.ref p,.ref a]/\IsFl H p h w g/\H a=↥((NA.map RR.txt).map V.str)/\xp c h w g NA/\
 ∀ l rs H',Same H H'->H l=none->IsRules H' c p l rs NA->Q (.ref l) H'
def ma(K:Frag)(c:RCl RK):TS:=#[":gnmb>pya1edf#12 Yojx&--0 wc1h#1 J,{ecka2a1e"]
def Av(h:l9 K c vs H Q E):ma K c (eD9 Q) (start ["floor","lines"] vs) H:=by
 obtain⟨p,a,h,w,g,NA,rfl,hp,ha,O,q⟩:=h;have hn:=O.n;ac_nf;unfold ma;rw[az,aC];symm;rw[aS ha,NI,NI];symm;rw[NL (show ¬ (12:Int) < (NA.length:Nat) by omega)];refine iteF ?_;symm;refine⟨⟨_,N5 ha⟩,?_⟩
 refine sI (xs:=(NA.map RR.txt).map V.str) (fun l i σ H'=>(∃ cv,σ=[none,cv,↑p])/\Same H H'/\∃ rs:List Addr,H' l=↥(rs.map V.ref)/\rs.length=i/\∀(j:Nat) (r:Addr) (x:RR),rs[j]? =some r->NA[j]? =some x->IsRule H' c x.k r p x.ws x.cs x.n x.m)
  (fun l hl=>⟨⟨none,rfl⟩,(NK H).laid hl,[],by rw[ao];rfl,rfl,fun j r x e=>by simp at e⟩) (fun l i σ H' _ _ x=>x.2.1.seq (N5 ha)) ?_ ?_
 . rintro l i x σ H1 hl hx ⟨⟨cv,rfl⟩,s1,rs,el,NF,hat⟩;rw[NN,NN] at hx
   cases e:NA[i]? with
   | none=>rw[e] at hx;cases hx
   | some y=>
    rw[e] at hx;cases hx;have hi:=(NR.mp e).1;have hm:=NV e;rw[aQ];show tTrue [none,some (.str y.txt),↑p] H1 _;symm;refine⟨y.k,p,h,w,g,y.n,y.m,y.ns,y.cs,rfl,s1 _ _ hp,O.F,O.ok y hm,O.c y hm,fun r H2 s2 hr xr=>?_⟩;have nrl:r≠l:=fun z=>by rw[z,el] at hr;cases hr
    refine⟨_,s2 _ _ el,by rw[NI];exact aJ #[0],⟨_,rfl⟩,(s1.trans s2).own hl,rs++[r],by rw[ao];simp,by simp[NF],fun j r' x' h1 h2=>?_⟩;by_cases hj:j<rs.length
    . rw[OG hj] at h1;exact((hat j r' x' h1 h2).same s2).lst (s2 _ _ el)
    . rw[OT #[0]] at h1
      have hj0:j-rs.length=0:=by
       have:=(NR.mp h1).1;simp at this;omega
      rw[hj0] at h1;have:j=i:=by omega
      subst this;rw[e] at h2;simp at h1;cases h2;subst h1;exact xr.lst (s2 _ _ el)
 . rintro l σ H1 hl ⟨_,s1,rs,el,NF,hat⟩;exact q l rs H1 s1 hl ⟨el,by rw[NF];simp,hat⟩
def filB(least g:Int)(n:Nat)(xs:∅):Bool:=decide (xs.length=n)&&xs.all fun x=>decide (least<=x)&&decide (x<=g)
def md(K:Frag):Sp:=fun vs H Q _=>∃ p a h w g least xs,vs=[.ref p,.ref a,.int least]/\IsFl H p h w g/\FlOk h w g/\H a=↥(xs.map V.int)/\xs.length<=100/\∀ H',Same H H'->Q (.bl (filB least g (h*w).toNat xs)) H'
def me(K:Frag):TS:=#[":gnQRzp-a1ad/GembAcpya1e,~tca0ejdFBojp~aax&--02 wc1h#1 JO,~zca1eOb(31b(1bi2df#2 e"]
def Aw(h:md K vs H Q E):me K (eD9 Q) (start ["floor","filling","least"] vs) H:=by
 obtain⟨p,a,h,w,g,least,xs,rfl,hp,F,ha,hn,q⟩:=h;obtain⟨h0,h1,w0,w1,m16,g0,g1⟩:=id F;have mpos:0<=h*w:=Qa #[0] #[0];ac_nf;unfold me;rw[az,aC];symm;refine Bp ha ?_;symm;rw[aS ha,NI];symm;refine⟨p,h,w,g,rfl,hp,h0,h1,?_⟩;symm;unfold filB at q;by_cases hl:xs.length=(h*w).toNat
 . rw[NP (show(xs.length:Int)=h*w by omega)];rw[NP hl] at q;symm;refine⟨⟨_,N5 ha⟩,?_⟩;refine cJ (xs:=xs.map V.int) (fun _=>true) (fun i=>.bl (decide (least<=xs.getD i 0)&&decide (xs.getD i 0<=g))) (by rw[NI];omega) (N5 ha) ?_ ?_ ?_
   . intro i x H1 R hx s1 k1;exact k1 _ (NK _)
   . intro i x H1 Q1 hx hb s1 k1;obtain⟨z,hz,rfl⟩:=bi hx;have q1:=k1 _ (NK H1);rw[k9 hz] at q1;show tAndV _ _ [none,⇑z,↑p,⇑least] H1 Q1;symm;refine⟨z,rfl,⟨true,rfl,iteT ?_⟩⟩;symm
     cases hb:decide (least<=z) with
     | false=>
      rw[hb,NZ] at q1;exact iteF q1
     | true=>
      rw[hb,N2] at q1;refine iteT ?_;symm;refine ixT (s1 _ _ hp) (v:=V.int g) rfl ?_;symm;exact q1
   . intro l H1 hl1 s1 el
     have eb:((List.range (xs.map V.int).length).filter fun _=>true).map (fun i=>V.bl (decide (least<=xs.getD i 0)&&decide (xs.getD i 0<=g)))=(xs.map fun x=>decide (least<=x)&&decide (x<=g)).map V.bl:=by
      rw[br,NI];refine O5 fun i=>?_;rw[NN,NN,NN];by_cases h:i<xs.length
      . rw[OX h,NJ h];simp[List.getD,h]
      . rw[Od (by simpa using h),Od #[0]];rfl
     rw[eb] at el;refine mL el ?_;have ea:(xs.map fun x=>decide (least<=x)&&decide (x<=g)).all id=xs.all fun x=>decide (least<=x)&&decide (x<=g):=by rw[PZ];rfl
     rw[ea];exact q _ s1
 . rw[NL (show ¬ (xs.length:Int)=h*w by omega)];rw[NL hl] at q;symm;exact q _ (NK _)
def js(K:Frag):Sp:=fun vs H Q _=>∃ p a h w g xs,vs=[.ref p,.ref a]/\IsFl H p h w g/\FlOk h w g/\H a=↥(xs.map V.int)/\CluesOk h w g xs/\∀ l H',Same H H'->H l=none->H' l=↥(xs.map V.int)->Q (.ref l) H'
def jt(K:Frag):TS:=#[":gnRz,{fca0a1adf#0 eYojp:a1e"]
def CluesOk.fil{h w g:Int}{xs:∅}(C:CluesOk h w g xs):filB 0 g (h*w).toNat xs=true:=by
 unfold filB;rw[NP C.len,N2,Oe];intro x hx;have:=C.ok x hx;simp[this.1,this.2]
def wg(h:js K vs H Q E):jt K (eD9 Q) (start ["floor","clues"] vs) H:=by
 obtain⟨p,a,h,w,g,xs,rfl,hp,F,ha,C,q⟩:=h;obtain⟨h0,h1,w0,w1,m16,g0,g1⟩:=id F;ac_nf;unfold jt;rw[az,aC];symm;refine⟨p,a,h,w,g,0,xs,rfl,hp,F,ha,by have:=C.len;omega,fun H1 s1=>?_⟩;rw[C.fil];refine⟨true,rfl,iteF ?_⟩;symm;refine sJ (s1 _ _ ha) fun l hl=>?_;exact q l _ (s1.laid hl) (s1.free hl) ao
def IsRule.ins{k:RK}{r a:Addr}{ws:List (List Nat)}{n m:Int}{C dx:Addr}{fs:List (Str × V)}(x:IsRule H c k r p ws cs n m)(ha:H a=some (.ins C dx fs))(hf:fs.length≠5):IsRule (upd H a o) c k r p ws cs n m:=by
 obtain⟨dx',W,C',h1,h2,h3⟩:=x.ex;refine⟨x.ok,dx',W,C',?_,?_,?_⟩
 . rw[ar (fun e=>by rw[e,ha] at h1;cases h1;exact hf rfl)];exact h1
 . rw[ar (fun e=>by rw[e,ha] at h2;cases h2)];exact h2
 . rw[ar (fun e=>by rw[e,ha] at h3;cases h3)];exact h3
def IsRules.ins{L a:Addr}{C dx:Addr}{fs:List (Str × V)}(x:IsRules H c p L rs NA)(ha:H a=some (.ins C dx fs))(hf:fs.length≠5):IsRules (upd H a o) c p L rs NA:=
 ⟨by rw[ar (fun e=>by have:=x.top;rw[e,ha] at this;cases this)];exact x.top,x.len,fun i r y h1 h2=>(x.at_ i r y h1 h2).ins ha hf⟩
def df(K:Frag)(c:RCl RK)(d:RCl PzK):Sp:=fun vs H Q _=>∃ x dx p a b h w g NA cl,vs=[.ref x,.ref p,.ref a,.ref b]/\d.ok .Puzzle=true/\H x=some (.ins (d.A .Puzzle) dx [])/\IsFl H p h w g/\H a=↥((NA.map RR.txt).map V.str)/\H b=↥(cl.map V.int)/\xp c h w g NA/\CluesOk h w g cl/\
 ∀ L G H',(∀ y o,y≠x->H y=some o->H' y=some o)->H L=none->H G=none->IsPz H' c d x L G h w g NA cl->Q .non H'
def ic(K:Frag)(c:RCl RK)(d:RCl PzK):TS:=#[":g~eu0,{gca1e~fg~eu0,{hckaVu0~fa2e'v~eu0,{icaVu0~fa3e'w"]
def sU(h:df K c d vs H Q E):ic K c d (eD9 Q) (start ["self","floor","lines","clues"] vs) H:=by
 obtain⟨x,dx,p,a,b,h,w,g,NA,cl,rfl,ok,hx,hp,ha,hb,R,C,q⟩:=h;ac_nf;unfold ic sFldK;symm;refine⟨p,h,w,g,rfl,hp,R.F,fun p1 hp1=>?_⟩;have nxp:x≠p1:=aH hx hp1;refine⟨x,.Puzzle,dx,[],rfl,ok,by rw[ar nxp];exact hx,by show(0:Nat)<1000;decide,?_⟩
 have f1:∀ y o,y≠x->H y=some o->(upd (upd H p1 (.tup [.int h,.int w,.int g])) x (.ins (d.A .Puzzle) dx (putF "floor" (.ref p1) []))) y=some o:=fun y o ny e=>by
  rw[ar ny,ar (aH e hp1)];exact e
 have hx1:(upd (upd H p1 (.tup [.int h,.int w,.int g])) x (.ins (d.A .Puzzle) dx (putF "floor" (.ref p1) []))) x=some (.ins (d.A .Puzzle) dx [("floor",.ref p1)]):=ao
 have hp1':IsFl (upd (upd H p1 (.tup [.int h,.int w,.int g])) x (.ins (d.A .Puzzle) dx (putF "floor" (.ref p1) []))) p1 h w g:=by
  show(upd (upd H p1 (.tup [.int h,.int w,.int g])) x _) p1=_;rw[ar nxp.symm,ao]
 have fr1:∀ l,(upd (upd H p1 (.tup [.int h,.int w,.int g])) x (.ins (d.A .Puzzle) dx (putF "floor" (.ref p1) []))) l=none->H l=none:=fun l e=>by
  have n1:l≠x:=fun z=>by rw[z,ao] at e;cases e
  rw[ar n1] at e;have n2:l≠p1:=fun z=>by rw[z,ao] at e;cases e
  rw[ar n2] at e;exact e
 have nax:a≠x:=fun z=>by rw[z,hx] at ha;cases ha
 have nbx:b≠x:=fun z=>by rw[z,hx] at hb;cases hb
 generalize upd (upd H p1 (.tup [.int h,.int w,.int g])) x (.ins (d.A .Puzzle) dx (putF "floor" (.ref p1) []))=H1 at*;refine fldE (c:=d) (k:=.Puzzle) rfl ok hx1 (v:=.ref p1) (by rfl) ?_;symm;refine⟨p1,a,h,w,g,NA,rfl,hp1',f1 a _ nax ha,R,fun L rs H2 s2 hL X=>?_⟩;refine⟨x,.Puzzle,dx,_,rfl,ok,s2 _ _ hx1,by show(1:Nat)<1000;decide,?_⟩;have nxL:L≠x:=fun z=>by rw[z,hx1] at hL;cases hL
 have X3:=X.ins (o:=.ins (d.A .Puzzle) dx (putF "laws" (.ref L) [("floor",.ref p1)])) (s2 _ _ hx1) (by show(1:Nat)≠5;decide)
 have f2:∀ y o,y≠x->H y=some o->(upd H2 x (.ins (d.A .Puzzle) dx (putF "laws" (.ref L) [("floor",.ref p1)]))) y=some o:=fun y o ny e=>by
  rw[ar ny];exact s2 _ _ (f1 y o ny e)
 have hx3:(upd H2 x (.ins (d.A .Puzzle) dx (putF "laws" (.ref L) [("floor",.ref p1)]))) x=some (.ins (d.A .Puzzle) dx [("floor",.ref p1),("laws",.ref L)]):=ao
 have hp3:IsFl (upd H2 x (.ins (d.A .Puzzle) dx (putF "laws" (.ref L) [("floor",.ref p1)]))) p1 h w g:=by
  show(upd H2 x _) p1=_;rw[ar nxp.symm];exact s2 _ _ hp1'
 have fr3:∀ l,(upd H2 x (.ins (d.A .Puzzle) dx (putF "laws" (.ref L) [("floor",.ref p1)]))) l=none->H1 l=none:=fun l e=>by
  have n1:l≠x:=fun z=>by rw[z,ao] at e;cases e
  rw[ar n1] at e;exact s2.free e
 generalize upd H2 x (.ins (d.A .Puzzle) dx (putF "laws" (.ref L) [("floor",.ref p1)]))=H3 at*;refine fldE (c:=d) (k:=.Puzzle) rfl ok hx3 (v:=.ref p1) (by rfl) ?_;symm;refine⟨p1,b,h,w,g,cl,rfl,hp3,R.F,f2 b _ nbx hb,C,fun G H4 s4 hG eG=>?_⟩;refine⟨x,.Puzzle,dx,_,rfl,ok,s4 _ _ hx3,by show(2:Nat)<1000;decide,?_⟩;have nxG:G≠x:=fun z=>by rw[z,hx3] at hG;cases hG
 refine q L G _ (fun y o ny e=>?_) (fr1 L hL) (fr1 G (fr3 G hG)) ⟨ok,R,C,?_,dx,p1,rs,?_,?_,?_⟩
 . rw[ar ny];exact s4 _ _ (f2 y o ny e)
 . rw[ar nxG];exact eG
 . rw[ao];rfl
 . show(upd H4 x _) p1=_;rw[ar nxp.symm];exact s4 _ _ hp3
 . exact(X3.same s4).ins (s4 _ _ hx3) (by show(2:Nat)≠5;decide)
def JH {Z:Addr->Hp->Prop} {a b:Addr} {h w g:Int} (ok:d.ok .Puzzle=true) (hp:IsFl H p h w g) (ha:H a=↥((NA.map RR.txt).map V.str)) (hb:H b=↥(cl.map V.int)) (R:xp c h w g NA) (C:CluesOk h w g cl)
  (q:∀ P L G H',Same H H'->H P=none->H L=none->H G=none->IsPz H' c d P L G h w g NA cl->Z P H'):
  ∀ x dx,H x=none->H dx=none->dx≠x->df K c d (.ref x::([.ref p,.ref a,.ref b]++[])) (upd (upd H dx (.own x)) x (.ins (d.A .Puzzle) dx [])) (fun v H2=>v=.non/\Z x H2) E0:=by
 intro x dx hx hd ne;have k:∀ y o,H y=some o->(upd (upd H dx (.own x)) x (.ins (d.A .Puzzle) dx [])) y=some o:=fun y o e=>by rw[ar (aH e hx),ar (aH e hd)];exact e
 have fr:∀ y,(upd (upd H dx (.own x)) x (.ins (d.A .Puzzle) dx [])) y=none->H y=none:=fun y e=>by
  have n1:y≠x:=fun z=>by rw[z,ao] at e;cases e
  rw[ar n1] at e;have n2:y≠dx:=fun z=>by rw[z,ao] at e;cases e
  rw[ar n2] at e;exact e
 exact⟨x,dx,p,a,b,h,w,g,NA,cl,rfl,ok,ao,k _ _ hp,k _ _ ha,k _ _ hb,R,C,fun L G H' hs hL hG X=>⟨rfl,q x L G H' (fun y o e=>hs y o (aH e hx) (k _ _ e)) hx (fr L hL) (fr G hG) X⟩⟩
def lg(K:Frag)(c:RCl RK)(d:RCl PzK)(_:PzK):Sp:=fun vs H Q _=>∃(P L G:Addr) (h w g:Int) (NA:List RR) (cl:∅),vs=[.ref P]/\IsPz H c d P L G h w g NA cl/\∀ p,IsFl H p h w g->Q (.ref p) H
def oC(K:Frag)(c:RCl RK)(d:RCl PzK):Sp:=lg K c d .Puzzle
def j6(K:Frag)(c:RCl RK)(d:RCl PzK):TS:=#[":jVu0~f"]
def xq(h:oC K c d vs H Q E):j6 K c d (eD9 Q) (start ["self"] vs) H:=by
 obtain⟨P,L,G,h,w,g,NA,cl,rfl,x,q⟩:=h;obtain⟨dx,p,rs,h1,h2,h3⟩:=x.ex;ac_nf;unfold j6;symm;exact fldE (k:=.Puzzle) rfl x.ok h1 (v:=.ref p) (by rfl) (q p h2)
def wj(K:Frag)(c:RCl RK)(d:RCl PzK)(_:PzK):Sp:=fun vs H Q _=>∃(P L G:Addr) (h w g:Int) (NA:List RR) (cl:∅),vs=[.ref P]/\IsPz H c d P L G h w g NA cl/\∀ l,H l=none->Q (.ref l) (upd H l (.lst (cl.map V.int)))
def oE(K:Frag)(c:RCl RK)(d:RCl PzK):Sp:=wj K c d .Puzzle
def j7(K:Frag)(c:RCl RK)(d:RCl PzK):TS:=#[":jp:aVu0'we"]
def xt(h:oE K c d vs H Q E):j7 K c d (eD9 Q) (start ["self"] vs) H:=by
 obtain⟨P,L,G,h,w,g,NA,cl,rfl,x,q⟩:=h;obtain⟨dx,p,rs,h1,h2,h3⟩:=x.ex;ac_nf;unfold j7;symm;refine fldE (k:=.Puzzle) rfl x.ok h1 (v:=.ref G) (by rfl) ?_;symm;exact sJ x.gv q
def gp(K:Frag)(c:RCl RK)(d:RCl PzK)(_:PzK):Sp:=fun vs H Q _=>∃(P L G:Addr) (h w g:Int) (NA:List RR) (cl:∅),vs=[.ref P]/\IsPz H c d P L G h w g NA cl/\∀ l p rs,H l=none->IsFl (upd H l (.lst (rs.map V.ref))) p h w g->IsRules (upd H l (.lst (rs.map V.ref))) c p l rs NA->Q (.ref l) (upd H l (.lst (rs.map V.ref)))
def oF(K:Frag)(c:RCl RK)(d:RCl PzK):Sp:=gp K c d .Puzzle
def j8(K:Frag)(c:RCl RK)(d:RCl PzK):TS:=#[":jp:aVu0've"]
def xu(h:oF K c d vs H Q E):j8 K c d (eD9 Q) (start ["self"] vs) H:=by
 obtain⟨P,L,G,h,w,g,NA,cl,rfl,x,q⟩:=h;obtain⟨dx,p,rs,h1,h2,h3⟩:=x.ex;ac_nf;unfold j8;symm;refine fldE (k:=.Puzzle) rfl x.ok h1 (v:=.ref L) (by rfl) ?_;symm;refine sJ h3.top fun l hl=>?_;have s1:Same H (upd H l (.lst (rs.map V.ref))):=(NK H).laid hl;exact q l p rs hl (s1 _ _ h2) ⟨ao,h3.len,fun i r y e1 e2=>(h3.at_ i r y e1 e2).same s1⟩
inductive DRows(w:World)(K:Frag):List DictEntry->List (Str × List Str)->Prop
 | nil:DRows w K [] []
 | cons {hsh:Int} {k:Str} {t:Tok} {q:Addr} {o:Obj} {ND:Array Value} {n:Nat} {ws:List Str} {es:List DictEntry} {D:List (Str × List Str)}:hsh=hashStr w k->K.lookup q=some o->o.cls=.type "tuple"->o.data=.seq ND n->ND.size<=sizeLine->Vals (ws.map V.str) ND.toList->DRows w K es D->DRows w K (⟨hsh,.str k t,.ref q⟩::es) ((k,ws)::D)
structure GDict(w:World)(K:Frag)(mg:Str->Option Value)(x:Str)(D:List (Str × List Str)):Prop where
 ex:∃(p:Addr) (o:Obj) (es:Array DictEntry) (ep:Nat),mg x=↑p/\K.lookup p=some o/\o.ExactDict/\o.data=.dict es ep/\DRows w K es.toList D/\(D.map fun x=>x.1).Nodup
theorem DRows.of{P:Program}{w:World}{K:Frag}{es:List DictEntry}{D:List (Str × List Str)}(h:DRows w K es D):
  ∃ NC:List (Str × Value),Pairs (strKind P w) es NC/\NC.map (fun x=>x.1)=D.map (fun x=>x.1)/\(∀ e∈es,∃ k,(strKind P w).is k e.key=true/\e.hash=(strKind P w).hash k)/\
   ∀ k ws,D.lookup k=some ws->∃ q,valueAt NC k=↑q/\∃(o:Obj) (ND:Array Value) (n:Nat),K.lookup q=some o/\o.cls=.type "tuple"/\o.data=.seq ND n/\ND.size<=sizeLine/\Vals (ws.map V.str) ND.toList:=by
 induction h with
 | nil=>exact⟨[],.nil,rfl,fun e he=>(by cases he),fun k ws e=>(by cases e)⟩
 | @cons hsh k t q o ND n ws es D h1 h2 h3 h4 h5 h6 _ ih=>
  obtain⟨NC,p1,p2,p3,p4⟩:=ih;have hk:(strKind P w).is k (.str k t)=true:=by show(k==k)=true;simp
  refine⟨(k,.ref q)::NC,.cons hk rfl p1,by rw[Os,Os,p2],fun e he=>?_,fun k' ws' e=>?_⟩
  . rcases N4.mp he with rfl | he
    . exact⟨k,hk,h1⟩
    . exact p3 e he
  . rw[OQ] at e;unfold valueAt;rw[Pz];by_cases hkk:k'=k
    . subst hkk;simp at e;subst e;refine⟨q,by simp,o,ND,n,h2,h3,h4,h5,h6⟩
    . have hb:(k'==k)=false:=by simpa using hkk
      rw[hb] at e;have hd:decide (k=k')=false:=NL (fun z=>hkk z.symm);dsimp only;rw[hd];exact p4 k' ws' e
def tIxG(K:Frag)(D:List (Str × List Str))(te:TE):TE:=fun σ H Q=>te σ H fun y H1=>∃ k ws,y=.str k/\D.lookup k=some ws/\∀ q,SqT K H1 q (ws.map V.str)->Q (.ref q) H1
def rInS(K:Frag):R2:=fun x y H Q=>∃(z:Str) (q:Addr) (ws:List Str),x=.str z/\y=.ref q/\SqT K H q (ws.map V.str)/\Q (.bl (decide (z∈ws))) H
section
variable{X:Cx}{a b:Expr}{ta tb:TE}{pos p:Pos}{x:Str}{D:List (Str × List Str)}
def JI(G:GDict X.w X.K X.mg x D)(hb:PE X b tb)(hg:Gl X x)(hpi:yT b)(hdb:(x==("__debug__":Str))=false:=by decide):PE X (.Subscript (.Name x p) b pos) (tIxG X.K D tb):=by
 obtain⟨pd,o,es,ep,h1,h2,h3,h4,h5,h6⟩:=G.ex;obtain⟨NC,p1,p2,p3,p4⟩:=h5.of (P:=X.prog)
 have ir:IxR X (fun x y H Q=>x=.ref pd/\∃ k ws,y=.str k/\D.lookup k=some ws/\∀ q,SqT X.K H q (ws.map V.str)->Q (.ref q) H):=by
  intro value slice Nz s σ H x y v u Q I rx ry h hs;obtain⟨rfl,k,ws,rfl,hl,q⟩:=h;cases (show v=Value.ref pd from rx);have hget:s.heap.get? pd=some o:=I.kIn pd o h2;have dd:Heap.DictOf (strKind X.prog X.w) s.heap pd NC:=⟨o,es,ep,hget,h3,h4,fun e he=>p3 e (Array.mem_toList_iff.mpr he),p1,by rw[p2];exact h6⟩;obtain⟨qa,hv,o2,ND,n,g1,g2,g3,g4,g5⟩:=p4 k ws hl;obtain⟨t,rfl⟩:∃ t,u=Value.str k t:=ry;have hk:(strKind X.prog X.w).is k (.str k t)=true:=by show(k==k)=true;simp
  refine tail_any dd.typeIs QY.lookup (wpAny_getItem_of hk dd.mapOf hv ?_) hs;exact⟨.ref qa,H,I.tok _,rfl,q qa (.inr ⟨o2,ND,n,g1,g2,g3,g4,g5⟩)⟩
 have h0:=wT (pos:=pos) ir (cK (pos:=p) (v:=V.ref pd) hg h1 rfl hdb) hb hpi;intro Nz s σ H Q I h;refine h0 Nz s σ H Q I ?_
 have e:(fun(y:V) (H1:Hp)=>∃ k ws,y=.str k/\D.lookup k=some ws/\∀ q,SqT X.K H1 q (ws.map V.str)->Q (.ref q) H1)=fun y H1=>(V.ref pd=V.ref pd)/\∃ k ws,y=.str k/\D.lookup k=some ws/\∀ q,SqT X.K H1 q (ws.map V.str)->Q (.ref q) H1:=by
  funext y H1;simp
 have h':tb σ H (fun(y:V) (H1:Hp)=>∃ k ws,y=.str k/\D.lookup k=some ws/\∀ q,SqT X.K H1 q (ws.map V.str)->Q (.ref q) H1):=h;rw[e] at h';exact h'
def JJ:OpR X (compareOp .In) (rInS X.K):=by
 intro Nz s σ H x y v u Q I rx ry h;obtain⟨z,q,ws,rfl,rfl,hq,h⟩:=h;refine sD Nz s σ H _ _ v u Q I rx ry ⟨q,ws.map V.str,rfl,.inr hq,rfl,oy ws,?_⟩;rw[qQ];exact h
end
section
variable{K:Frag}{σ:St}{H:Hp}{Q:VK}{te:TE}{D:List (Str × List Str)}
def Kj:tIxG K D te σ H Q=te σ H fun y H1=>∃ k ws,y=.str k/\D.lookup k=some ws/\∀ q,SqT K H1 q (ws.map V.str)->Q (.ref q) H1:=rfl
end
def ws5:String:="az if_true if_false Bool.false_eq_true decide_true decide_false cO cP fP bU bI cM dy cN bT dv dw bS fM bV bW bY bZ b3 b4 bX dz dA dB dt fO Bool.not_true Bool.not_false az "++ws1
local macro_rules|`(tactic|walk_at "w")=>wk9 ws5
def stB(m s:Int):Bool:=decide (1<=s)&&(decide (s<=((Builtin.Int.intBits m:Nat):Int))&&decide (m/2^(s-1).toNat%2=1))
def jP(K:Frag):Sp:=fun vs H Q _=>∃ m s:Int,vs=[.int m,.int s]/\Q (.bl (stB m s)) H
def sV(K:Frag):TS:=#[":jOb(df#1 1Ob(1'xc~N'y0bscbCb~A0bH1df#1 df#2 df#1 "]
variable{K:Frag}{vs:List V}{H:Hp}{Q:VK}{E:XK}
theorem Gc(h:jP K vs H Q E):sV K (eD9 Q) (start ["mask","sign"] vs) H:=by
 obtain⟨m,s,rfl,q⟩:=h;ac_nf;unfold sV;symm;unfold stB at q
 cases h1:decide (1<=s) with
 | false=>rw[h1,NZ] at q;exact iteF q
 | true=>
  refine iteT ⟨rfl,?_⟩;symm;rw[h1,N2] at q
  cases h2:decide (s<=((Builtin.Int.intBits m:Nat):Int)) with
  | false=>rw[h2,NZ] at q;exact iteF q
  | true=>
   rw[h2,N2] at q;exact iteT ⟨by have:=Oy h1;omega,by decide,q⟩
def sW(K:Frag):Sp:=fun vs H Q _=>∃ s:Int,vs=[.int s]/\1<=s/\s<=100000/\Q (.int (2^(s-1).toNat)) H
def sX(K:Frag):TS:=#[":gldf#1 h#1 gIUabH0df#1 eh#2 lbX1df#2 h#1 j1"]
def Gd(h:sW K vs H Q E):sX K (eD9 Q) (start ["sign","bit","step"] vs) H:=by
 obtain⟨s,rfl,h1,h2,q⟩:=h;ac_nf;unfold sX;symm;refine⟨s-1,rfl,by omega,by omega,?_⟩;refine or (fun i σ H'=>∃ sv:Option V,σ=[⇑s,⇑(2^i),sv]/\H'=H) ⟨none,rfl,rfl⟩ ?_ ?_
 . rintro i σ H' hi ⟨sv,rfl,rfl⟩;symm;refine⟨.inr ⟨by decide,by decide⟩,?_⟩;simp[Int.pow_succ]
 . rintro σ H' ⟨sv,rfl,rfl⟩;symm;exact q
def woI(m s:Int):Int:=if stB m s=true then m-2^(s-1).toNat else m
def qV(K:Frag):Sp:=fun vs H Q _=>∃ m s:Int,vs=[.int m,.int s]/\s<=100000/\Q (.int (woI m s)) H
def qW(K:Frag):TS:=#[":j~Bz,~Pca0a1ebH0,{jca1e0"]
theorem EF(h:qV K vs H Q E):qW K (eD9 Q) (start ["mask","sign"] vs) H:=by
 obtain⟨m,s,rfl,h2,q⟩:=h;ac_nf;unfold qW;symm;refine⟨m,s,rfl,_,rfl,?_⟩;unfold woI at q
 cases hb:stB m s with
 | false=>
  rw[hb,Ob NW] at q;exact iteF q
 | true=>
  rw[hb,Oh rfl] at q;refine iteT ⟨s,rfl,?_,h2,?_⟩
  . unfold stB at hb;rw[Om,NO] at hb;exact hb.1
  . symm;exact q
def gK(K:Frag):Sp:=fun vs H Q _=>∃ m s:Int,vs=[.int m,.int s]/\s<=100000/\Q (.bl (decide (woI m s=0))) H
def pC(K:Frag):TS:=#[":jbsc,{kca0a1edf#0 "]
def Df(h:gK K vs H Q E):pC K (eD9 Q) (start ["mask","sign"] vs) H:=by
 obtain⟨m,s,rfl,h2,q⟩:=h;ac_nf;unfold pC;symm;refine⟨m,s,rfl,h2,?_⟩;symm;exact q
def sgL(m:Int):∅:=((List.range (Builtin.Int.intBits m)).filter fun(i:Nat)=>stB m (1+(i:Int))).map fun(i:Nat)=>1+(i:Int)
def da(K:Frag):Sp:=fun vs H Q _=>∃ m:Int,vs=[.int m]/\Builtin.Int.intBits m<=900/\∀ l H',Same H H'->H l=none->H' l=↥((sgL m).map V.int)->Q (.ref l) H'
def pD(K:Frag):TS:=#[":jx&--0 'zadf#1 abt'xc~N'y0df#1 eh#1 z,~Pca2a1e1"]
def Dg(h:da K vs H Q E):pD K (eD9 Q) (start ["mask"] vs) H:=by
 obtain⟨m,rfl,hb,k⟩:=h;ac_nf;unfold pD;symm;refine⟨rfl,1,_,rfl,by omega,?_⟩;have en:(((Builtin.Int.intBits m:Nat):Int)+1-1).toNat=Builtin.Int.intBits m:=by omega
 rw[en];refine d4 (fun(i:Nat)=>stB m (1+(i:Int))) (fun(i:Nat)=>1+(i:Int)) hb ?_ ?_ ?_
 . intro i H1 R hi s1 k1;show tB _ [none,⇑(1+(i:Int)),⇑m] H1 R;symm;exact⟨m,_,rfl,_,rfl,k1 _ (NK _)⟩
 . intro i H1 Q1 hi hb s1 k1;exact k1 _ (NK _)
 . intro l H1 hl s1 el;exact k l H1 s1 hl el
local macro_rules|`(tactic|walk_at "w")=>wk9 ws4
inductive TK where
 | clue | only | place | count | step | sum | square | reach | turn | pair | ways
 deriving DecidableEq
def tkC:TK->List Nat
 | .clue=>[99,108,117,101]
 | .only=>[111,110,108,121]
 | .place=>[112,108,97,99,101]
 | .count=>[99,111,117,110,116]
 | .step=>[115,116,101,112]
 | .sum=>[115,117,109]
 | .square=>[115,113,117,97,114,101]
 | .reach=>[114,101,97,99,104]
 | .turn=>[116,117,114,110]
 | .pair=>[112,97,105,114]
 | .ways=>[119,97,121,115]
def qX:List Str:=[tx [99,108,117,101],tx [111,110,108,121],tx [112,108,97,99,101],tx [99,111,117,110,116],tx [115,116,101,112],tx [115,117,109],tx [115,113,117,97,114,101],tx [114,101,97,99,104],tx [116,117,114,110],tx [112,97,105,114],tx [119,97,121,115]]
def fh:List Str:=[tx [99,108,117,101],tx [111,110,108,121],tx [112,108,97,99,101],tx [115,116,101,112],tx [112,97,105,114]]
def dh:List Str:=[tx [99,111,117,110,116],tx [115,117,109],tx [119,97,121,115]]
def gd_RULES_OF_KIND:List (Str × List Str):=[(tx [111,110,108,121],[tx [117,110,108,105,107,101]]),(tx [112,108,97,99,101],[tx [117,110,108,105,107,101]]),(tx [99,111,117,110,116],[tx [99,111,117,110,116]]),(tx [115,116,101,112],[tx [114,105,115,105,110,103]]),(tx [115,117,109],[tx [115,117,109]]),(tx [115,113,117,97,114,101],[tx [110,111,115,113,117,97,114,101]]),(tx [114,101,97,99,104],[tx [106,111,105,110,101,100],tx [114,105,110,103]]),(tx [116,117,114,110],[tx [114,105,110,103]]),(tx [112,97,105,114],[tx [117,110,108,105,107,101]])]
def wsOf:TK->List Str
 | .only=>[tx [117,110,108,105,107,101]]
 | .place=>[tx [117,110,108,105,107,101]]
 | .count=>[tx [99,111,117,110,116]]
 | .step=>[tx [114,105,115,105,110,103]]
 | .sum=>[tx [115,117,109]]
 | .square=>[tx [110,111,115,113,117,97,114,101]]
 | .reach=>[tx [106,111,105,110,101,100],tx [114,105,110,103]]
 | .turn=>[tx [114,105,110,103]]
 | .pair=>[tx [117,110,108,105,107,101]]
 | _=>[]
def goesB:TK->RK->Bool
 | .ways,_=>true
 | .only,.Unlike=>true
 | .place,.Unlike=>true
 | .count,.Count=>true
 | .step,.Rising=>true
 | .sum,.Sum=>true
 | .square,.NoSquare=>true
 | .reach,.Joined=>true
 | .reach,.Ring=>true
 | .turn,.Ring=>true
 | .pair,.Unlike=>true
 | _,_=>false
def lineK:TK->Bool
 | .clue=>true
 | .only=>true
 | .place=>true
 | .step=>true
 | .pair=>true
 | _=>false
def nbrK:TK->Bool
 | .count=>true
 | .sum=>true
 | .ways=>true
 | _=>false
def Hi(t:TK):decide (tx (tkC t)∈qX)=true:=by cases t <;> decide+kernel
def DT(t:TK):decide (tx (tkC t)∈fh)=lineK t:=by cases t <;> decide+kernel
def Ge(t:TK):decide (tx (tkC t)∈dh)=nbrK t:=by cases t <;> decide+kernel
variable{t:TK}
def Kk(h1:t≠.clue)(h2:t≠.ways):gd_RULES_OF_KIND.lookup (tx (tkC t))=some (wsOf t):=by
 cases t <;> first | exact absurd rfl h1 | exact absurd rfl h2 | decide+kernel
def Io(h2:t≠.ways)(k:RK):decide (tx (nmC k)∈wsOf t)=goesB t k:=by
 cases t <;> first | exact absurd rfl h2 | (cases k <;> decide+kernel)
def Ip(t:TK):decide (tkC t=[119,97,121,115])=decide (t=.ways):=by cases t <;> decide
def uL(t:TK):decide (tkC t=[99,108,117,101])=decide (t=.clue):=by cases t <;> decide
def y7(t:TK):decide (tkC t=[111,110,108,121])=decide (t=.only):=by cases t <;> decide
def mP(K:Frag):Sp:=fun vs H Q _=>∃ p h w g i,vs=[.ref p,.int i]/\IsFl H p h w g/\FlOk h w g/\Q (.bl (decide (0<=i)&&decide (i<h*w))) H
def qY(K:Frag):TS:=#[":jO,~zca1eOb(df#0 1b<1,~tca0e"]
variable{K:Frag}{vs:List V}{H:Hp}{Q:VK}{E:XK}
theorem EG(h:mP K vs H Q E):qY K (eD9 Q) (start ["floor","value"] vs) H:=by
 obtain⟨p,h,w,g,i,rfl,hp,F,q⟩:=h;ac_nf;unfold qY;symm;refine⟨i,rfl,⟨true,rfl,iteT ?_⟩⟩;symm
 cases hb:decide (0<=i) with
 | false=>
  rw[hb,NZ] at q;exact iteF q
 | true=>
  rw[hb,N2] at q;refine iteT ?_;symm;refine⟨p,h,w,g,rfl,hp,F.h0,F.h1,?_⟩;symm;exact q
def mQ(K:Frag):Sp:=fun vs H Q _=>∃ p h w g i,vs=[.ref p,.int i]/\IsFl H p h w g/\Q (.bl (decide (1<=i)&&decide (i<=g))) H
def qZ(K:Frag):TS:=#[":j,~Oca1abi0df#2 e"]
def EH(h:mQ K vs H Q E):qZ K (eD9 Q) (start ["floor","value"] vs) H:=by
 obtain⟨p,h,w,g,i,rfl,hp,q⟩:=h;ac_nf;unfold qZ;symm;refine ixT hp (v:=V.int g) rfl ?_;symm;exact⟨i,g,rfl,q⟩
def ra(K:Frag)(c:RCl RK):Sp:=fun vs H Q _=>∃ t k r p ws cs n m,vs=[.str (tx (tkC t)),.ref r]/\t≠.clue/\IsRule H c k r p (nmC k::ws) cs n m/\Q (.bl (goesB t k)) H
def rb(K:Frag)(c:RCl RK):TS:=#[":j~Qbsc0dqr`0b{lcDkL{m{nck1e{oc{p0",[119,97,121,115]]
variable{c:RCl RK}
def EI(h:ra K c vs H Q E):rb K c (eD9 Q) (start ["kind","rule"] vs) H:=by
 obtain⟨t,k,r,p,ws,cs,n,m,rfl,t0,x,q⟩:=h;obtain⟨dx,W,C,h1,h2,h3⟩:=x.ex;ac_nf;unfold rb;symm;rw[ba,Ip];by_cases hw:t=.ways
 . subst hw;rw[NP rfl];exact iteT q
 . rw[NL hw];refine iteF ?_;refine methE (k:=k) rfl x.ok h1 (by rfl) ?_;symm;refine⟨r,p,nmC k,ws,cs,n,m,rfl,x,?_⟩;dsimp only;rw[Kj];symm;refine⟨_,_,rfl,Kk t0 hw,fun qa hq=>?_⟩;refine⟨_,qa,_,rfl,rfl,hq,?_⟩;rw[Io hw];exact q
def cT(K:Frag)(c:RCl RK):Sp:=fun vs H Q _=>∃ k r p ws cs n m z,vs=[.ref r,.int z]/\IsRule H c k r p ws cs n m/\cs.length<=63/\∀ l H',Same H H'->H l=none->H' l=↥((cs.filter fun x=>!decide (x=z)).map V.int)->Q (.ref l) H'
def sY(K:Frag)(c:RCl RK):TS:=#[":jx&--1 wcDkL~C~Dck0eh#1 mbAc121"]
def Gf(h:cT K c vs H Q E):sY K c (eD9 Q) (start ["rule","cell"] vs) H:=by
 obtain⟨k,r,p,ws,cs,n,m,z,rfl,x,hn,q⟩:=h;obtain⟨dx,W,C,h1,h2,h3⟩:=x.ex;ac_nf;unfold sY;rw[b5,bv];refine methE (k:=k) rfl x.ok h1 (by rfl) ?_;symm;refine⟨r,p,ws,cs,n,m,rfl,x,fun l hl=>?_⟩;obtain⟨H1,z9,s1,el⟩:=a9 (.lst (cs.map V.int)) hl;rw[z9];refine⟨l,rfl,⟨_,N5 el⟩,?_⟩;refine aT (xs:=cs) (fun x=>!decide (x=z)) (fun x=>x) #[0] (N5 el) ?_ ?_ ?_
 . intro y H2 R hy s2 k2;show tTest _ [none,⇑y,⇑z] H2 R;symm;exact k2 _ (NK _)
 . intro y H2 Q2 hy hb s2 k2;show tVar 1 [none,⇑y,⇑z] H2 Q2;symm;exact k2 _ (NK _)
 . intro T H2 hT s2 eT;rw[Pa] at eT;exact q T H2 (s1.trans s2) (s1.free hT) eT
def hitB(t:TK)(NA:List RR)(r z:Int):Bool:=if r<0 then false else if t=.clue then decide (r=0) else match NA[r.toNat]? with
 | none=>false
 | some x=>goesB t x.k&&decide (z∈x.cs)
def j9(K:Frag)(c:RCl RK)(d:RCl PzK):Sp:=fun vs H Q _=>∃ t P L G h w g r z NA cl,vs=[.ref P,.str (tx (tkC t)),.int r,.int z]/\IsPz H c d P L G h w g NA cl/\∀ H',Same H H'->Q (.bl (hitB t NA r z)) H'
def kb(K:Frag)(c:RCl RK)(d:RCl PzK):TS:=#[":gnQRz,~zca2emb<2df#0 jdFBognmbsc1dqr`0jbsc2df#0 oglDu*~p~qcku0eh#4 gnmb)2pya4ejdFBojO,{qcka1abi42ebKcB3DkL~C~Dckbi42e",[99,108,117,101]]
def RR.ws_cons(r:RR):∃ t,r.ws=nmC r.k::t:=⟨_,rfl⟩
variable{d:RCl PzK}
theorem xv(h:j9 K c d vs H Q E):kb K c d (eD9 Q) (start ["puzzle","kind","number","cell","rules"] vs) H:=by
 obtain⟨t,P,L,G,h,w,g,r,z,NA,cl,rfl,x,q⟩:=h;obtain⟨dx,p,rs,h1,h2,h3⟩:=x.ex;have hN:=x.R.F.m;ac_nf;unfold kb;rw[az,aC];symm;refine⟨r,rfl,⟨true,rfl,iteF ?_⟩⟩;symm;unfold hitB at q;by_cases hr:r<0
 . rw[Oh hr] at q;rw[NP hr];exact iteT (q _ (NK _))
 rw[Ob hr] at q;rw[NL hr];refine iteF ?_;rw[aC];symm;rw[ba,uL];by_cases ht:t=.clue
 . rw[Oh ht] at q;rw[NP ht];exact iteT (q _ (NK _))
 rw[Ob ht] at q;rw[NL ht];refine iteF ?_;refine methE (k:=.Puzzle) rfl x.ok h1 (by rfl) ?_;symm;refine⟨P,L,G,h,w,g,NA,cl,rfl,x,fun l p2 rs2 hl hp2 X=>?_⟩;have s1:Same H (upd H l (.lst (rs2.map V.ref))):=(NK H).laid hl;generalize upd H l (.lst (rs2.map V.ref))=H1 at*;have NF:=X.len;symm;rw[aC];symm;rw[aS X.top,NI,NF];symm;by_cases hge:(NA.length:Int)<=r
 . rw[NP hge];have e:NA[r.toNat]? =none:=Od #[0];rw[e] at q;exact iteT (q _ s1)
 rw[NL hge];have hlt:r.toNat<NA.length:=by omega
 have er:NA[r.toNat]? =some NA[r.toNat]:=NJ hlt;rw[er] at q;have ea:rs2[r.toNat]? =some rs2[r.toNat]:=NJ #[0];have X1:=X.at_ _ _ _ ea er;obtain⟨ws,ews⟩:=RR.ws_cons NA[r.toNat];rw[ews] at X1;have eix:atI (rs2.map V.ref) r=some (V.ref rs2[r.toNat]):=jk #[0] ea;refine iteF ?_;refine ixL X.top eix ?_;symm;refine⟨t,_,_,p2,ws,_,_,_,rfl,ht,X1,?_⟩;dsimp only at q
 cases hg:goesB t NA[r.toNat].k with
 | false=>
  rw[hg,NZ] at q;exact⟨false,rfl,iteF (q _ s1)⟩
 | true=>
  rw[hg,N2] at q;refine⟨true,rfl,iteT ?_⟩;unfold aL;symm;obtain⟨dx1,W1,C1,g1,g2,g3⟩:=X1.ex;refine ixL X.top eix ?_;refine⟨_,NA[r.toNat].k,dx1,_,rfl,X1.ok,g1,by rfl,?_⟩;refine⟨_,p2,_,_,_,_,rfl,X1,fun S hS=>?_⟩;have s2:Same H1 (upd H1 S (.lst (NA[r.toNat].cs.map V.int))):=(NK H1).laid hS;have eS:(upd H1 S (.lst (NA[r.toNat].cs.map V.int))) S=↥(NA[r.toNat].cs.map V.int):=ao;dsimp only;rw[qK eS];exact q _ (s1.trans s2)
structure IsTh(H:Hp)(T M:Addr)(t:TK)(r z s:Int)(ms:∅):Prop where
 T:H T=some (.tup [.str (tx (tkC t)),.int r,.int z,.int s,.ref M])
 M:H M=↥(ms.map V.int)
 n:ms.length<=100
variable{r z s:Int}{ms:∅}
def IsTh.same{H':Hp}{T M:Addr}(x:IsTh H T M t r z s ms)(s':Same H H'):IsTh H' T M t r z s ms:=⟨s' _ _ x.T,s' _ _ x.M,x.n⟩
def formB(h w g:Int)(NA:List RR)(t:TK)(r z s:Int):Bool:=(decide (0<=z)&&decide (z<h*w))&&((decide (1<=s)&&decide (s<=g))&&hitB t NA r z)
def nE(K:Frag)(c:RCl RK)(d:RCl PzK):Sp:=fun vs H Q _=>∃ t P L G T M h w g r z s NA cl ms,vs=[.ref P,.ref T]/\IsPz H c d P L G h w g NA cl/\IsTh H T M t r z s ms/\∀ H',Same H H'->Q (.bl (formB h w g NA t r z s)) H'
def kc(K:Frag)(c:RCl RK)(d:RCl PzK):TS:=#[":jOp-abi1df#4 ad/Gep~aax&-- wcbi1df#4 h#1 J,~zca1ee"]
def nF(K:Frag)(c:RCl RK)(d:RCl PzK):TS:=#[":gnQRzp-a1ad/~]eQmbAcpya1edf#5 z~h{rMbi1df#0 jdFBoglDu*~R~Scku0eh#2 gnQRz,'Aca2abi1df#2 eRz,'Bca2abi1df#3 ejdFBognRz,{sckua0abi1df#0 abi1df#1 abi1df#2 ejdFBo{tcku"]
def xw{P T M:Addr}{v2:Option V}(x:IsTh H T M t r z s ms)(q:∀ H',Same H H'->Q (.bl true) H'):
  kc K c d (eD9 Q) [↑P,↑T,v2] H:=by
 have hn:=x.n;unfold kc;symm;refine ixT x.T (v:=V.ref M) rfl ?_;symm;refine Bp x.M ?_;symm;refine ixT x.T (v:=V.ref M) rfl ?_;symm;refine⟨⟨_,N5 x.M⟩,?_⟩;refine cJ (xs:=ms.map V.int) (fun _=>true) (fun _=>.bl true) (by rw[NI];omega) (N5 x.M) ?_ ?_ ?_
 . intro i y H1 R hy s1 k1;exact k1 _ (NK _)
 . intro i y H1 Q1 hy hb s1 k1;obtain⟨v,hv,rfl⟩:=bi hy;show tCall _ _ _ _ [none,⇑v] H1 Q1;symm;exact⟨v,rfl,k1 _ (NK _)⟩
 . intro l H1 hl s1 el
   have eb:((List.range (ms.map V.int).length).filter fun _=>true).map (fun _=>V.bl true)=(List.replicate (ms.map V.int).length true).map V.bl:=by
    rw[br,List.map_const',OK,QV]
   rw[eb] at el;refine mL el ?_
   have ea:(List.replicate (ms.map V.int).length true).all id=true:=by
    rw[Oe];intro b hb;exact(QW.mp hb).2
   rw[ea];exact q _ s1
theorem BK(h:nE K c d vs H Q E):nF K c d (eD9 Q) (start ["puzzle","thought","floor"] vs) H:=by
 obtain⟨t,P,L,G,T,M,h,w,g,r,z,s,NA,cl,ms,rfl,x,y,q⟩:=h;obtain⟨dx,p,rs,h1,h2,h3⟩:=x.ex;ac_nf;unfold nF;rw[az,aC];symm;refine Bq y.T ?_;symm;rw[Bk y.T,show(([.str (tx (tkC t)),.int r,.int z,.int s,.ref M]:List V).length:Int)=5 from rfl];symm;refine ixT y.T (v:=V.str (tx (tkC t))) rfl ?_;symm;rw[Hi];symm;refine methE (k:=.Puzzle) rfl x.ok h1 (by rfl) ?_;symm;refine⟨P,L,G,h,w,g,NA,cl,rfl,x,fun p1 hp1=>?_⟩;symm;rw[aC];symm;refine ixT y.T (v:=V.int z) rfl ?_;symm;refine⟨p1,h,w,g,z,rfl,hp1,x.R.F,?_⟩;unfold formB at q
 cases hb:(decide (0<=z)&&decide (z<h*w)) with
 | false=>
  rw[hb,NZ] at q;exact⟨false,rfl,iteT (q _ (NK _))⟩
 | true=>
  rw[hb,N2] at q;refine⟨true,rfl,iteF ?_⟩;refine ixT y.T (v:=V.int s) rfl ?_;symm;refine⟨p1,h,w,g,s,rfl,hp1,?_⟩
  cases hb2:(decide (1<=s)&&decide (s<=g)) with
  | false=>
   rw[hb2,NZ] at q;exact⟨false,rfl,iteT (q _ (NK _))⟩
  | true=>
   rw[hb2,N2] at q;refine⟨true,rfl,iteF ?_⟩;rw[aC];symm;refine ixT y.T (v:=V.str (tx (tkC t))) rfl ?_;symm;refine ixT y.T (v:=V.int r) rfl ?_;symm;refine ixT y.T (v:=V.int z) rfl ?_;symm;refine⟨t,P,L,G,h,w,g,r,z,NA,cl,rfl,x,fun H1 s1=>?_⟩
   cases hb3:hitB t NA r z with
   | false=>
    rw[hb3] at q;exact⟨false,rfl,iteT (q _ s1)⟩
   | true=>
    rw[hb3] at q;refine⟨true,rfl,iteF ?_⟩;exact xw (y.same s1) fun H' s2=>q H' (s1.trans s2)
def Gg{k:RK}{h w g:Int}{m:Nat}(hk:allK k=true)(k0:k≠.Rule)(hn:numK k=false)(hs:sgnK k=true)(m0:1<=(m:Int))(m1:(m:Int)<=g):RR.Ok ⟨k,0,m,[],rngL 0 (h*w)⟩ h w g:=by
 refine⟨k0,Ox _,fun _=>rfl,fun _=>⟨m0,m1⟩,fun e=>?_,⟨fun e=>?_,fun _=>⟨rfl,rfl⟩⟩,fun x hx=>(by cases hx),Ox _⟩
 . rw[show sgnK k=false from e] at hs;cases hs
 . rw[show allK k=false from e] at hk;cases hk
def fi:TE:=fun _ _ _=>False
def d8{X:Cx}{e:Expr}:PE X e fi:=fun _ _ _ _ _ _ h=>h.elim
def clueB(cl:∅)(z s:Int)(ms:∅):Bool:=decide (ms=[])&&(!decide (cl.getD z.toNat 0=0)&&!decide (cl.getD z.toNat 0=s))
def kd(K:Frag):Sp:=fun vs H Q _=>∃ C M z s cl ms,vs=[.ref C,.int z,.int s,.ref M]/\H C=↥(cl.map V.int)/\0<=z/\z<cl.length/\H M=↥(ms.map V.int)/\∀ H',Same H H'->Q (.bl (clueB cl z s ms)) H'
def ke(K:Frag):TS:=#[":jObsc3veObAcbi01df#0 bAcbi012"]
theorem xx(h:kd K vs H Q E):ke K (eD9 Q) (start ["clues","cell","sign","more"] vs) H:=by
 obtain⟨C,M,z,s,cl,ms,rfl,hC,z0,z1,hM,q⟩:=h;ac_nf;unfold ke;symm;refine⟨aW #[1],fun l hl=>?_⟩;obtain⟨H1,z9,s1,el⟩:∃ z,upd H l (.lst [])=z/\Same H z/\z l=↥(([]:∅).map V.int):=a9 _ hl;rw[z9];refine lL (s1 _ _ hM) el ?_;have q1:=q _ s1;unfold clueB at q1
 cases hb:decide (ms=[]) with
 | false=>
  rw[hb,NZ] at q1;exact⟨false,rfl,iteF q1⟩
 | true=>
  rw[hb,N2] at q1;refine⟨true,rfl,iteT ?_⟩;symm;refine ixI (s1 _ _ hC) z0 z1 ?_;symm
  cases hb2:decide (cl.getD z.toNat 0=0) with
  | true=>
   rw[hb2,PL,NZ] at q1;exact iteF q1
  | false=>
   rw[hb2,Qb,N2] at q1;refine iteT ?_;refine ixI (s1 _ _ hC) z0 z1 ?_;symm;exact q1
def onlyB(cs Ny:∅)(z s:Int)(ms:∅):Bool:=decide (ms.length=1)&&(decide (ms.getD 0 0∈cs.filter fun x=>!decide (x=z))&&decide (woI (Ny.getD (ms.getD 0 0).toNat 0) s=0))
def kf(K:Frag)(c:RCl RK):Sp:=fun vs H Q _=>∃ k r p A M ws cs Ny ms n m z s,vs=[.ref r,.ref A,.int z,.int s,.ref M]/\IsRule H c k r p ws cs n m/\aU cs Ny.length/\H A=↥(Ny.map V.int)/\H M=↥(ms.map V.int)/\s<=1000/\∀ H',Same H H'->Q (.bl (onlyB cs Ny z s ms)) H'
def kg(K:Frag)(c:RCl RK):TS:=#[":jObscpya4edf#1 ObKcBbi4df#0 ,;cka0a2e,~Tcabi1bi4df#0 a3e"]
theorem xy(h:kf K c vs H Q E):kg K c (eD9 Q) (start ["rule","masks","cell","sign","more"] vs) H:=by
 obtain⟨k,r,p,A,M,ws,cs,Ny,ms,n,m,z,s,rfl,x,hC,hA,hM,hs,q⟩:=h;ac_nf;unfold kg;symm;rw[aS hM,NI];symm;unfold onlyB at q
 have e1:decide ((ms.length:Int)=1)=decide (ms.length=1):=by
  rw[Oi,NO,NO];omega
 rw[e1]
 cases hb:decide (ms.length=1) with
 | false=>
  rw[hb,NZ] at q;exact iteF (q _ (NK _))
 | true=>
  rw[hb,N2] at q;have hl:=Oy hb;refine iteT ?_;refine ixI hM #[1] #[0] ?_;rw[show(0:Int).toNat=0 from rfl];symm;refine⟨k,r,p,ws,cs,n,m,z,rfl,x,hC.1,fun l H1 s1 hl1 el=>?_⟩;dsimp only;rw[qK el]
  cases hb2:decide (ms.getD 0 0∈cs.filter fun x=>!decide (x=z)) with
  | false=>
   rw[hb2,NZ] at q;exact⟨false,rfl,iteF (q _ s1)⟩
  | true=>
   rw[hb2,N2] at q;have hm:=Of.mp (Oy hb2);have hc:=hC.2 _ hm.1;refine⟨true,rfl,iteT ?_⟩;symm;refine ixI (s1 _ _ hM) #[1] #[0] ?_;rw[show(0:Int).toNat=0 from rfl];symm;refine ixI (s1 _ _ hA) hc.1 hc.2 ?_;symm;exact⟨_,s,rfl,by omega,q _ s1⟩
theorem RR.cin22{r:RR}{h w g:Int}(O:r.Ok h w g)(F:FlOk h w g):aU r.cs (h*w).toNat:=by
 obtain⟨h0,h1,w0,w1,m16,g0,g1⟩:=id F;have mpos:0<=h*w:=Qa #[0] #[0]
 cases hk:allK r.k with
 | false=>
  obtain⟨c1,c2,c3,c4,e⟩:=O.cl.told hk;rw[e];refine⟨by rw[NI];omega,fun c hc=>?_⟩;obtain⟨n,hn,rfl⟩:=N9.mp hc;have:=c3 n hn;omega
 | true=>
  obtain⟨_,e⟩:=O.cl.all hk;rw[e];refine⟨by rw[kZ];omega,fun c hc=>?_⟩;have:=DQ hc;omega
abbrev Rq:=@RR.cin22
structure Asks(H:Hp)(c:RCl RK)(d:RCl PzK)(P L G A T M:Addr)(h w g:Int)(NA:List RR)(cl Ny:∅)(t:TK)(r z s:Int)(ms:∅):Prop where
 P:IsPz H c d P L G h w g NA cl
 T:IsTh H T M t r z s ms
 A:H A=↥(Ny.map V.int)
 n:Ny.length=(h*w).toNat
variable{NA:List RR}
def Asks.same{H':Hp}{P L G A T M:Addr}{h w g:Int}{cl Ny:∅}(x:Asks H c d P L G A T M h w g NA cl Ny t r z s ms)(s':Same H H'):Asks H' c d P L G A T M h w g NA cl Ny t r z s ms:=⟨x.P.same s',x.T.same s',s' _ _ x.A,x.n⟩
def oG{h w g:Int}(f:formB h w g NA t r z s=true):0<=z/\z<h*w/\1<=s/\s<=g/\hitB t NA r z=true:=by
 unfold formB at f;simp only[Om,NO] at f;exact⟨f.1.1,f.1.2,f.2.1.1,f.2.1.2,f.2.2⟩
theorem uM(ht:t≠.clue)(f:hitB t NA r z=true):0<=r/\∃ x,NA[r.toNat]? =some x/\goesB t x.k=true/\z∈x.cs:=by
 unfold hitB at f;by_cases hr:r<0
 . rw[Oh hr] at f;cases f
 rw[Ob hr,Ob ht] at f
 cases e:NA[r.toNat]? with
 | none=>rw[e] at f;cases f
 | some x=>
  rw[e] at f;simp only[Om,NO] at f;exact⟨by omega,x,rfl,f.1,f.2⟩
def lawCA(ns:∅)(k:Int):Int:=if (ns.length:Int)=0 then(k*k*40692+7*k)%2147483647 else
 if k < (ns.length:Int) then ns.getD (k%ns.length).toNat 0%2305843009213693951 else(ns.getD (k%ns.length).toNat 0%2305843009213693951*48271+k*k*40692)%2305843009213693951
def BL(ns:∅)(k:Int):0<=lawCA ns k:=by
 unfold lawCA
 split
 . exact Oz _ #[1]
 . split
   . exact Oz _ #[1]
   . exact Oz _ #[1]
def aM(K:Frag):Sp:=fun vs H Q _=>∃ a ns k,vs=[.ref a,.int k]/\SqL K H a (ns.map V.int)/\ns.length<=63/\0<=k/\k<=10000/\Q (.int (lawCA ns k)) H
def g8(K:Frag):TS:=#[":gnmbscp~Uca0edf#0 jbCbtbXbX11df#40692 bXdf#7 1df#2147483647 oglbCb{uc0bC1p~Uca0edf#2305843009213693951 h#2 gnmb<1p~Uca0ej2ojbCbtbX2df#48271 bXbX11df#40692 df#2305843009213693951 "]
def xz(h:aM K vs H Q E):g8 K (eD9 Q) (start ["_law_script","_law_k","_law_number_here"] vs) H:=by
 obtain⟨a,ns,k,rfl,hS,hn,k0,k1,q⟩:=h;have kk:k*k<=10000*10000:=Int.mul_le_mul k1 k1 k0 #[1];have kk0:0<=k*k:=Qa k0 k0;ac_nf;unfold g8;rw[az,aC];symm;refine⟨a,_,rfl,.inl hS,?_⟩;symm;rw[NI];unfold lawCA at q;by_cases hl:(ns.length:Int)=0
 . rw[Oh hl] at q;rw[NP hl];refine iteT ⟨.inl ⟨by omega,by omega⟩,.inr ⟨by decide,by decide⟩,.inl ⟨by decide,by decide⟩,?_⟩;symm;exact⟨by decide,q⟩
 . rw[Ob hl] at q;rw[NL hl];have hpos:0 < (ns.length:Int):=by omega
   refine iteF ⟨a,_,rfl,.inl hS,?_⟩;symm;rw[NI];have m0:=Oz k (Int.ne_of_gt hpos);have m1:=Ow k hpos;refine⟨hpos,a,_,_,_,rfl,rfl,hS,vX m0 m1,?_⟩;symm;refine⟨by decide,?_⟩;rw[aC];symm;refine⟨a,_,rfl,.inl hS,?_⟩;symm;rw[NI];by_cases hk:k < (ns.length:Int)
   . rw[Oh hk] at q;rw[NP hk];exact iteT q
   . rw[Ob hk] at q;rw[NL hk];refine iteF ⟨.inr ⟨by decide,by decide⟩,.inl ⟨by omega,by omega⟩,.inr ⟨by decide,by decide⟩,?_⟩;symm;exact⟨by decide,q⟩
def db(K:Frag):Sp:=fun vs H Q _=>∃ A C Ny cs,vs=[.ref A,.ref C]/\H A=↥(Ny.map V.int)/\H C=↥(cs.map V.int)/\aU cs Ny.length/\∀ l H',Same H H'->H l=none->H' l=↥((sgAt Ny cs).map V.int)->Q (.ref l) H'
def pE(K:Frag):TS:=#[":jx&--0 wc1h#1 Jbi21"]
def Dh(h:db K vs H Q E):pE K (eD9 Q) (start ["masks","cells"] vs) H:=by
 obtain⟨A,C,Ny,cs,rfl,hA,hC,⟨hn,hc⟩,q⟩:=h;ac_nf;unfold pE;symm;refine⟨⟨_,N5 hC⟩,?_⟩;refine aT (xs:=cs) (fun _=>true) (fun c=>Ny.getD c.toNat 0) #[0] (N5 hC) ?_ ?_ ?_
 . intro x H1 R hx s1 k1;exact k1 _ (NK _)
 . intro z H1 Q1 hz hb s1 k1;show tOp cIx _ _ [none,⇑z,↑A] H1 Q1;symm;have:=hc z hz;exact ixI (s1 _ _ hA) this.1 #[0] (k1 _ (NK _))
 . intro l H1 hl s1 el;rw[br] at el;exact q l H1 s1 hl el
def gM(K:Frag):Sp:=fun vs H Q _=>∃(C:Addr) (ms:∅) (s:Int),vs=[.ref C,.int s]/\H C=↥(ms.map V.int)/\ms.length<=63/\∀ H',Same H H'->Q (.int ((ms.filter fun m=>stB m s).length:Nat)) H'
def pF(K:Frag):TS:=#[":jpyax&--1 wc0h#1 z,~Pca1a2e1e"]
def Di(h:gM K vs H Q E):pF K (eD9 Q) (start ["some","sign"] vs) H:=by
 obtain⟨C,ms,s,rfl,hC,hn,q⟩:=h;ac_nf;unfold pF;symm;refine⟨⟨_,N5 hC⟩,?_⟩;refine aT (xs:=ms) (fun m=>stB m s) (fun m=>m) #[0] (N5 hC) ?_ ?_ ?_
 . intro x H1 R hx s1 k1;show tB _ [none,⇑x,⇑s] H1 R;symm;exact⟨x,s,rfl,_,rfl,k1 _ (NK _)⟩
 . intro z H1 Q1 hz hb s1 k1;show tVar 1 [none,⇑z,⇑s] H1 Q1;symm;exact k1 _ (NK _)
 . intro l H1 hl s1 el;rw[Pa] at el;rw[aS el,NI];exact q _ s1
def BM(g:Int)(cs Ny:∅)(z s:Int)(ms:∅):Bool:=decide ((cs.length:Int)=g)&&(decide (ms.length=1)&&(!decide (ms.getD 0 0=s)&&((decide (1<=ms.getD 0 0)&&decide (ms.getD 0 0<=g))&&decide (((sgAt Ny (cs.filter fun x=>!decide (x=z))).filter fun m=>stB m (ms.getD 0 0)).length=0))))
def ju(K:Frag)(c:RCl RK):Sp:=fun vs H Q _=>∃ k f r p A M ws cs Ny ms n m z s h w g,vs=[.ref f,.ref r,.ref A,.int z,.int s,.ref M]/\IsFl H f h w g/\IsRule H c k r p ws cs n m/\aU cs Ny.length/\H A=↥(Ny.map V.int)/\H M=↥(ms.map V.int)/\∀ H',Same H H'->Q (.bl (BM g cs Ny z s ms)) H'
def gN(K:Frag)(c:RCl RK):TS:=#[":jbsc,~Vca,~rca2a,;cka1a3eeabi5df#0 edf#0 "]
def kO(K:Frag)(c:RCl RK):TS:=#[":gnQmbscbi5df#0 4Rz,'Bca0abi5df#0 ejdFBo{vck"]
def jv(K:Frag)(c:RCl RK):TS:=#[":gnQmbAcpyaDkL~C~Dck1eebi0df#2 mbAcpya5edf#1 jdFBo{wck"]
def rZ {k:RK} {f r p A M:Addr} {ws:List (List Nat)} {cs Ny:∅} {n m:Int} (x:IsRule H c k r p ws cs n m) (hC:aU cs Ny.length) (hA:H A=↥(Ny.map V.int)) (hM:H M=↥(ms.map V.int)) (hl:ms.length=1)
  (q:∀ H',Same H H'->Q (.bl (decide (((sgAt Ny (cs.filter fun x=>!decide (x=z))).filter fun m=>stB m (ms.getD 0 0)).length=0))) H'):
  gN K c (eD9 Q) [↑f,↑r,↑A,⇑z,⇑s,↑M] H:=by
 unfold gN;symm;refine⟨k,r,p,ws,cs,n,m,z,rfl,x,hC.1,fun O H1 s1 hO eO=>?_⟩;symm;have hC2:aU (cs.filter fun x=>!decide (x=z)) Ny.length:=⟨NS (NX _ _) hC.1,fun y hy=>hC.2 y (Of.mp hy).1⟩;refine⟨A,O,Ny,_,rfl,s1 _ _ hA,eO,hC2,fun B H2 s2 hB eB=>?_⟩;dsimp only;refine ixI ((s1.trans s2) _ _ hM) #[1] #[0] ?_;rw[show(0:Int).toNat=0 from rfl];symm;refine⟨B,_,_,rfl,eB,by unfold sgAt;rw[NI];exact hC2.1,fun H3 s3=>?_⟩;symm;have q1:=q H3 ((s1.trans s2).trans s3)
 have e:decide ((((sgAt Ny (cs.filter fun x=>!decide (x=z))).filter fun m=>stB m (ms.getD 0 0)).length:Int)=0)=decide (((sgAt Ny (cs.filter fun x=>!decide (x=z))).filter fun m=>stB m (ms.getD 0 0)).length=0):=by
  rw[Oi,NO,NO];omega
 rw[e];exact q1
theorem wk(h:ju K c vs H Q E):jv K c (eD9 Q) (start ["floor","rule","masks","cell","sign","more"] vs) H:=by
 obtain⟨k,f,r,p,A,M,ws,cs,Ny,ms,n,m,z,s,h,w,g,rfl,hf,x,hC,hA,hM,q⟩:=h;obtain⟨dx,W,C,h1,h2,h3⟩:=x.ex;ac_nf;unfold jv;rw[az,aC];symm;refine methE (k:=k) rfl x.ok h1 (by rfl) ?_;symm;refine⟨r,p,ws,cs,n,m,rfl,x,fun l hl=>?_⟩;obtain⟨H1,z9,s1,el⟩:=a9 (.lst (cs.map V.int)) hl;rw[z9]
 try dsimp only
 rw[aS el,NI];refine ixT (s1 _ _ hf) (v:=V.int g) rfl ?_;symm;unfold BM at q
 cases hb:decide ((cs.length:Int)=g) with
 | false=>
  rw[hb,NZ] at q;symm;exact q _ s1
 | true=>
  rw[hb,N2] at q;symm;rw[aS (s1 _ _ hM),NI];symm
  have e1:decide ((ms.length:Int)=1)=decide (ms.length=1):=by
   rw[Oi,NO,NO];omega
  rw[e1]
  cases hb2:decide (ms.length=1) with
  | false=>
   rw[hb2,NZ] at q;symm;exact q _ s1
  | true=>
   rw[hb2,N2] at q;have hl1:=Oy hb2;symm;unfold kO;rw[az,aC];symm;refine ixI (s1 _ _ hM) #[1] #[0] ?_;rw[show(0:Int).toNat=0 from rfl];symm
   cases hb3:decide (ms.getD 0 0=s) with
   | true=>
    rw[hb3,PL,NZ] at q;refine iteT ?_;symm;exact q _ s1
   | false=>
    rw[hb3,Qb,N2] at q;refine iteF ?_;refine ixI (s1 _ _ hM) #[1] #[0] ?_;rw[show(0:Int).toNat=0 from rfl];symm;refine⟨f,h,w,g,_,rfl,s1 _ _ hf,?_⟩
    cases hb4:(decide (1<=ms.getD 0 0)&&decide (ms.getD 0 0<=g)) with
    | false=>
     rw[hb4,NZ] at q;refine⟨false,rfl,iteT ?_⟩;symm;exact q _ s1
    | true=>
     rw[hb4,N2] at q;refine⟨true,rfl,iteF ?_⟩;exact rZ (x.same s1) hC (s1 _ _ hA) (s1 _ _ hM) hl1 fun H' s2=>q H' (s1.trans s2)
def BN(t:TK):decide (tkC t=[112,108,97,99,101])=decide (t=.place):=by cases t <;> decide
def uN:List V->Hp->VK->Prop
 | [.int i,.int j],H,Q=>CDiv i j/\∀ p,H p=none->Q (.ref p) (upd H p (.tup [.int (i/j),.int (i%j)]))
 | _,_,_=>False
def BO{X:Cx}:CallR X (.builtin "divmod") uN:=by
 intro Nz s σ H xs us Q I r h;unfold uN at h
 split at h
 . exact C4 Nz s σ H _ us Q I r ⟨_,_,rfl,h.1,h.2⟩
 . exact h.elim
def Gh:bootBuiltins "divmod"=some (.builtin "divmod"):=by decide+kernel
def Hj{i j:Int}{H:Hp}{Q:VK}:uN [.int i,.int j] H Q=(CDiv i j/\∀ p,H p=none->Q (.ref p) (upd H p (.tup [.int (i/j),.int (i%j)]))):=rfl
def gb(K:Frag):Sp:=fun vs H Q _=>∃(C:Addr) (ms:∅) (s:Int),vs=[.ref C,.int s]/\H C=↥(ms.map V.int)/\ms.length<=63/\s<=100000/\∀ H',Same H H'->Q (.int ((ms.filter fun m=>decide (woI m s=0)).length:Nat)) H'
def nG(K:Frag):TS:=#[":jpyax&--1 wc0h#1 z,~Tca1a2e1e"]
variable{K:Frag}{vs:List V}{H:Hp}{Q:VK}{E:XK}
def BP(h:gb K vs H Q E):nG K (eD9 Q) (start ["some","sign"] vs) H:=by
 obtain⟨C,ms,s,rfl,hC,hn,hs,q⟩:=h;ac_nf;unfold nG;symm;refine⟨⟨_,N5 hC⟩,?_⟩;refine aT (xs:=ms) (fun m=>decide (woI m s=0)) (fun m=>m) #[0] (N5 hC) ?_ ?_ ?_
 . intro x H1 R hx s1 k1;show tB _ [none,⇑x,⇑s] H1 R;symm;exact⟨x,s,rfl,hs,_,rfl,k1 _ (NK _)⟩
 . intro z H1 Q1 hz hb s1 k1;show tVar 1 [none,⇑z,⇑s] H1 Q1;symm;exact k1 _ (NK _)
 . intro l H1 hl s1 el;rw[Pa] at el;rw[aS el,NI];exact q _ s1
def rosP(c z:Int)(q:∅):Bool:=decide (q.getD 0 0=c)&&decide (z∈q)
def rosL(h w c z:Int):∅:=match (squL h w).find? (rosP c z) with
 | none=>[]
 | some q=>q.filter fun x=>!decide (x=z)
variable{h w:Int}
def y8{q:∅}(hq:q∈squL h w):∃ i:Nat,i < (h*w).toNat/\cornB h w i=true/\q=sqL w i:=by
 unfold squL at hq;obtain⟨i,hi,rfl⟩:=N9.mp hq;obtain⟨hi,hc⟩:=Of.mp hi;exact⟨i,N8.mp hi,hc,rfl⟩
def Iq{c:Int}(w0:1<=w)(c0:0<=c)(hc:cornB h w c=true):c+w+1<h*w:=by
 unfold cornB at hc;rw[Om,NO,NO] at hc;have e:=Int.mul_ediv_add_emod c w;have m:=Int.mul_le_mul_of_nonneg_left (show c/w+2<=h by omega) (show 0<=w by omega);rw[Int.mul_add] at m;rw[Int.mul_comm h w];omega
def Kl{c x:Int}(w0:1<=w)(c0:0<=c)(hc:cornB h w c=true)(hx:x∈sqL w c):0<=x/\x<h*w:=by
 have:=Iq w0 c0 hc;simp[sqL] at hx;omega
variable{z:Int}
theorem Gi{g c:Int}{n:Nat}(F:FlOk h w g)(hn:n=(h*w).toNat):aU (rosL h w c z) n:=by
 have w0:=F.w0;unfold rosL
 cases e:(squL h w).find? (rosP c z) with
 | none=>exact⟨by show(0:Nat)<=63;omega,fun x hx=>by cases hx⟩
 | some q=>
  obtain⟨i,hi,hc,rfl⟩:=y8 (QZ e);refine⟨NS (NX _ _) (by show(4:Nat)<=63;omega),fun x hx=>?_⟩;have:=Kl w0 #[0] hc (Of.mp hx).1;omega
def fQ(K:Frag):Sp:=fun vs H Q _=>∃ f h w g c z,vs=[.ref f,.int c,.int z]/\IsFl H f h w g/\FlOk h w g/\∀ l H',Same H H'->H l=none->H' l=↥((rosL h w c z).map V.int)->Q (.ref l) H'
def iL(K:Frag):TS:=#[":gIwc,'Cca0eh#3 nSmbscbi3df#0 1mbKcB23jx&--2 wc3h#1 mbAc121ojve"]
def uT(h:fQ K vs H Q E):iL K (eD9 Q) (start ["floor","corner","cell","square"] vs) H:=by
 obtain⟨f,h,w,g,c,z,rfl,hf,F,q⟩:=h;ac_nf;unfold iL;rw[az];symm;refine⟨f,h,w,g,rfl,hf,F,fun l as H1 s1 hl x nd nl hn=>?_⟩;refine⟨l,rfl,⟨_,N5 x.top⟩,?_⟩;refine b7 (K:=K) (xs:=as.map V.ref) (fun i σ H'=>∃ sv:Option V,σ=[↑f,⇑c,⇑z,sv]/\Same H1 H'/\∀(j:Nat) (q:∅),j<i->(squL h w)[j]? =some q->rosP c z q=false) ⟨none,rfl,NK _,fun j q hj=>by omega⟩ (fun i σ H' _ ⟨_,_,s,_⟩=>s.seq (N5 x.top)) ?_ ?_
 . rintro i v σ H2 hv ⟨sv,rfl,s2,hno⟩;rw[NN] at hv
   cases ha:as[i]? with
   | none=>rw[ha] at hv;cases hv
   | some a=>
   rw[ha] at hv;cases hv;have hlt:i < (squL h w).length:=by rw[← x.len];exact(NR.mp ha).1
   have eq:(squL h w)[i]? =some (squL h w)[i]:=NJ hlt;have ea:=(x.same s2).at_ i a _ ha eq
   have q4:((squL h w)[i]).length=4:=by
    obtain⟨k,_,_,e⟩:=y8 (Ot hlt);rw[e];rfl
   have nx:rosP c z (squL h w)[i]=false->∀(j:Nat) (q:∅),j<i+1->(squL h w)[j]? =some q->rosP c z q=false:=fun hf j q hj hq=>by
    by_cases hji:j=i
    . subst hji;rw[eq] at hq;cases hq;exact hf
    . exact hno j q #[0] hq
   have fo:rosP c z (squL h w)[i]=true->rosL h w c z=(squL h w)[i].filter fun x=>!decide (x=z):=fun ht=>by
    have e:(squL h w).find? (rosP c z)=some (squL h w)[i]:=by
     rw[List.find?_eq_some_iff_getElem];refine⟨ht,i,hlt,rfl,fun j hj=>?_⟩;rw[hno j _ hj (NJ #[0])];rfl
    unfold rosL;rw[e]
   generalize (squL h w)[i]=sq at*;unfold rosP at nx fo;symm;rw[aC];symm;refine ixI ea #[1] #[0] ?_;rw[show(0:Int).toNat=0 from rfl];symm
   cases hb:decide (sq.getD 0 0=c) with
   | false=>
    rw[hb,NZ] at nx;refine iteF ?_;symm;exact⟨_,rfl,s2,nx rfl⟩
   | true=>
    rw[hb,N2] at nx fo;refine iteT ?_;rw[qK ea]
    cases hb2:decide (z∈sq) with
    | false=>
     rw[hb2] at nx;refine⟨false,rfl,?_⟩;symm;exact⟨_,rfl,s2,nx rfl⟩
    | true=>
     rw[hb2] at fo;refine⟨true,rfl,?_⟩;symm;refine⟨⟨_,N5 ea⟩,?_⟩;refine aT (xs:=sq) (fun x=>!decide (x=z)) (fun x=>x) #[0] (N5 ea) ?_ ?_ ?_
     . intro y H3 R hy s3 k3;show tTest _ [none,⇑y,⇑z] H3 R;symm;exact k3 _ (NK _)
     . intro y H3 Q3 hy hb s3 k3;show tVar 1 [none,⇑y,⇑z] H3 Q3;symm;exact k3 _ (NK _)
     . intro T H3 hT s3 eT;rw[Pa,← fo rfl] at eT;exact q T H3 ((s1.trans s2).trans s3) ((s1.trans s2).free hT) eT
 . rintro σ H2 ⟨sv,rfl,s2,hno⟩
   have e:rosL h w c z=[]:=by
    have e:(squL h w).find? (rosP c z)=none:=by
     rw[List.find?_eq_none];intro q hq;obtain⟨i,hi⟩:=List.getElem?_of_mem hq;rw[hno i q (by rw[NI,x.len];exact(NR.mp hi).1) hi];decide
    unfold rosL;rw[e]
   symm;refine⟨aW #[1],fun T hT=>?_⟩;exact q T _ ((s1.trans s2).trans ((NK H2).laid hT)) ((s1.trans s2).free hT) (by rw[ao,e];rfl)
def squB(h w m:Int)(Ny:∅)(z s:Int)(ms:∅):Bool:=decide (s=m)&&(decide (ms.length=1)&&(!decide (rosL h w (ms.getD 0 0) z=[])&&decide (((sgAt Ny (rosL h w (ms.getD 0 0) z)).filter fun k=>decide (woI k s=0)).length=(rosL h w (ms.getD 0 0) z).length)))
def iM(K:Frag)(c:RCl RK):Sp:=fun vs H Q _=>∃ k f r p A M ws cs Ny ms n m z s h w g,vs=[.ref f,.ref r,.ref A,.int z,.int s,.ref M]/\IsFl H f h w g/\FlOk h w g/\IsRule H c k r p ws cs n m/\Ny.length=(h*w).toNat/\H A=↥(Ny.map V.int)/\H M=↥(ms.map V.int)/\s<=1000/\∀ H',Same H H'->Q (.bl (squB h w m Ny z s ms)) H'
def gq(K:Frag)(c:RCl RK):TS:=#[":gl,'Dca0abi5df#0 a3eh#6 jObAc6vebsc,~Wca,~rca2a6ea4epya6e"]
def iO(K:Frag)(c:RCl RK):TS:=#[":gnQmbAc4DkL~E~Fck1embAcpya5edf#1 jdFBo{xck"]
variable{c:RCl RK}{Ny:∅}
theorem rd {f A M:Addr} {v1:V} {ms:∅} {s g:Int} (hf:IsFl H f h w g) (F:FlOk h w g) (hml:Ny.length=(h*w).toNat) (hA:H A=↥(Ny.map V.int)) (hM:H M=↥(ms.map V.int)) (hl:ms.length=1) (hs:s<=1000)
  (q:∀ H',Same H H'->Q (.bl (!decide (rosL h w (ms.getD 0 0) z=[])&&decide (((sgAt Ny (rosL h w (ms.getD 0 0) z)).filter fun k=>decide (woI k s=0)).length=(rosL h w (ms.getD 0 0) z).length))) H'):
  gq K c (eD9 Q) [↑f,some v1,↑A,⇑z,⇑s,↑M,none] H:=by
 have hin:=Gi (c:=ms.getD 0 0) (z:=z) F hml;unfold gq;symm;refine ixI hM #[1] #[0] ?_;rw[show(0:Int).toNat=0 from rfl];symm;refine⟨f,h,w,g,_,z,rfl,hf,F,fun R H1 s1 hR eR=>?_⟩;symm;refine⟨aW #[1],fun Z hZ=>?_⟩;obtain⟨H2,z9,s2,eZ⟩:∃ z,upd H1 Z (.lst [])=z/\Same H1 z/\z Z=↥(([]:∅).map V.int):=a9 _ hZ;rw[z9];have s12:=s1.trans s2;refine qM (s2 _ _ eR) eZ ?_;generalize hros:rosL h w (ms.getD 0 0) z=ros at*
 cases hb:decide (ros=[]) with
 | true=>
  rw[hb,PL] at q;refine⟨false,rfl,iteF ?_⟩;exact q _ s12
 | false=>
  rw[hb,Qb] at q;refine⟨true,rfl,iteT ?_⟩;symm;refine⟨A,R,Ny,ros,rfl,s12 _ _ hA,s2 _ _ eR,hin,fun B H3 s3 hB eB=>?_⟩;dsimp only;refine⟨B,_,s,rfl,eB,by unfold sgAt;rw[NI];exact hin.1,by omega,fun H4 s4=>?_⟩;symm;rw[aS (((s2.trans s3).trans s4) _ _ eR),NI];symm;have q1:=q H4 ((s12.trans s3).trans s4)
  have e:decide ((((sgAt Ny ros).filter fun k=>decide (woI k s=0)).length:Int)=(ros.length:Int))=decide (((sgAt Ny ros).filter fun k=>decide (woI k s=0)).length=ros.length):=by
   rw[Oi,NO,NO];omega
  rw[e];exact q1
theorem uU(h:iM K c vs H Q E):iO K c (eD9 Q) (start ["floor","rule","masks","cell","sign","more","rest"] vs) H:=by
 obtain⟨k,f,r,p,A,M,ws,cs,Ny,ms,n,m,z,s,h,w,g,rfl,hf,F,x,hml,hA,hM,hs,q⟩:=h;obtain⟨dx,W,C,h1,h2,h3⟩:=x.ex;ac_nf;unfold iO;rw[az,aC];symm;refine methE (k:=k) rfl x.ok h1 (by rfl) ?_;symm;refine⟨r,p,ws,cs,n,m,rfl,x,?_⟩;symm;unfold squB at q
 cases hb:decide (s=m) with
 | false=>
  rw[hb,NZ] at q;symm;exact q _ (NK _)
 | true=>
  rw[hb,N2] at q;symm;rw[aS hM,NI];symm
  have e1:decide ((ms.length:Int)=1)=decide (ms.length=1):=by
   rw[Oi,NO,NO];omega
  rw[e1]
  cases hb2:decide (ms.length=1) with
  | false=>
   rw[hb2,NZ] at q;symm;exact q _ (NK _)
  | true=>
   rw[hb2,N2] at q;symm;exact rd hf F hml hA hM (Oy hb2) hs q
def zV(t:TK):decide (tkC t=[115,113,117,97,114,101])=decide (t=.square):=by cases t <;> decide
def othL(cs:∅)(z:Int):∅:=cs.filter fun x=>!decide (x=z)
def cntB(cs:∅)(n m:Int)(Ny:∅)(z s:Int)(ms:∅):Bool:=
 decide (ms=[])&&(if s=m then decide (n<=(((sgAt Ny (othL cs z)).filter fun k=>decide (woI k s=0)).length:Int)) else decide ((((sgAt Ny (othL cs z)).filter fun k=>stB k m).length:Int)<n))
def jw(K:Frag)(c:RCl RK):Sp:=fun vs H Q _=>∃ k r p A M ws cs Ny ms n m z s,vs=[.ref r,.ref A,.int z,.int s,.ref M]/\IsRule H c k r p ws cs n m/\aU cs Ny.length/\H A=↥(Ny.map V.int)/\H M=↥(ms.map V.int)/\s<=1000/\∀ H',Same H H'->Q (.bl (cntB cs n m Ny z s ms)) H'
def gO(K:Frag)(c:RCl RK):TS:=#[":gl,~rca1a,;cka0a2eeh#5 gnmbsc3DkL~E~Fck0ejb),~Wca5a3eDkL~X~Yck0eojb<,~Vca5aDkL~E~Fck0eeDkL~X~Yck0e"]
def jx(K:Frag)(c:RCl RK):TS:=#[":gnmbAc4vejdFBo{yck"]
variable{cs:∅}{m:Int}
def r8 {k:RK} {r p A M:Addr} {ws:List (List Nat)} {n s:Int} (x:IsRule H c k r p ws cs n m) (hC:aU cs Ny.length) (hA:H A=↥(Ny.map V.int)) (hs0:s<=1000)
  (q:∀ H',Same H H'->Q (.bl (if s=m then decide (n<=(((sgAt Ny (othL cs z)).filter fun k=>decide (woI k s=0)).length:Int)) else decide ((((sgAt Ny (othL cs z)).filter fun k=>stB k m).length:Int)<n))) H'):
  gO K c (eD9 Q) [↑r,↑A,⇑z,⇑s,↑M,none] H:=by
 have hC2:aU (othL cs z) Ny.length:=⟨NS (NX _ _) hC.1,fun y hy=>hC.2 y (Of.mp hy).1⟩;have NF:(sgAt Ny (othL cs z)).length<=63:=by unfold sgAt;rw[NI];exact hC2.1
 unfold gO;symm;refine⟨k,r,p,ws,cs,n,m,z,rfl,x,hC.1,fun O H1 s1 hO eO=>?_⟩;symm;refine⟨A,O,Ny,othL cs z,rfl,s1 _ _ hA,eO,hC2,fun B H2 s2 hB eB=>?_⟩;have s12:=s1.trans s2;have x2:=x.same s12;obtain⟨dx,W,C,h1,h2,h3⟩:=x2.ex;symm;rw[aC];symm;refine methE (k:=k) rfl x2.ok h1 (by rfl) ?_;symm;refine⟨r,p,ws,cs,n,m,rfl,x2,?_⟩;symm;by_cases hs:s=m
 . rw[Oh hs] at q;rw[NP hs];symm;refine⟨B,_,_,rfl,eB,NF,by omega,fun H3 s3=>?_⟩;have x3:=x2.same s3;obtain⟨dx3,W3,C3,g1,g2,g3⟩:=x3.ex;refine methE (k:=k) rfl x3.ok g1 (by rfl) ?_;symm;refine⟨r,p,ws,cs,n,m,rfl,x3,?_⟩;symm;exact q _ (s12.trans s3)
 . rw[Ob hs] at q;rw[NL hs];symm;refine methE (k:=k) rfl x2.ok h1 (by rfl) ?_;symm;refine⟨r,p,ws,cs,n,m,rfl,x2,?_⟩;symm;refine⟨B,_,_,rfl,eB,NF,fun H3 s3=>?_⟩;have x3:=x2.same s3;obtain⟨dx3,W3,C3,g1,g2,g3⟩:=x3.ex;refine methE (k:=k) rfl x3.ok g1 (by rfl) ?_;symm;refine⟨r,p,ws,cs,n,m,rfl,x3,?_⟩;symm;exact q _ (s12.trans s3)
theorem wl(h:jw K c vs H Q E):jx K c (eD9 Q) (start ["rule","masks","cell","sign","more","some"] vs) H:=by
 obtain⟨k,r,p,A,M,ws,cs,Ny,ms,n,m,z,s,rfl,x,hC,hA,hM,hs,q⟩:=h;ac_nf;unfold jx;rw[az,aC];symm;refine⟨aW #[1],fun Z hZ=>?_⟩;obtain⟨H1,z9,s1,eZ⟩:∃ z,upd H Z (.lst [])=z/\Same H z/\z Z=↥(([]:∅).map V.int):=a9 _ hZ;rw[z9];refine qM (s1 _ _ hM) eZ ?_;unfold cntB at q
 cases hb:decide (ms=[]) with
 | false=>
  rw[hb,NZ] at q;refine⟨true,rfl,?_⟩;symm;exact q _ s1
 | true=>
  rw[hb,N2] at q;refine⟨false,rfl,?_⟩;symm;exact r8 (x.same s1) hC (s1 _ _ hA) hs fun H' s2=>q H' (s1.trans s2)
def Hk(t:TK):decide (tkC t=[99,111,117,110,116])=decide (t=.count):=by cases t <;> decide
variable{xs:∅}
def re{q:Addr}{x:Int}(hq:H q=↥(xs.map V.int))(hm:x∈xs)(hn:xs.length<=900)(h:Q (.int (xs.findIdx (· ==x):Nat)) H):jW K (.ref q) [.int x] H Q:=by
 have hlt:xs.findIdx (· ==x)<xs.length:=PF ⟨x,hm,by simp⟩
 have ev:∀ a b:Int,PyData.eqv (.int a) (.int b)=decide (a=b):=fun a b=>by
  rw[PyData.eqv];by_cases h:a=b
  . subst h;simp
  . simp[h]
 refine⟨xs.map PyData.int,.int x,xs.findIdx (· ==x),.lst (N5 hq) (.ints xs),.int x,vU xs,rfl,?_,by omega,⟨PyData.int xs[xs.findIdx (· ==x)],?_,?_⟩,fun m e hm2 he=>?_,h⟩
 . rw[qJ];omega
 . rw[NN,NJ hlt];rfl
 . have:=List.findIdx_getElem (w:=hlt);rw[ev,NO]
   simpa using this
 . have hml:m<xs.length:=by omega
   rw[NN,NJ hml] at he;cases he;have:=RA hm2;rw[ev,Pl]
   simpa using this
def jy(xs:∅)(x:Int):Nat:=xs.findIdx (· ==x)
def ordB(cs ms:∅):Bool:=decide (ms.length=2)&&(decide (ms.getD 0 0∈cs)&&(decide (ms.getD 1 0∈cs)&&decide (jy cs (ms.getD 0 0)<jy cs (ms.getD 1 0))))
def gr(K:Frag):Sp:=fun vs H Q _=>∃ C M cs ms,vs=[.ref C,.ref M]/\H C=↥(cs.map V.int)/\cs.length<=63/\H M=↥(ms.map V.int)/\Q (.bl (ordB cs ms)) H
def gt(K:Frag):TS:=#[":gnQmbAcpya1edf#2 QmbKcMbi1df#0 0mbKcMbi1df#1 0jdFBojb<EcG~Gc0abi1df#0 eEcG~Gc0abi1df#1 e"]
theorem rf(h:gr K vs H Q E):gt K (eD9 Q) (start ["cells","more"] vs) H:=by
 obtain⟨C,M,cs,ms,rfl,hC,hn,hM,q⟩:=h;ac_nf;unfold gt;rw[az,aC];symm;rw[aS hM,NI];symm;unfold ordB at q
 have e1:decide ((ms.length:Int)=2)=decide (ms.length=2):=by
  rw[Oi,NO,NO];omega
 rw[e1]
 cases hb:decide (ms.length=2) with
 | false=>
  rw[hb,NZ] at q;symm;exact q
 | true=>
  rw[hb,N2] at q;have hl:=Oy hb;symm;refine ixI hM #[1] #[0] ?_;rw[show(0:Int).toNat=0 from rfl];symm;rw[jV hC]
  cases hb2:decide (ms.getD 0 0∈cs) with
  | false=>
   rw[hb2,NZ] at q;refine⟨true,rfl,iteT ?_⟩;symm;exact q
  | true=>
   rw[hb2,N2] at q;refine⟨false,rfl,iteF ?_⟩;symm;refine ixI hM #[1] #[0] ?_;rw[show(1:Int).toNat=1 from rfl];symm;rw[jV hC]
   cases hb3:decide (ms.getD 1 0∈cs) with
   | false=>
    rw[hb3,NZ] at q;refine⟨true,rfl,iteT ?_⟩;symm;exact q
   | true=>
    rw[hb3,N2] at q;refine⟨false,rfl,iteF ?_⟩;symm;refine⟨bL hC,?_⟩;refine ixI hM #[1] #[0] ?_;rw[show(0:Int).toNat=0 from rfl];symm;refine re hC (Oy hb2) #[0] ?_;symm;refine⟨bL hC,?_⟩;refine ixI hM #[1] #[0] ?_;rw[show(1:Int).toNat=1 from rfl];symm;refine re hC (Oy hb3) #[0] ?_;symm
    have e2:decide (((cs.findIdx (· ==ms.getD 0 0):Nat):Int) < ((cs.findIdx (· ==ms.getD 1 0):Nat):Int))=decide (jy cs (ms.getD 0 0)<jy cs (ms.getD 1 0)):=by
     rw[Oi,NO,NO];unfold jy;omega
    rw[e2];exact q
def orM(Ny:∅)(ms:∅):Int:=Builtin.bitOr (Ny.getD (ms.getD 0 0).toNat 0) (Ny.getD (ms.getD 1 0).toNat 0)
def pairB(cs Ny:∅)(z s:Int)(ms:∅):Bool:=ordB (cs.filter fun x=>!decide (x=z)) ms&&decide (((sgL (orM Ny ms)).filter fun x=>!decide (x=s)).length<=1)
def JK{a b:Int}(a0:0<=a)(b0:0<=b):Builtin.bitOr a b=((a.toNat||| b.toNat:Nat):Int):=by
 have f:∀{x:Int},0<=x->decide (0<= -x-1)=false/\ -(-x-1)-1=x:=fun h=>⟨NL #[0],by omega⟩;unfold Builtin.bitOr Builtin.bitAnd Builtin.bitNot;rw[(f a0).1,(f b0).1];show -(-((((-(-a-1)-1).toNat||| (-(-b-1)-1).toNat:Nat):Int))-1)-1=_;rw[(f a0).2,(f b0).2];omega
def Km{a b:Int}(a0:0<=a)(a1:a<64)(b0:0<=b)(b1:b<64):0<=Builtin.bitOr a b/\Builtin.bitOr a b<64:=by
 have l:a.toNat||| b.toNat<2^6:=Nat.or_lt_two_pow #[0] #[0];rw[JK a0 b0];omega
def JL:((List.range 64).all fun m=>decide (Builtin.Int.intBits (m:Int)<=6)&&decide (sgL (m:Int)=(([0,1,2,3,4,5]:List Nat).filter fun(i:Nat)=>stB (m:Int) (1+(i:Int))).map fun(i:Nat)=>1+(i:Int)))=true:=by decide+kernel
def jb(m0:0<=m)(m1:m<64):Builtin.Int.intBits m<=6/\sgL m=(([0,1,2,3,4,5]:List Nat).filter fun(i:Nat)=>stB m (1+(i:Int))).map fun(i:Nat)=>1+(i:Int):=by
 have t:=Oe.mp JL m.toNat (N8.mpr #[0]);have e1:((m.toNat:Nat):Int)=m:=by omega
 rw[e1,Om,NO,NO] at t;exact t
def xA{i:Int}(mm:∀ m∈Ny,0<=m/\m<64)(i0:0<=i)(i1:i<Ny.length):0<=Ny.getD i.toNat 0/\Ny.getD i.toNat 0<64:=by
 have hlt:i.toNat<Ny.length:=by omega
 rw[List.getD,NJ hlt];exact mm _ (Ot hlt)
def kh(K:Frag)(c:RCl RK):Sp:=fun vs H Q _=>∃ k r p A M ws cs Ny ms n m z s,vs=[.ref r,.ref A,.int z,.int s,.ref M]/\IsRule H c k r p ws cs n m/\aU cs Ny.length/\(∀ m∈Ny,0<=m/\m<64)/\H A=↥(Ny.map V.int)/\H M=↥(ms.map V.int)/\∀ H',Same H H'->Q (.bl (pairB cs Ny z s ms)) H'
def ie(K:Frag)(c:RCl RK):TS:=#[":gl,~scab{zbi1bi4df#0 bi1bi4df#1 eh#5 jb(pyax&--3 wc5h#1 mbAc121edf#1 "]
def ki(K:Frag)(c:RCl RK):TS:=#[":gnRz,{Aca,;cka0a2ea4ejdFBo{Bck"]
def sZ {A M:Addr} {ms:∅} {s:Int} {v0:V} (hC:aU cs Ny.length) (mm:∀ m∈Ny,0<=m/\m<64) (hA:H A=↥(Ny.map V.int)) (hM:H M=↥(ms.map V.int)) (ho:ordB (cs.filter fun x=>!decide (x=z)) ms=true)
  (q:∀ H',Same H H'->Q (.bl (decide (((sgL (orM Ny ms)).filter fun x=>!decide (x=s)).length<=1))) H'):
  ie K c (eD9 Q) [some v0,↑A,⇑z,⇑s,↑M,none] H:=by
 unfold ordB at ho;simp only[Om,NO] at ho;obtain⟨hl,m0,m1,_⟩:=ho;have c0:=hC.2 _ (Of.mp m0).1;have c1:=hC.2 _ (Of.mp m1).1;have k0:=xA mm c0.1 c0.2;have k1:=xA mm c1.1 c1.2;have ol:=Km k0.1 k0.2 k1.1 k1.2;have sb:=(jb ol.1 ol.2).1;unfold ie;symm;refine ixI hM #[1] #[0] ?_;rw[show(0:Int).toNat=0 from rfl];symm;refine ixI hA c0.1 c0.2 ?_;symm;refine ixI hM #[1] #[0] ?_;rw[show(1:Int).toNat=1 from rfl];symm;refine ixI hA c1.1 c1.2 ?_;symm;refine⟨_,rfl,by omega,fun l H1 s1 hl1 el=>?_⟩;have el2:H1 l=↥((sgL (orM Ny ms)).map V.int):=el
 have hsl:(sgL (orM Ny ms)).length<=6:=by
  unfold orM;rw[(jb ol.1 ol.2).2,NI];exact NX _ _
 symm;refine⟨⟨_,N5 el2⟩,?_⟩;refine aT (xs:=sgL (orM Ny ms)) (fun x=>!decide (x=s)) (fun x=>x) #[0] (N5 el2) ?_ ?_ ?_
 . intro x H2 R hx s2 k2;show tTest _ [none,⇑x,⇑s] H2 R;symm;exact k2 _ (NK _)
 . intro x H2 Q2 hx hb s2 k2;show tVar 1 [none,⇑x,⇑s] H2 Q2;symm;exact k2 _ (NK _)
 . intro T H2 hT s2 eT;rw[Pa] at eT;symm;rw[aS eT,NI];symm
   have e2:decide ((((sgL (orM Ny ms)).filter fun x=>!decide (x=s)).length:Int)<=1)=decide (((sgL (orM Ny ms)).filter fun x=>!decide (x=s)).length<=1):=by
    rw[Oi,NO,NO];omega
   rw[e2];exact q _ (s1.trans s2)
theorem xB(h:kh K c vs H Q E):ki K c (eD9 Q) (start ["rule","masks","cell","sign","more","together"] vs) H:=by
 obtain⟨k,r,p,A,M,ws,cs,Ny,ms,n,m,z,s,rfl,x,hC,mm,hA,hM,q⟩:=h;ac_nf;unfold ki;rw[az,aC];symm;refine⟨k,r,p,ws,cs,n,m,z,rfl,x,hC.1,fun O H1 s1 hO eO=>?_⟩;symm;refine⟨O,M,_,ms,rfl,eO,NS (NX _ _) hC.1,s1 _ _ hM,?_⟩;unfold pairB at q
 cases hb:ordB (cs.filter fun x=>!decide (x=z)) ms with
 | false=>
  rw[hb,NZ] at q;refine⟨false,rfl,iteT ?_⟩;symm;exact q _ s1
 | true=>
  rw[hb,N2] at q;refine⟨true,rfl,iteF ?_⟩;exact sZ hC mm (s1 _ _ hA) (s1 _ _ hM) hb fun H' s2=>q H' (s1.trans s2)
def EJ(t:TK):decide (tkC t=[112,108,97,99,101])=decide (t=.place):=by cases t <;> decide
def Ir(t:TK):decide (tkC t=[115,116,101,112])=decide (t=.step):=by cases t <;> decide
def DU(xs:List V){a b:Nat}(hab:a<=b):cutV xs (some (a:Int)) (some (b:Int))=(xs.drop a).take (b-a):=by
 have h1:HT.sIx xs.length 0 (some (a:Int))=min a xs.length:=by rw[HT.sIx_nat]
 have h2:HT.sIx xs.length xs.length (some (b:Int))=min b xs.length:=by rw[HT.sIx_nat]
 unfold cutV;rw[h1,h2];by_cases ha:a<=xs.length
 . rw[QI ha];by_cases hb:b<=xs.length
   . rw[QI hb]
   . rw[Qy #[0],OS (by simp),OS (by simp;omega)]
 . rw[Qy #[0],Qy #[0],List.drop_length,RB #[0]];simp
def lO {k:Nat} {a:Addr} {te:TE} {fin:Addr->Hp->Prop} {σ0:St} {H1:Hp} (f:Int->Bool) (hn:xs.length<=900) (hq:SqL K H1 a (xs.map V.int))
  (he:∀ x H Q,x∈xs->Same H1 H->(∀ H',Same H H'->Q (.bl (f x)) H')->te (σ0.set k ⇑x) H Q)
  (hd:∀ l H,H1 l=none->Same H1 H->H l=↥((xs.map f).map V.bl)->fin l H):
  CompR (Itl K a) (gName k) tTrue te fin σ0 H1:=by
 refine cJ (xs:=xs.map V.int) (fun _=>true) (fun i=>.bl (f (xs.getD i 0))) (by rw[NI];exact hn) hq ?_ ?_ ?_
 . intro i x H R hx s1 k1;exact k1 _ (NK _)
 . intro i x H Q hx hb s1 h;obtain⟨z,hz,rfl⟩:=bi hx;have h2:=h;simp only[k9 hz] at h2;exact he z H Q (NV hz) s1 h2
 . intro l H hl s1 el;refine hd l H hl s1 ?_;rw[el,br,NI,OE]
   congr 2
   exact rH xs fun x=>V.bl (f x)
def ahdL(cs:∅)(z:Int):∅:=if 0<jy cs z then [cs.getD (jy cs z-1) 0] else []
def behL(cs:∅)(z:Int):∅:=if jy cs z+1<cs.length then [cs.getD (jy cs z+1) 0] else []
def HK(h:z∈cs):jy cs z<cs.length:=PF ⟨z,h,by simp⟩
def Iu{o:Int}(h:z∈cs)(ho:o∈ahdL cs z):o∈cs:=by
 have:=HK h;unfold ahdL at ho
 split at ho
 . rw[Oa.mp ho,List.getD,NJ #[0]];exact Ot _
 . cases ho
def Iv{o:Int}(ho:o∈behL cs z):o∈cs:=by
 unfold behL at ho
 split at ho
 . rename_i h
   rw[Oa.mp ho,List.getD,NJ h];exact Ot _
 . cases ho
def BQ(cs:∅)(k:Nat):(cs.drop k).take 1=if k<cs.length then [cs.getD k 0] else []:=by
 by_cases h:k<cs.length
 . rw[Oh h,List.drop_eq_getElem_cons h,List.getD,NJ h];rfl
 . rw[Ob h,RB #[0]];rfl
def jc(K:Frag)(c:RCl RK):Sp:=fun vs H Q _=>∃ k r p ws cs n m z,vs=[.ref r,.int z]/\IsRule H c k r p ws cs n m/\cs.length<=63/\z∈cs/\∀ l H',Same H H'->H l=none->H' l=↥((ahdL cs z).map V.int)->Q (.ref l) H'
def pG(K:Frag)(c:RCl RK):TS:=#[":glDkL~C~Dck0eh#2 glEcG~Gc2a1eh#3 j~Bmb>3df#0 ~n~o2~dbH3df#1 ~d3ve"]
def Dj(h:jc K c vs H Q E):pG K c (eD9 Q) (start ["rule","cell","spots","place"] vs) H:=by
 obtain⟨k,r,p,ws,cs,n,m,z,rfl,x,hn,hz,q⟩:=h;obtain⟨dx,W,C,h1,h2,h3⟩:=x.ex;have hlt:=HK hz;ac_nf;unfold pG;rw[az,bK];refine methE (k:=k) rfl x.ok h1 (by rfl) ?_;symm;refine⟨r,p,ws,cs,n,m,rfl,x,fun S hS=>?_⟩;obtain⟨H1,z9,s1,eS⟩:=a9 (.lst (cs.map V.int)) hS;rw[z9];symm;refine⟨bL eS,?_⟩;refine re eS hz #[0] ?_;have ei:(cs.findIdx (· ==z))=jy cs z:=rfl;rw[ei];unfold ahdL at q;generalize jy cs z=j at*;symm;by_cases hj:0<j
 . rw[Oh hj] at q;rw[NP (show(0:Int) < (j:Int) by omega)];refine iteT ?_;refine w9 eS fun l hl=>?_;have ej:(j:Int)-1=((j-1:Nat):Int):=by omega
   rw[ej,DU _ #[0],show j - (j-1)=1 by omega,← RT,← QB,BQ,Oh #[0]];exact q l _ (s1.laid hl) (s1.free hl) ao
 . rw[Ob hj] at q;rw[NL (show ¬ (0:Int) < (j:Int) by omega)];refine iteF ?_;refine⟨aW #[1],fun l hl=>?_⟩;exact q l _ (s1.laid hl) (s1.free hl) ao
def lW(K:Frag)(c:RCl RK):Sp:=fun vs H Q _=>∃ k r p ws cs n m z,vs=[.ref r,.int z]/\IsRule H c k r p ws cs n m/\cs.length<=63/\z∈cs/\∀ l H',Same H H'->H l=none->H' l=↥((behL cs z).map V.int)->Q (.ref l) H'
def tm(K:Frag)(c:RCl RK):TS:=#[":glDkL~C~Dck0eh#2 glEcG~Gc2a1eh#3 j~n~o2~dbt3df#1 ~dbt3df#2 "]
def Gj(h:lW K c vs H Q E):tm K c (eD9 Q) (start ["rule","cell","spots","place"] vs) H:=by
 obtain⟨k,r,p,ws,cs,n,m,z,rfl,x,hn,hz,q⟩:=h;obtain⟨dx,W,C,h1,h2,h3⟩:=x.ex;ac_nf;unfold tm;rw[az,bK];refine methE (k:=k) rfl x.ok h1 (by rfl) ?_;symm;refine⟨r,p,ws,cs,n,m,rfl,x,fun S hS=>?_⟩;obtain⟨H1,z9,s1,eS⟩:=a9 (.lst (cs.map V.int)) hS;rw[z9];symm;refine⟨bL eS,?_⟩;refine re eS hz #[0] ?_;have ei:(cs.findIdx (· ==z))=jy cs z:=rfl;rw[ei];unfold behL at q;generalize jy cs z=j at*;symm;refine w9 eS fun l hl=>?_;have ej:(j:Int)+1=((j+1:Nat):Int):=by omega
 have ek:(j:Int)+2=((j+2:Nat):Int):=by omega
 rw[ej,ek,DU _ #[0],show j+2 - (j+1)=1 by omega,← RT,← QB,BQ];exact q l _ (s1.laid hl) (s1.free hl) ao
def nogB(s m:Int):Bool:=(sgL m).all fun x=>decide (s<=x)
def nolB(s m:Int):Bool:=(sgL m).all fun x=>decide (x<=s)
def HL(m0:0<=m)(m1:m<64):(sgL m).length<=6:=by
 rw[(jb m0 m1).2,NI];exact NX _ _
def jz(K:Frag):Sp:=fun vs H Q _=>∃ s m:Int,vs=[.int s,.int m]/\0<=m/\m<64/\∀ H',Same H H'->Q (.bl (nogB s m)) H'
def jA(K:Frag):TS:=#[":jp~aax&--0 wc,~sca1eh#1 Jb(21e"]
def wm(h:jz K vs H Q E):jA K (eD9 Q) (start ["sign","mask"] vs) H:=by
 obtain⟨s,m,rfl,m0,m1,q⟩:=h;have sb:=(jb m0 m1).1;have sl:=HL m0 m1;ac_nf;unfold jA;symm;refine⟨m,rfl,by omega,fun l H1 s1 hl el=>?_⟩;refine⟨l,rfl,⟨_,N5 el⟩,?_⟩;refine lO (xs:=sgL m) (fun x=>decide (s<=x)) #[0] (N5 el) ?_ ?_
 . intro x H2 Q2 hx s2 k2;show tOp _ _ _ [none,⇑x,⇑s] H2 Q2;symm;exact k2 _ (NK _)
 . intro l2 H2 hl2 s2 el2;symm;refine mL el2 ?_;rw[PZ];exact q _ (s1.trans s2)
def mf(K:Frag):Sp:=fun vs H Q _=>∃ s m:Int,vs=[.int s,.int m]/\0<=m/\m<64/\∀ H',Same H H'->Q (.bl (nolB s m)) H'
def mh(K:Frag):TS:=#[":jp~aax&--0 wc,~sca1eh#1 Jb)21e"]
def Ax(h:mf K vs H Q E):mh K (eD9 Q) (start ["sign","mask"] vs) H:=by
 obtain⟨s,m,rfl,m0,m1,q⟩:=h;have sb:=(jb m0 m1).1;have sl:=HL m0 m1;ac_nf;unfold mh;symm;refine⟨m,rfl,by omega,fun l H1 s1 hl el=>?_⟩;refine⟨l,rfl,⟨_,N5 el⟩,?_⟩;refine lO (xs:=sgL m) (fun x=>decide (x<=s)) #[0] (N5 el) ?_ ?_
 . intro x H2 Q2 hx s2 k2;show tOp _ _ _ [none,⇑x,⇑s] H2 Q2;symm;exact k2 _ (NK _)
 . intro l2 H2 hl2 s2 el2;symm;refine mL el2 ?_;rw[PZ];exact q _ (s1.trans s2)
def stpB(cs Ny:∅)(z s:Int):Bool:=((ahdL cs z).any fun o=>nogB s (Ny.getD o.toNat 0))||((behL cs z).any fun o=>nolB s (Ny.getD o.toNat 0))
def stepB(cs Ny:∅)(z s:Int)(ms:∅):Bool:=decide (ms=[])&&stpB cs Ny z s
def kj(K:Frag)(c:RCl RK):Sp:=fun vs H Q _=>∃ k r p A M ws cs Ny ms n m z s,vs=[.ref r,.ref A,.int z,.int s,.ref M]/\IsRule H c k r p ws cs n m/\aU cs Ny.length/\z∈cs/\(∀ m∈Ny,0<=m/\m<64)/\H A=↥(Ny.map V.int)/\H M=↥(ms.map V.int)/\∀ H',Same H H'->Q (.bl (stepB cs Ny z s ms)) H'
def ig(K:Frag)(c:RCl RK):TS:=#[":gnzp~^ax&--13 wc,'acka0a2eh#1 J,{Cca3abi21eejdFMojp~^ax&--13 wc,'bcka0a2eh#1 J,{Dca3abi21ee"]
def km(K:Frag)(c:RCl RK):TS:=#[":gnmbAc4vejdFBo{Eck"]
def tp {k:RK} {r p A M:Addr} {ws:List (List Nat)} {n s:Int} (x:IsRule H c k r p ws cs n m) (hC:aU cs Ny.length) (hz:z∈cs) (mm:∀ m∈Ny,0<=m/\m<64) (hA:H A=↥(Ny.map V.int))
  (q:∀ H',Same H H'->Q (.bl (stpB cs Ny z s)) H'):
  ig K c (eD9 Q) [↑r,↑A,⇑z,⇑s,↑M] H:=by
 have la:(ahdL cs z).length<=1:=by unfold ahdL;split <;> simp
 have lb:(behL cs z).length<=1:=by unfold behL;split <;> simp
 unfold ig;rw[az,aC];symm;refine⟨k,r,p,ws,cs,n,m,z,rfl,x,hC.1,hz,fun l H1 s1 hl el=>?_⟩;refine⟨l,rfl,⟨_,N5 el⟩,?_⟩;refine lO (xs:=ahdL cs z) (fun o=>nogB s (Ny.getD o.toNat 0)) #[0] (N5 el) ?_ ?_
 . intro o H2 Q2 ho s2 k2;have ci:=hC.2 o (Iu hz ho);have mi:=xA mm ci.1 ci.2;show tCall _ _ _ _ [none,⇑o,↑A,⇑s] H2 Q2;symm;refine ixI ((s1.trans s2) _ _ hA) ci.1 ci.2 ?_;exact⟨s,_,rfl,mi.1,mi.2,k2⟩
 . intro l2 H2 hl2 s2 el2;symm;refine EB el2 ?_;have s12:=s1.trans s2;rw[R1];unfold stpB at q;have ea:(ahdL cs z).any (id ∘ fun o=>nogB s (Ny.getD o.toNat 0))=(ahdL cs z).any fun o=>nogB s (Ny.getD o.toNat 0):=rfl;rw[ea]
   cases hb:(ahdL cs z).any fun o=>nogB s (Ny.getD o.toNat 0) with
   | true=>
    rw[hb,Qn] at q;refine⟨true,rfl,iteT ?_⟩;symm;exact q _ s12
   | false=>
    rw[hb,Ph] at q;refine⟨false,rfl,iteF ?_⟩;symm;refine⟨k,r,p,ws,cs,n,m,z,rfl,x.same s12,hC.1,hz,fun l3 H3 s3 hl3 el3=>?_⟩;refine⟨l3,rfl,⟨_,N5 el3⟩,?_⟩;refine lO (xs:=behL cs z) (fun o=>nolB s (Ny.getD o.toNat 0)) #[0] (N5 el3) ?_ ?_
    . intro o H4 Q4 ho s4 k4;have ci:=hC.2 o (Iv ho);have mi:=xA mm ci.1 ci.2;show tCall _ _ _ _ [none,⇑o,↑A,⇑s] H4 Q4;symm;refine ixI (((s12.trans s3).trans s4) _ _ hA) ci.1 ci.2 ?_;exact⟨s,_,rfl,mi.1,mi.2,k4⟩
    . intro l4 H4 hl4 s4 el4;symm;refine EB el4 ?_;rw[R1];exact q _ ((s12.trans s3).trans s4)
theorem xC(h:kj K c vs H Q E):km K c (eD9 Q) (start ["rule","masks","cell","sign","more"] vs) H:=by
 obtain⟨k,r,p,A,M,ws,cs,Ny,ms,n,m,z,s,rfl,x,hC,hz,mm,hA,hM,q⟩:=h;ac_nf;unfold km;rw[az,aC];symm;refine⟨aW #[1],fun Z hZ=>?_⟩;obtain⟨H1,z9,s1,eZ⟩:∃ z,upd H Z (.lst [])=z/\Same H z/\z Z=↥(([]:∅).map V.int):=a9 _ hZ;rw[z9];refine qM (s1 _ _ hM) eZ ?_;unfold stepB at q
 cases hb:decide (ms=[]) with
 | false=>
  rw[hb,NZ] at q;refine⟨true,rfl,?_⟩;symm;exact q _ s1
 | true=>
  rw[hb,N2] at q;refine⟨false,rfl,?_⟩;symm;exact tp (x.same s1) hC hz mm (s1 _ _ hA) fun H' s2=>q H' (s1.trans s2)
section
variable{X:Cx}
def minI(ns:∅):Int:=ns.getD (argBest (fun i j=>decide (ns.getD i 0<ns.getD j 0)) (ns.length-1)) 0
def maxI(ns:∅):Int:=ns.getD (argBest (fun i j=>decide (ns.getD i 0>ns.getD j 0)) (ns.length-1)) 0
end
def rK(xs:∅):xs.filter (fun _=>true)=xs:=Pp.mpr fun _ _=>rfl
def loM(m:Int):Int:=(sgL m).getD 0 0
def hiM(m:Int):Int:=(sgL m).getD ((sgL m).length-1) 0
def JM:((List.range 64).all fun m=>decide (m=0)||(decide (0 < (sgL (m:Int)).length/\(sgL (m:Int)).length<=6)&&(decide (minI (sgL (m:Int))=loM (m:Int)/\maxI (sgL (m:Int))=hiM (m:Int))&&decide ((1<=loM (m:Int)/\loM (m:Int)<=6)/\1<=hiM (m:Int)/\hiM (m:Int)<=6))))=true:=by decide+kernel
def HM{m:Int}(m0:0<=m)(m1:m<64)(hm:m≠0):(0 < (sgL m).length/\(sgL m).length<=6)/\(minI (sgL m)=loM m/\maxI (sgL m)=hiM m)/\(1<=loM m/\loM m<=6)/\1<=hiM m/\hiM m<=6:=by
 have t:=Oe.mp JM m.toNat (N8.mpr #[0]);have e1:((m.toNat:Nat):Int)=m:=by omega
 rw[e1,RG,NO,Om,Om,NO,NO,NO] at t;rcases t with t | t
 . omega
 . exact t
def JN:sgL 0=[]:=by decide+kernel
def xD{xs:∅}(h:0<xs.length):atI (xs.map V.int) (-1)=some (V.int (xs.getD (xs.length-1) 0)):=by
 unfold atI ixN;rw[NI,Ob #[1],Oh #[0]];show(xs.map V.int)[((xs.length:Int)+ -1).toNat]? =_;rw[show((xs.length:Int)+ -1).toNat=xs.length-1 by omega,NN,NJ #[0],List.getD,NJ #[0]];rfl
def smB(os:∅)(n s:Int):Bool:=decide (0∈os)||(decide (n<s+(os.map loM).sum)||decide (s+(os.map hiM).sum<n))
def sumB(cs:∅)(n:Int)(Ny:∅)(z s:Int)(ms:∅):Bool:=decide (ms=[])&&smB (sgAt Ny (othL cs z)) n s
def mR(K:Frag):Sp:=fun vs H Q _=>∃(A:Addr) (ms:∅),vs=[.ref A]/\H A=↥(ms.map V.int)/\Q (.bl (decide (0∈ms))) H
def rg(K:Frag):TS:=#[":jbKcBdf#0 0"]
variable{K:Frag}{vs:List V}{H:Hp}{Q:VK}{E:XK}
def EK(h:mR K vs H Q E):rg K (eD9 Q) (start ["masks"] vs) H:=by
 obtain⟨A,ms,rfl,hA,q⟩:=h;ac_nf;unfold rg;symm;rw[qK hA];exact q
variable{cs:∅}
def Kn{Ny:∅}{z:Int}(hC:aU cs Ny.length)(mm:∀ m∈Ny,0<=m/\m<64):∀ m∈sgAt Ny (othL cs z),0<=m/\m<64:=fun m hm=>by
 unfold sgAt at hm;obtain⟨x,hx,rfl⟩:=N9.mp hm;have ci:=hC.2 x (Of.mp hx).1;exact xA mm ci.1 ci.2
def li(K:Frag)(c:RCl RK):Sp:=fun vs H Q _=>∃ k r p A M ws cs Ny ms n m z s,vs=[.ref r,.ref A,.int z,.int s,.ref M]/\IsRule H c k r p ws cs n m/\aU cs Ny.length/\(∀ m∈Ny,0<=m/\m<64)/\H A=↥(Ny.map V.int)/\H M=↥(ms.map V.int)/\∀ H',Same H H'->Q (.bl (sumB cs n Ny z s ms)) H'
def iP(K:Frag)(c:RCl RK):TS:=#[":glbt3p~Zax&-- wc5h#1 Jbi,~sca1edf#0 eh#6 glbt3p~Zax&-- wc5h#1 Jbi,~sca1e'c`0df#1 eh#7 j~Qb>6DkL~X~Yck0eb<7DkL~X~Yck0e",(rU fun i=>.int (-i))]
def iQ(K:Frag)(c:RCl RK):TS:=#[":gl,~rca1a,;cka0a2eeh#5 gnz,'Eca5ejdFMo{Fck"]
def lj(K:Frag)(c:RCl RK):TS:=#[":gnmbAc4vejdFBo{Gck"]
variable{c:RCl RK}
def uV {k:RK} {r p A M B:Addr} {ws:List (List Nat)} {os:∅} {n m z s:Int} (x:IsRule H c k r p ws cs n m) (ol:os.length<=63) (om:∀ m∈os,0<=m/\m<64) (on:¬ 0∈os) (eB:H B=↥(os.map V.int))
  (q:∀ H',Same H H'->Q (.bl (decide (n<s+(os.map loM).sum)||decide (s+(os.map hiM).sum<n))) H'):
  iP K c (eD9 Q) [↑r,↑A,⇑z,⇑s,↑M,↑B,none,none] H:=by
 have lh:∀ y∈os,_:=fun y hy=>HM (om y hy).1 (om y hy).2 (fun e=>on (e ▸ hy));unfold iP;symm;refine⟨⟨_,N5 eB⟩,?_⟩;refine aT (xs:=os) (fun _=>true) loM #[0] (N5 eB) ?_ ?_ ?_
 . intro y H1 R hy s1 k1;exact k1 _ (NK _)
 . intro y H1 Q1 hy hb s1 k1;have hl:=lh y hy;show tOp cIx _ _ [none,⇑y] H1 Q1;symm;refine⟨y,rfl,by have:=(jb (om y hy).1 (om y hy).2);have:=this.1;omega,fun l H2 s2 hl2 el=>?_⟩;refine ixI el #[1] #[0] ?_;exact k1 _ s2
 . intro l1 H1 hl1 s1 el1;rw[rK] at el1;symm;refine AZ el1 (fun y hy=>by obtain⟨z,hz,rfl⟩:=N9.mp hy;have:=(lh z hz).2.2.1;omega) (by rw[NI];omega) ?_;symm;refine⟨⟨_,N5 (s1 _ _ eB)⟩,?_⟩;refine aT (xs:=os) (fun _=>true) hiM #[0] (N5 (s1 _ _ eB)) ?_ ?_ ?_
   . intro y H2 R hy s2 k2;exact k2 _ (NK _)
   . intro y H2 Q2 hy hb s2 k2;have hl:=lh y hy;show tOp cIx _ _ [none,⇑y] H2 Q2;symm;refine⟨y,rfl,by have:=(jb (om y hy).1 (om y hy).2);have:=this.1;omega,fun l H3 s3 hl3 el=>?_⟩;refine ixL el (xD hl.1.1) ?_;exact k2 _ s3
   . intro l2 H2 hl2 s2 el2;rw[rK] at el2;symm;refine AZ el2 (fun y hy=>by obtain⟨z,hz,rfl⟩:=N9.mp hy;have:=(lh z hz).2.2.2;omega) (by rw[NI];omega) ?_;symm;have s12:=s1.trans s2;have x2:=x.same s12;obtain⟨dx,W,C,h1,h2,h3⟩:=x2.ex;refine methE (k:=k) rfl x2.ok h1 (by rfl) ?_;symm;refine⟨r,p,ws,cs,n,m,rfl,x2,?_⟩;symm;by_cases hb:n<s+(os.map loM).sum
     . rw[NP hb,Qn] at q;rw[NP hb];symm;exact q _ s12
     . rw[NL hb,Ph] at q;rw[NL hb];symm;refine methE (k:=k) rfl x2.ok h1 (by rfl) ?_;symm;refine⟨r,p,ws,cs,n,m,rfl,x2,?_⟩;symm;exact q _ s12
def uW {k:RK} {r p A M:Addr} {ws:List (List Nat)} {Ny:∅} {n m z s:Int} (x:IsRule H c k r p ws cs n m) (hC:aU cs Ny.length) (mm:∀ m∈Ny,0<=m/\m<64) (hA:H A=↥(Ny.map V.int))
  (q:∀ H',Same H H'->Q (.bl (smB (sgAt Ny (othL cs z)) n s)) H'):
  iQ K c (eD9 Q) [↑r,↑A,⇑z,⇑s,↑M,none,none,none] H:=by
 have hC2:aU (othL cs z) Ny.length:=⟨NS (NX _ _) hC.1,fun y hy=>hC.2 y (Of.mp hy).1⟩;have ol:(sgAt Ny (othL cs z)).length<=63:=by unfold sgAt;rw[NI];exact hC2.1
 have om:=Kn (z:=z) hC mm;unfold iQ;symm;refine⟨k,r,p,ws,cs,n,m,z,rfl,x,hC.1,fun O H1 s1 hO eO=>?_⟩;symm;refine⟨A,O,Ny,othL cs z,rfl,s1 _ _ hA,eO,hC2,fun B H2 s2 hB eB=>?_⟩;have s12:=s1.trans s2;generalize sgAt Ny (othL cs z)=os at*;symm;rw[aC];symm;refine⟨B,os,rfl,eB,?_⟩;unfold smB at q;by_cases h0:0∈os
 . rw[NP h0,Qn] at q;rw[NP h0];refine⟨true,rfl,?_⟩;symm;exact q _ s12
 . rw[NL h0,Ph] at q;rw[NL h0];refine⟨false,rfl,?_⟩;symm;exact uV (x.same s12) ol om h0 eB fun H' s3=>q H' (s12.trans s3)
theorem y9(h:li K c vs H Q E):lj K c (eD9 Q) (start ["rule","masks","cell","sign","more","some","least","greatest"] vs) H:=by
 obtain⟨k,r,p,A,M,ws,cs,Ny,ms,n,m,z,s,rfl,x,hC,mm,hA,hM,q⟩:=h;ac_nf;unfold lj;rw[az,aC];symm;refine⟨aW #[1],fun Z hZ=>?_⟩;obtain⟨H1,z9,s1,eZ⟩:∃ z,upd H Z (.lst [])=z/\Same H z/\z Z=↥(([]:∅).map V.int):=a9 _ hZ;rw[z9];refine qM (s1 _ _ hM) eZ ?_;unfold sumB at q
 cases hb:decide (ms=[]) with
 | false=>
  rw[hb,NZ] at q;refine⟨true,rfl,?_⟩;symm;exact q _ s1
 | true=>
  rw[hb,N2] at q;refine⟨false,rfl,?_⟩;symm;exact uW (x.same s1) hC mm (s1 _ _ hA) fun H' s2=>q H' (s1.trans s2)
def Gk(t:TK):decide (tkC t=[115,117,109])=decide (t=.sum):=by cases t <;> decide
def tq(K:Frag)(c:RCl RK):Sp:=fz K c .Sum
def nI(K:Frag)(c:RCl RK):TS:=#[":jbscp~ZaDkL~L~Mck0a1eeVk0~v"]
def JO{xs:∅}{n:Nat}(hC:aU cs n)(hn:n=xs.length)(hx:∀ x∈xs,0<=x/\x<=1000):∀ x∈sgAt xs cs,0<=x/\x<=1000:=fun x hm=>by
 unfold sgAt at hm;obtain⟨c,hc,rfl⟩:=N9.mp hm;have:=hC.2 c hc;have hl:c.toNat<xs.length:=by omega
 rw[List.getD,NJ hl];exact hx _ (Ot hl)
def BR(h:tq K c vs H Q E):nI K c (eD9 Q) (start ["self","filling"] vs) H:=by
 obtain⟨r,p,f,ws,cs,xs,n,m,h,w,g,rfl,x,ha,F,hf,hC,hx,q⟩:=h;obtain⟨dx,W,C,h1,h2,h3⟩:=x.ex;ac_nf;unfold nI;symm;refine methE rfl x.ok h1 (by rfl) ?_;symm;refine⟨r,p,f,ws,cs,xs,n,m,rfl,x,hf,hC,fun l H1 s1 hl el=>?_⟩;have NF:(sgAt xs cs).length<=100:=by unfold sgAt;rw[NI];exact NS hC.1 #[1]
 symm;refine AZ el (fun y hy=>by have:=JO hC rfl hx y hy;omega) #[0] ?_;refine fldE rfl x.ok (s1 _ _ h1) (v:=.int n) (by rfl) ?_;symm;exact q _ s1
theorem DW:∀ l:∅,risB l=(List.range (l.length-1)).all fun i=>decide (l.getD i 0<l.getD (i+1) 0)
 | []=>rfl
 | [x]=>rfl
 | x::y::r=>by
  have ih:=DW (y::r);show(decide (x<y)&&risB (y::r))=(List.range (r.length+1)).all fun i=>decide ((x::y::r).getD i 0 < (x::y::r).getD (i+1) 0);rw[ih,List.range_succ_eq_map,QA,PZ];rfl
def oH(K:Frag)(c:RCl RK):Sp:=fz K c .Rising
def kn(K:Frag)(c:RCl RK):TS:=#[":glDkL~L~Mck0a1eh#2 jp~aax&--2 UabHpya2edf#1 eh#1 Jb<bi21bi2bt1df#1 e"]
def xE(h:oH K c vs H Q E):kn K c (eD9 Q) (start ["self","filling","signs"] vs) H:=by
 obtain⟨r,p,f,ws,cs,xs,n,m,h,w,g,rfl,x,ha,F,hf,hC,hx,q⟩:=h;obtain⟨dx,W,C,h1,h2,h3⟩:=x.ex;ac_nf;unfold kn;symm;refine methE rfl x.ok h1 (by rfl) ?_;symm;refine⟨r,p,f,ws,cs,xs,n,m,rfl,x,hf,hC,fun l H1 s1 hl el=>?_⟩;have NF:(sgAt xs cs).length<=100:=by unfold sgAt;rw[NI];exact NS hC.1 #[1]
 have q1:∀ H',Same H H'->Q (.bl (risB (sgAt xs cs))) H':=q;generalize sgAt xs cs=sg at*;symm;rw[aS el,NI];symm;refine⟨_,rfl,by omega,by omega,?_⟩;have en:((sg.length:Int)-1).toNat=sg.length-1:=by omega
 rw[en];refine vk (fun _=>true) (fun i=>.bl (decide (sg.getD i 0<sg.getD (i+1) 0))) #[0] ?_ ?_ ?_
 . intro i H2 R hi s2 k2;exact k2 _ (NK _)
 . intro i H2 Q2 hi hb s2 k2;show tOp _ _ _ [none,⇑(0+(i:Int)),↑l] H2 Q2;rw[OU];symm;refine ixI (s2 _ _ el) #[0] #[0] ?_;refine ixI (s2 _ _ el) #[0] #[0] ?_;symm;have e1:(i:Int).toNat=i:=by omega
   have e2:((i:Int)+1).toNat=i+1:=by omega
   rw[e1,e2];exact k2 _ (NK _)
 . intro l2 H2 hl2 s2 el2;rw[br] at el2;refine mL (bs:=(List.range (sg.length-1)).map fun i=>decide (sg.getD i 0<sg.getD (i+1) 0)) (by rw[el2,OE];rfl) ?_
   have e:((List.range (sg.length-1)).map fun i=>decide (sg.getD i 0<sg.getD (i+1) 0)).all id=risB sg:=by
    rw[DW,PZ];rfl
   rw[e];exact q1 _ (s1.trans s2)
def Hl(l:∅)(x:Int):seenN (l++[x])=if (seenN l).1<x then(x,(seenN l).2+1) else seenN l:=by
 unfold seenN;rw[Q9];rfl
def rL(K:Frag)(c:RCl RK):Sp:=fz K c .Seen
def mj(K:Frag)(c:RCl RK):TS:=#[":gldf#0 h#2 gldf#0 h#3 gIwcDkL~L~Mck0a1eh#4 nmb>42gl4h#2 lbt3df#1 h#3 ojbsc3Vk0~v"]
def Ay(h:rL K c vs H Q E):mj K c (eD9 Q) (start ["self","filling","greatest","seen","sign"] vs) H:=by
 obtain⟨r,p,f,ws,cs,xs,n,m,h,w,g,rfl,x,ha,F,hf,hC,hx,q⟩:=h;obtain⟨dx,W,C,h1,h2,h3⟩:=x.ex;ac_nf;unfold mj;symm;refine methE rfl x.ok h1 (by rfl) ?_;symm;refine⟨r,p,f,ws,cs,xs,n,m,rfl,x,hf,hC,fun l H1 s1 hl el=>?_⟩;have q1:∀ H',Same H H'->Q (.bl (decide ((seenN (sgAt xs cs)).2=n))) H':=q;generalize sgAt xs cs=sg at*;symm;refine⟨⟨_,N5 el⟩,b7 (K:=K) (xs:=sg.map V.int) (fun i σ H'=>∃ cv:Option V,σ=[↑r,↑f,some (.int (seenN (sg.take i)).1),some (.int (seenN (sg.take i)).2),cv]/\H'=H1) ⟨none,rfl,rfl⟩ (fun i σ H' _ ⟨_,_,e⟩=>by rw[e];exact N5 el) ?_ ?_⟩
 . rintro i y σ H2 hy ⟨cv,rfl,rfl⟩;rw[NN] at hy
   cases e:sg[i]? with
   | none=>rw[e] at hy;cases hy
   | some z=>
    rw[e] at hy;cases hy;have et:sg.take (i+1)=sg.take i++[z]:=by rw[Pu,e];rfl
    have ea:=Hl (sg.take i) z;rw[← et] at ea;symm;rw[aC];symm;by_cases hz:(seenN (sg.take i)).1<z
    . rw[NP hz];rw[Oh hz] at ea;refine iteT ?_;rw[ea];exact⟨_,rfl,by first | trivial | rfl⟩
    . rw[NL hz];rw[Ob hz] at ea;refine iteF ?_;rw[ea];exact⟨_,rfl,by first | trivial | rfl⟩
 . rintro σ H2 ⟨cv,rfl,rfl⟩;rw[NI,O2];symm;refine fldE rfl x.ok (s1 _ _ h1) (v:=.int n) (by rfl) ?_;symm;exact q1 _ s1
def p5(K:Frag)(c:RCl RK):Sp:=fun vs H Q E=>∃ k,jO K c k vs H Q E
def lp(K:Frag)(c:RCl RK):TS:=#[":jx&--10 'ncVk0~Kh#1 mbscbi21Vk3~?1"]
def za(h:p5 K c vs H Q E):lp K c (eD9 Q) (start ["self","filling"] vs) H:=by
 obtain⟨k,r,p,f,ws,cs,xs,n,m,rfl,x,hf,⟨hn,hc⟩,q⟩:=h;obtain⟨dx,W,C,h1,h2,h3⟩:=x.ex;ac_nf;unfold lp;rw[b5,DM];refine fldE rfl x.ok h1 (v:=.ref C) (by rfl) ?_;refine⟨C,rfl,⟨_,SqT.of h3⟩,?_⟩;refine zS (xs:=cs) (fun c=>decide (xs.getD c.toNat 0=m)) (fun c=>c) #[0] h3 ?_ ?_ ?_
 . intro z H1 R hz s1 k1;show tTest _ [none,⇑z,↑f,↑r] H1 R;symm;have:=hc z hz;refine ixI (s1 _ _ hf) this.1 #[0] ?_;refine fldE rfl x.ok (s1 _ _ h1) (v:=.int m) (by rfl) ?_;symm;exact k1 _ (NK _)
 . intro z H1 Q1 hz hb s1 k1;exact k1 _ (NK _)
 . intro l H1 hl s1 el;rw[Pa] at el;exact q l H1 s1 hl el
def p6(K:Frag)(c:RCl RK):Sp:=fz K c .Count
def lq(K:Frag)(c:RCl RK):TS:=#[":jbscpyaDkL~*~+ck0a1eeVk0~v"]
def zc(h:p6 K c vs H Q E):lq K c (eD9 Q) (start ["self","filling"] vs) H:=by
 obtain⟨r,p,f,ws,cs,xs,n,m,h,w,g,rfl,x,ha,F,hf,hC,hx,q⟩:=h;obtain⟨dx,W,C,h1,h2,h3⟩:=x.ex;ac_nf;unfold lq;symm;refine methE rfl x.ok h1 (by rfl) ?_;symm;refine⟨r,p,f,ws,cs,xs,n,m,rfl,x,hf,hC,fun l H1 s1 hl el=>?_⟩;symm;rw[aS el,NI];refine fldE rfl x.ok (s1 _ _ h1) (v:=.int n) (by rfl) ?_;symm;exact q _ s1
def nJ(K:Frag):Sp:=fun vs H Q _=>∃(S M:Addr) (sq ms:∅),vs=[.ref S,.ref M]/\H S=↥(sq.map V.int)/\H M=↥(ms.map V.int)/\sq.length<=100/\∀ H',Same H H'->Q (.bl (sq.all fun c=>decide (c∈ms))) H'
def nK(K:Frag):TS:=#[":jp~aax&--1 wc0h#1 JbKcB12e"]
variable{vs:List V}
def BS{K:Frag}{H:Hp}{Q:VK}{E:XK}(h:nJ K vs H Q E):nK K (eD9 Q) (start ["some","cells"] vs) H:=by
 obtain⟨S,M,sq,ms,rfl,hS,hM,hn,q⟩:=h;ac_nf;unfold nK;symm;refine⟨⟨_,N5 hS⟩,?_⟩;refine cJ (xs:=sq.map V.int) (fun _=>true) (fun i=>.bl (decide (sq.getD i 0∈ms))) (by rw[NI];omega) (N5 hS) ?_ ?_ ?_
 . intro i x H1 R hx s1 k1;exact k1 _ (NK _)
 . intro i x H1 Q1 hx hb s1 k1;rw[NN] at hx
   cases e:sq[i]? with
   | none=>rw[e] at hx;cases hx
   | some z=>
    rw[e] at hx;cases hx;have k2:=k1 _ (NK H1);rw[List.getD,e] at k2;show tOp (cIn K false) _ _ [none,⇑z,↑M] H1 Q1;symm;rw[qK (s1 _ _ hM)];exact k2
 . intro l H1 hl s1 el;rw[br,NI] at el;refine mL (bs:=(List.range sq.length).map fun i=>decide (sq.getD i 0∈ms)) (by rw[el,OE];rfl) ?_
   have e:((List.range sq.length).map fun i=>decide (sq.getD i 0∈ms)).all id=sq.all fun c=>decide (c∈ms):=by
    rw[PZ,Oi,Oe,Oe];constructor
    . intro h c hc;obtain⟨i,hi,rfl⟩:=PC.mp hc;have:=h i (N8.mpr hi);dsimp only[Function.comp,id] at this;rw[List.getD,NJ hi] at this;exact this
    . intro h i hi;have hi:=N8.mp hi;have:=h _ (Ot hi);dsimp only[Function.comp,id];rw[List.getD,NJ hi];exact this
   rw[e];exact q _ s1
def my(K:Frag)(c:RCl RK):Sp:=fz K c .NoSquare
def Iw{h w g:Int}(F:FlOk h w g):(squL h w).length<=16:=by
 obtain⟨h0,h1,w0,w1,m16,g0,g1⟩:=F;unfold squL;rw[NI];refine NS (NX _ _) ?_;rw[OK];omega
def iR(K:Frag)(c:RCl RK):TS:=#[":glDkL~*~+ck0a1eh#2 j'tp~^ax&--2 wc,'CcaVk0~feh#1 J,{Hca1a2ee"]
def uX{K:Frag}{c:RCl RK}{H:Hp}{Q:VK}{E:XK}(h:my K c vs H Q E):iR K c (eD9 Q) (start ["self","filling","cells"] vs) H:=by
 obtain⟨r,p,f,ws,cs,xs,n,m,h,w,g,rfl,x,ha,F,hf,hC,hx,q⟩:=h;obtain⟨dx,W,C,h1,h2,h3⟩:=x.ex;ac_nf;unfold iR;symm;refine methE rfl x.ok h1 (by rfl) ?_;symm;refine⟨r,p,f,ws,cs,xs,n,m,rfl,x,hf,hC,fun l H1 s1 hl el=>?_⟩;symm;refine fldE rfl x.ok (s1 _ _ h1) (v:=.ref p) (by rfl) ?_;symm;refine⟨p,h,w,g,rfl,s1 _ _ ha,F,fun L as H2 s2 hL xL _ _ _=>?_⟩;have sl:=Iw F;refine⟨L,rfl,⟨_,N5 xL.top⟩,?_⟩;refine cJ (xs:=as.map V.ref) (fun _=>true) (fun i=>.bl (((squL h w).getD i []).all fun c=>decide (c∈mkAt xs cs m))) (by rw[NI,xL.len];omega) (N5 xL.top) ?_ ?_ ?_
 . intro i x H3 R hx s3 k3;exact k3 _ (NK _)
 . intro i y H3 Q3 hi hb s3 k3;obtain⟨b,hb,rfl⟩:=lM hi;have hlt:i < (squL h w).length:=by rw[← xL.len];exact(NR.mp hb).1
   have e:=NJ hlt;have eg:(squL h w).getD i []=(squL h w)[i]:=by rw[List.getD,e];rfl
   have hq4:((squL h w)[i]).length<=100:=by
    have hm:=Ot hlt;generalize (squL h w)[i]=z at hm;unfold squL at hm;obtain⟨j,_,rfl⟩:=N9.mp hm;show 4<=100;decide
   show tCall _ _ _ _ [none,↑b,↑l] H3 Q3;symm;refine⟨b,l,_,_,rfl,s3 _ _ (xL.at_ i b _ hb e),s3 _ _ (s2 _ _ el),hq4,fun H4 s4=>?_⟩;have:=k3 H4 s4;rw[eg] at this;exact this
 . intro D H3 hD s3 eD;rw[br,NI,xL.len] at eD;refine EB (bs:=(List.range (squL h w).length).map fun i=>((squL h w).getD i []).all fun c=>decide (c∈mkAt xs cs m)) (by rw[eD,OE];rfl) ?_
   have e:((List.range (squL h w).length).map fun i=>((squL h w).getD i []).all fun c=>decide (c∈mkAt xs cs m)).any id=(squL h w).any fun sq=>sq.all fun c=>decide (c∈mkAt xs cs m):=by
    rw[R1,Oi,O8,O8];constructor
    . rintro⟨i,hi,hh⟩;have hi:=N8.mp hi;dsimp only[Function.comp,id] at hh;have eg:(squL h w).getD i []=(squL h w)[i]:=by rw[List.getD,NJ hi];rfl
      rw[eg] at hh;exact⟨_,Ot hi,hh⟩
    . rintro⟨sq,hs,hh⟩;obtain⟨i,hi,rfl⟩:=PC.mp hs;refine⟨i,N8.mpr hi,?_⟩;dsimp only[Function.comp,id];have eg:(squL h w).getD i []=(squL h w)[i]:=by rw[List.getD,NJ hi];rfl
      rw[eg];exact hh
   rw[e];symm;exact q _ ((s1.trans s2).trans s3)
def ko(K:Frag):Sp:=fun vs H Q _=>∃ a l h w g st cs,vs=[.ref a,.ref l,.int st]/\IsFl H a h w g/\0<w/\w<100/\H l=↥(cs.map V.int)/\cs.length<=63/\
 ∀(p:Addr) (H':Hp) (rs:∅),Same H H'->H p=none->H' p=↥(rs.map V.int)->rs.Pairwise (· < ·)->(∀ x,x∈rs↔RC h w cs st x)->Q (.ref p) H'
def rh(K:Frag):TS:=#[":gnmbKcM21jveoglva2eh#3 gldf#0 h#4 g'Fmb<4pya3egIwc,~uca0abi34eh#5 nSmbKcB51mbKcM53NEcGW3a5eolbt4df#1 h#4 jp?a3e"]
variable{K:Frag}{vs:List V}{H:Hp}{Q:VK}{E:XK}
def EL(h:ko K vs H Q E):rh K (eD9 Q) (start ["floor","cells","start","found","place","cell"] vs) H:=by
 obtain⟨a,l,h,w,g,st,cs,rfl,ha,w0,w1,hl,hn,k⟩:=h;ac_nf;unfold rh;rw[az,aC];symm;rw[jV hl];symm;by_cases hs:st∈cs
 . rw[Ob (by simpa using hs)];symm;refine⟨lnR rfl,fun f hf=>?_⟩
   refine⟨fun m σ H'=>∃(fs:∅) (pl:Nat) (cv:Option V),σ=[↑a,↑l,⇑st,↑f,⇑pl,cv]/\Same H H'/\H' f=↥(fs.map V.int)/\BI h w cs st fs pl/\m=cs.length-pl,
    ⟨_,[st],0,none,rfl,(NK H).laid hf,ao,BI.start hs,rfl⟩,?_⟩
   rintro m σ H1 ⟨fs,pl,cv,rfl,s1,e1,B,rfl⟩;have hfl:=B.len;symm;rw[aS e1,NI];symm;by_cases hp:pl<fs.length
   . rw[Oh (by simpa using hp)];obtain⟨x,hx⟩:∃ x,fs[pl]? =some x:=⟨fs[pl],by simp[hp]⟩;have rx:RC h w cs st x:=B.rc x (NV hx)
     refine⟨fun σ H'=>∃(fs:∅) (cv:Option V),σ=[↑a,↑l,⇑st,↑f,⇑((pl:Int)+1),cv]/\Same H H'/\H' f=↥(fs.map V.int)/\BI h w cs st fs (pl+1),
      fun σ' H' ⟨fs',cv',e,s',e',B'⟩=>⟨_,by omega,fs',pl+1,cv',by rw[e];rfl,s',e',B',rfl⟩,?_⟩
     symm;rw[HH e1];refine bf (vX #[0] #[0]) ?_;symm;rw[show((pl:Int)).toNat=pl from OF _,k9 hx];refine⟨a,h,w,g,x,rfl,s1 _ _ ha,w0,w1,fun b H2 s2 hb e2=>?_⟩;have s12:=s1.trans s2
     refine⟨b,rfl,⟨_,N5 e2⟩,b7 (K:=K) (xs:=(besL h w x).map V.int) (fun i σ H'=>∃(f2:∅) (cv:Option V),σ=[↑a,↑l,⇑st,↑f,⇑pl,cv]/\Same H H'/\H' b=↥((besL h w x).map V.int)/\H' f=↥(f2.map V.int)/\BJ h w cs st fs pl ((besL h w x).take i) f2)
      ⟨fs,cv,rfl,s12,e2,s2 _ _ e1,BJ.zero B⟩ (fun i σ H' _ ⟨_,_,_,_,q,_⟩=>N5 q) ?_ ?_⟩
     . rintro i y σ H3 hy ⟨f2,cv2,rfl,s3,eb,ef,J⟩;rw[NN] at hy
       cases hz:(besL h w x)[i]? with
       | none=>rw[hz] at hy;cases hy
       | some z=>
        rw[hz] at hy;cases hy;have hlen2:f2.length<=63:=NS (iG J.nd fun x hx=>(J.rc x hx).mem) hn;have hmem:z∈besL h w x:=NV hz;have htake:(besL h w x).take (i+1)=(besL h w x).take i++[z]:=by rw[List.take_add_one,hz];rfl
        have J2:=J.more rx hmem;rw[← htake] at J2;symm;rw[aC];symm;rw[qK (s3 _ _ hl)];symm
        have fin:∀ H4:Hp,H4 f=↥((addC cs f2 z).map V.int)->(∀ c,c≠f->H4 c=H3 c)->∃(f2:∅) (cv:Option V),[some (V.ref a),↑l,⇑st,↑f,⇑pl,⇑z]=[↑a,↑l,⇑st,↑f,⇑pl,cv]/\Same H H4/\H4 b=↥((besL h w x).map V.int)/\H4 f=↥(f2.map V.int)/\BJ h w cs st fs pl ((besL h w x).take (i+1)) f2:=fun H4 q1 q2=>
         ⟨_,_,rfl,fun c o e=>by rw[q2 c (aH e hf)];exact s3 c o e,by rw[q2 b (fun e=>by rw[e] at hb;rw[e1] at hb;cases hb)];exact eb,q1,J2⟩
        by_cases c1:z∈cs
        . rw[Oh (by simpa using c1)];rw[jV ef];by_cases c2:z∈f2
          . simp only[c2,decide_true,PL,Ob NW,V.bl.injEq,exists_eq_left'];refine fin H3 ?_ fun _ _=>rfl;rw[ef,addC,Ob (fun q=>q.2 c2)]
          . simp only[c2,decide_false,Qb,RZ,V.bl.injEq,exists_eq_left'];symm;refine⟨bL ef,?_⟩;rw[ia ef];refine⟨by rw[NI];exact aJ #[0],fin _ ?_ fun c hc=>ar hc⟩;rw[ao,addC,Oh ⟨c1,c2⟩];simp
        . rw[Ob (by simpa using c1)]
          try simp only[Ob NW]
          refine fin H3 ?_ fun _ _=>rfl;rw[ef,addC,Ob (fun q=>c1 q.1)]
     . rintro σ H3 ⟨f2,cv2,rfl,s3,eb,ef,J⟩;rw[NI,O2] at J;symm;exact⟨f2,cv2,rfl,s3,ef,J.done B hx⟩
   . rw[Ob (by simpa using hp)];symm;unfold cL;dsimp only;rw[e1];refine⟨fs,rfl,by omega,fun rs p hpn pm ps=>?_⟩;refine k p _ rs (s1.laid hpn) (s1.free hpn) ao (F2 pm ps B.nd) fun x=>?_;rw[pm.mem_iff];exact B.done hp x
 . rw[Oh (by simpa using hs)];symm;refine⟨Ox _,fun p hp=>k p _ [] ((NK H).laid hp) hp ao .nil fun x=>⟨(fun q=>nomatch q),fun r=>absurd (RC.st r) hs⟩⟩
variable{h w:Int}{ms:∅}
def joinB_iff:joinB h w ms=true↔(ms=[]\/(ms.Pairwise (· < ·)/\∀ x∈ms,RC h w ms (ms.headD 0) x)):=by
 unfold joinB;exact @decide_eq_true_iff _ (Classical.propDecidable _)
def kP(K:Frag)(c:RCl RK):Sp:=fun vs H Q E=>∃ k,jZ K c k vs H Q E
def gP(K:Frag)(c:RCl RK):TS:=#[":j~Qbsc1vebsc,'dcaVk0~fa1abi1df#0 e1"]
variable{c:RCl RK}
theorem sd(h:kP K c vs H Q E):gP K c (eD9 Q) (start ["self","cells"] vs) H:=by
 obtain⟨k,r,p,C,ws,cs,ms,n,m,h,w,g,rfl,x,ha,F,hC,hn,q⟩:=h;obtain⟨h0,h1',w0,w1,m16,g0,g1⟩:=id F;obtain⟨dx,W,C',h1,h2,h3⟩:=x.ex;ac_nf;unfold gP;symm;refine⟨lnR rfl,fun l hl=>?_⟩;obtain⟨H1,z9,s1,el⟩:∃ z,upd H l (.lst [])=z/\Same H z/\z l=↥(([]:∅).map V.int):=a9 _ hl;rw[z9];refine lL (s1 _ _ hC) el ?_;symm
 cases ms with
 | nil=>
  have e:joinB h w []=true:=joinB_iff.mpr (.inl rfl);have:=q _ s1;rw[e] at this;rw[NP rfl,Oh rfl];exact this
 | cons z zs=>
  rw[NL (by simp),Ob #[1]];refine fldE rfl x.ok (s1 _ _ h1) (v:=.ref p) (by rfl) ?_;symm;refine ixL (s1 _ _ hC) (v:=V.int z) (f7 (j:=0) rfl) ?_;symm;refine⟨p,C,h,w,g,z,z::zs,rfl,s1 _ _ ha,by omega,by omega,s1 _ _ hC,hn,fun u H2 rs s2 hu eu rise mem=>?_⟩;refine lL eu (s2 _ _ (s1 _ _ hC)) ?_
  have e:decide (rs=z::zs)=joinB h w (z::zs):=by
   rw[Oi,NO,joinB_iff];constructor
   . intro e;subst e;exact .inr ⟨rise,fun x hx=>(mem x).mp hx⟩
   . rintro(e | ⟨rise2,all⟩)
     . cases e
     . exact xc rise rise2 fun y=>⟨fun hy=>((mem y).mp hy).mem,fun hy=>(mem y).mpr (all y hy)⟩
  rw[e];exact q _ (s1.trans s2)
def oJ(K:Frag)(c:RCl RK):Sp:=fz K c .Joined
def kq(K:Frag)(c:RCl RK):TS:=#[":jDkL'G'Hck0aDkL~*~+ck0a1ee"]
variable{xs cs:∅}{m:Int}
def Gm(hn:cs.length<=63):(mkAt xs cs m).length<=63:=by
 unfold mkAt;exact NS (NX _ _) hn
def xG(h:oJ K c vs H Q E):kq K c (eD9 Q) (start ["self","filling"] vs) H:=by
 obtain⟨r,p,f,ws,cs,xs,n,m,h,w,g,rfl,x,ha,F,hf,hC,hx,q⟩:=h;obtain⟨dx,W,C,h1,h2,h3⟩:=x.ex;ac_nf;unfold kq;symm;refine methE rfl x.ok h1 (by rfl) ?_;symm;refine methE rfl x.ok h1 (by rfl) ?_;symm;refine⟨r,p,f,ws,cs,xs,n,m,rfl,x,hf,hC,fun l H1 s1 hl el=>?_⟩;exact⟨r,p,l,ws,cs,_,n,m,h,w,g,rfl,x.same s1,s1 _ _ ha,F,el,Gm hC.1,fun H2 s2=>q _ (s1.trans s2)⟩
def jd(K:Frag)(c:RCl RK):Sp:=iJ K c .Ring
def fE(K:Frag)(c:RCl RK):TS:=#[":jbscpyax&--1 wc,~ucaVk0~fa2eh#1 mbKcB121edf#2 "]
def Ix(h w c:Int):(besL h w c).length<=4:=by
 unfold besL
 repeat rw[N0]
 split <;> split <;> split <;> split <;> simp
def pH(h:jd K c vs H Q E):fE K c (eD9 Q) (start ["self","cells","cell"] vs) H:=by
 obtain⟨r,p,C,ws,cs,ms,n,m,h,w,g,z,rfl,x,ha,F,hC,hn,q⟩:=h;obtain⟨h0,h1',w0,w1,m16,g0,g1⟩:=id F;obtain⟨dx,W,C',h1,h2,h3⟩:=x.ex;ac_nf;unfold fE;symm;refine fldE rfl x.ok h1 (v:=.ref p) (by rfl) ?_;symm;refine⟨p,h,w,g,z,rfl,ha,by omega,by omega,fun b H2 s2 hb e2=>?_⟩;have bl:=Ix h w z;refine⟨b,rfl,⟨_,N5 e2⟩,?_⟩;refine aT (xs:=besL h w z) (fun y=>decide (y∈ms)) (fun y=>y) #[0] (N5 e2) ?_ ?_ ?_
 . intro y H3 R hy s3 k3;show tTest _ [none,⇑y,↑C] H3 R;symm;rw[qK (s3 _ _ (s2 _ _ hC))];exact⟨_,rfl,k3 _ (NK _)⟩
 . intro y H3 Q3 hy hb s3 k3;exact k3 _ (NK _)
 . intro l H3 hl s3 el;rw[Pa] at el;symm;rw[aS el,NI];symm;have:=q _ (s2.trans s3);unfold twoB at this
   have e:decide ((((besL h w z).filter fun y=>decide (y∈ms)).length:Int)=2)=decide (((besL h w z).filter fun y=>decide (y∈ms)).length=2):=by
    rw[Oi,NO,NO];omega
   rw[e];exact this
def rM(K:Frag)(c:RCl RK):Sp:=fz K c .Ring
def mq(K:Frag)(c:RCl RK):TS:=#[":glDkL~*~+ck0a1eh#2 jODkL'G'Hck0a2ep~aax&--20 wc2h#1 JDkL{I{Jck3a2a1ee"]
theorem Az(h:rM K c vs H Q E):mq K c (eD9 Q) (start ["self","filling","cells"] vs) H:=by
 obtain⟨r,p,f,ws,cs,xs,n,m,h,w,g,rfl,x,ha,F,hf,hC,hx,q⟩:=h;obtain⟨dx,W,C,h1,h2,h3⟩:=x.ex;ac_nf;unfold mq;symm;refine methE rfl x.ok h1 (by rfl) ?_;symm;refine⟨r,p,f,ws,cs,xs,n,m,rfl,x,hf,hC,fun l H1 s1 hl el=>?_⟩;have hml:=Gm (xs:=xs) (m:=m) hC.1;have q1:∀ H',Same H H'->Q (.bl (joinB h w (mkAt xs cs m)&&(mkAt xs cs m).all (twoB h w (mkAt xs cs m)))) H':=q;generalize mkAt xs cs m=ms at*;symm;refine methE rfl x.ok (s1 _ _ h1) (by rfl) ?_;symm;refine⟨r,p,l,ws,cs,ms,n,m,h,w,g,rfl,x.same s1,s1 _ _ ha,F,el,hml,fun H2 s2=>?_⟩;have s12:=s1.trans s2;symm
 cases hj:joinB h w ms with
 | false=>
  rw[hj] at q1
  first | exact iteF (q1 _ s12) | exact q1 _ s12
 | true=>
  rw[hj] at q1;refine iteT ?_;refine⟨⟨_,N5 (s2 _ _ el)⟩,?_⟩;refine cJ (xs:=ms.map V.int) (fun _=>true) (fun i=>.bl (twoB h w ms (ms.getD i 0))) (by rw[NI];omega) (N5 (s2 _ _ el)) ?_ ?_ ?_
  . intro i y H3 R hy s3 k3;exact k3 _ (NK _)
  . intro i y H3 Q3 hy hb s3 k3;rw[NN] at hy
    cases e:ms[i]? with
    | none=>rw[e] at hy;cases hy
    | some z=>
     rw[e] at hy;cases hy;have s13:=s12.trans s3;have eg:ms.getD i 0=z:=by rw[List.getD,e];rfl
     show aL _ _ _ _ _ _ [none,⇑z,↑l,↑r] H3 Q3;refine methE rfl x.ok (s13 _ _ h1) (by rfl) ?_;symm;refine⟨r,p,l,ws,cs,ms,n,m,h,w,g,z,rfl,x.same s13,s13 _ _ ha,F,s3 _ _ (s2 _ _ el),hml,fun H4 s4=>?_⟩;have:=k3 H4 s4;rw[eg] at this;exact this
  . intro l2 H3 hl2 s3 el2;rw[br,NI] at el2;refine mL (bs:=(List.range ms.length).map fun i=>twoB h w ms (ms.getD i 0)) (by rw[el2,OE];rfl) ?_
    have e:((List.range ms.length).map fun i=>twoB h w ms (ms.getD i 0)).all id=ms.all (twoB h w ms):=by
     have em:(List.range ms.length).map (fun i=>ms.getD i 0)=ms:=by
      refine List.ext_getElem (by simp) fun i h1 h2=>?_;simp at h1;simp[List.getD,NJ h1]
     have e2:(List.range ms.length).map (fun i=>twoB h w ms (ms.getD i 0))=ms.map (twoB h w ms):=by
      rw[← em,OE,em];rfl
     rw[e2,PZ];rfl
    rw[e];exact q1 _ (s12.trans s3)
variable{α:Type}
def Hm(F:Int->α)(ss:∅):(List.range ss.length).map (fun i=>F (ss.getD i 0))=ss.map F:=by
 refine O5 fun i=>?_;rw[NN,NN];by_cases h:i<ss.length
 . rw[OX h,NJ h];simp[List.getD,h]
 . rw[Od (by simpa using h),Od #[0]];rfl
variable{i:Nat}
def zW{α:Type}{l:List α}{x:α}(h:l[i]? =some x):l.take (i+1)=l.take i++[x]:=by
 rw[Pu,h];rfl
variable{l:Addr}{as:List Addr}{NE:List ∅}
def IsLL.app{bs:List Addr}{yss:List ∅}(x:IsLL H l as NE)(nl:l∉as)(nb:l∉bs)(len:bs.length=yss.length)(at2:∀(j:Nat) (a:Addr) (ys:∅),bs[j]? =some a->yss[j]? =some ys->H a=↥(ys.map V.int)):
  IsLL (upd H l (.lst (as.map V.ref++bs.map V.ref))) l (as++bs) (NE++yss):=by
 have hx:=x.len;refine⟨by rw[ao,OB],by rw[N0,N0,x.len,len],fun j a ys h1 h2=>?_⟩;by_cases hj:j<as.length
 . rw[OG hj] at h1;rw[OG #[0]] at h2;have ne:a≠l:=fun z=>nl (z ▸ NV h1);rw[ar ne];exact x.at_ j a ys h1 h2
 . rw[OT #[0]] at h1;rw[OT #[0]] at h2;have ne:a≠l:=fun z=>nb (z ▸ NV h1);rw[ar ne];exact at2 _ a ys h1 (by rw[hx];exact h2)
def IsLL.get{a:Addr}(x:IsLL H l as NE)(h:as[i]? =some a):∃ xs,NE[i]? =some xs/\H a=↥(xs.map V.int):=by
 have hi:=(NR.mp h).1;have e:NE[i]? =some (NE[i]'(by have:=x.len;omega)):=NJ _;exact⟨_,e,x.at_ i a _ h e⟩
variable{n:Nat}
def Gn(h:n<=1100):n<sizeLine:=OA h #[1]
variable{p:Addr}
def Go{q:Addr}{xs ys:List V}(hp:H p=↥xs)(hq:H q=↥ys)(hn:xs.length+ys.length<=1100)(h:Q .non (upd H p (.lst (xs++ys)))):iF (.ref p) [.ref q] H Q:=by
 show bnd (unM (H p)) _;rw[hp];show bnd (unM (H q)) _;rw[hq];exact⟨Ou (Gn hn),h⟩
def Gp(f:α->V)(xs:List α)(k:Nat):cutV (xs.map f) none (some (k:Int))=(xs.take k).map f:=by
 unfold cutV;rw[HT.sIx_nat,HT.sIx_none,NI,List.drop_zero,Nat.sub_zero,QB];by_cases h:k<=xs.length
 . rw[QI h]
 . rw[Qy #[0],OS (by rw[NI];exact NU _),OS (by rw[NI];omega)]
def DX(m:Int):(sgL m).length<=Builtin.Int.intBits m:=by
 unfold sgL;rw[NI];refine NS (NX _ _) ?_;rw[OK];exact NU _
def prodW(ms:∅):Nat:=ms.foldl (fun p m=>p*(sgL m).length) 1
def xH{x:Int}(f:α->Int->α)(a:α)(h:xs[i]? =some x):(xs.take (i+1)).foldl f a=f ((xs.take i).foldl f a) x:=by
 rw[Pu,h,Q9];rfl
def zd(K:Frag):Sp:=fun vs H Q _=>∃ p ms,vs=[.ref p]/\H p=↥(ms.map V.int)/\(∀ m∈ms,Builtin.Int.intBits m<=900)/\∀ H',Same H H'->Q (.int ((prodW ms:Nat):Int)) H'
def ze(K:Frag):TS:=#[":gldf#1 h#1 gIwc0h#2 lbX1pya,~sca2eeh#1 j1"]
def Iy(h:zd K vs H Q E):ze K (eD9 Q) (start ["masks","product","mask"] vs) H:=by
 obtain⟨p,ms,rfl,hp,hb,k⟩:=h;ac_nf;unfold ze;symm;refine⟨⟨_,N5 hp⟩,b7 (K:=K) (xs:=ms.map V.int) (fun i σ H'=>∃ mv:Option V,σ=[↑p,⇑((prodW (ms.take i):Nat):Int),mv]/\Same H H') ⟨none,rfl,NK H⟩ (fun i σ H' _ ⟨_,_,s⟩=>N5 (s _ _ hp)) ?_ ?_⟩
 . rintro i x σ H1 hx ⟨mv,rfl,s1⟩;obtain⟨m,hm,rfl⟩:=bi hx;have hbm:=hb m (NV hm);symm;refine⟨m,rfl,hbm,fun l H2 s2 hl el=>?_⟩;symm;rw[aS el];symm;have h1:=DX m;rw[NI];refine⟨.inr ⟨by omega,by omega⟩,⇑m,?_,s1.trans s2⟩;unfold prodW;rw[xH _ _ hm,Int.natCast_mul]
 . rintro σ H1 ⟨mv,rfl,s1⟩;symm;rw[OS (by rw[NI];exact NU _)] at*;exact k _ s1
def setL(xs:∅)(z s:Int):∅:=(List.range xs.length).map fun(i:Nat)=>if (i:Int)=z then s else xs.getD i 0
variable{z s:Int}
def BT:(setL xs z s).length=xs.length:=by unfold setL;simp
def DY(s0:0<=s)(s6:s<=6)(hx:∀ x∈xs,0<=x/\x<=6):∀ x∈setL xs z s,0<=x/\x<=6:=fun x h=>by
 unfold setL at h;obtain⟨i,hi,rfl⟩:=N9.mp h;have hlt:=N8.mp hi;have hb:=hx _ (Ot hlt);have eg:xs.getD i 0=xs[i]:=by rw[List.getD,NJ hlt];rfl
 rw[eg]
 split
 . exact⟨s0,s6⟩
 . exact hb
def kr(K:Frag):Sp:=fun vs H Q _=>∃ F xs z s,vs=[.ref F,.int z,.int s]/\H F=↥(xs.map V.int)/\xs.length<=100/\∀ l H',Same H H'->H l=none->H' l=↥((setL xs z s).map V.int)->Q (.ref l) H'
def nL(K:Frag):TS:=#[":jx&---12 'Ica0e~Hc#2 +h#1 +h#2 ~IJ~Bmbsc1342"]
def BU(h:kr K vs H Q E):nL K (eD9 Q) (start ["filling","cell","sign"] vs) H:=by
 obtain⟨F,xs,z,s,rfl,hF,hl,q⟩:=h;ac_nf;unfold nL;symm;refine⟨F,rfl,⟨_,N5 hF⟩,?_⟩;refine Ey (xs:=xs.map V.int) (fun _=>true) (fun i=>.int (if (i:Int)=z then s else xs.getD i 0)) (by rw[NI];omega) #[1] (N5 hF) ?_ ?_ ?_
 . intro i x H1 R hx s1 k1;exact k1 _ (NK _)
 . intro i x H1 Q1 hx hb s1 k1;obtain⟨y,hy,rfl⟩:=bi hx;have q1:=k1 _ (NK H1);rw[k9 hy] at q1;show tIf _ _ _ [none,⇑(i:Int),⇑y,⇑z,⇑s] H1 Q1;unfold tIf;symm;by_cases h0:(i:Int)=z
   . rw[NP h0];rw[Oh h0] at q1;exact iteT q1
   . rw[NL h0];rw[Ob h0] at q1;exact iteF q1
 . intro l H1 hl1 s1 el;rw[br,NI] at el;refine q l H1 s1 hl1 ?_;rw[el];unfold setL;rw[OE];rfl
def extS(fss:List ∅)(z:Int)(ss:∅):List ∅:=fss.flatMap fun f=>ss.map fun s=>setL f z s
theorem wn(z:Int)(ss:∅):∀ fss:List ∅,(extS fss z ss).length=fss.length*ss.length
 | []=>by simp[extS]
 | f::r=>by
  have ih:=wn z ss r;unfold extS at ih ⊢;rw[List.flatMap_cons,N0,ih,NI,Oq,R0,Nat.add_comm]
def Hn(fs gs:List ∅)(z:Int)(ss:∅):extS (fs++gs) z ss=extS fs z ss++extS gs z ss:=by
 unfold extS;rw[QM]
def Ho(f:∅)(z:Int)(ss:∅):extS [f] z ss=ss.map fun s=>setL f z s:=by
 unfold extS;simp
def mem_extS{f:∅}{fs:List ∅}{ss:∅}:f∈extS fs z ss↔∃ a∈fs,∃ s∈ss,f=setL a z s:=by
 unfold extS;rw[List.mem_flatMap];constructor
 . rintro⟨a,ha,h⟩;obtain⟨s,hs,rfl⟩:=N9.mp h;exact⟨a,ha,s,hs,rfl⟩
 . rintro⟨a,ha,s,hs,rfl⟩;exact⟨a,ha,N9.mpr ⟨s,hs,rfl⟩⟩
def Gq{H0 H1 H2:Hp}{m:Addr}{bs:List Addr}{yss:List ∅}(x:IsLL H1 l as NE)(nl:l∉as)(s0:Same H0 H1)(fr:∀ b∈as,H0 b=none)(s1:Same H1 H2)(nw:NewAt H1 H2 m bs (yss.map fun ys=>.lst (ys.map V.int))):
  IsLL (upd H2 l (.lst (as.map V.ref++bs.map V.ref))) l (as++bs) (NE++yss)/\l∉as++bs/\(∀ b∈as++bs,H0 b=none):=by
 have nb:l∉bs:=fun h=>by have:=nw.fr l h;rw[x.top] at this;cases this
 refine⟨?_,?_,?_⟩
 . refine(x.same s1).app nl nb (by rw[nw.len,NI]) fun j a ys h1 h2=>?_;exact nw.at_ j a _ h1 (by rw[NN,h2];rfl)
 . intro h;rcases Oj.mp h with h | h
   . exact nl h
   . exact nb h
 . intro b h;rcases Oj.mp h with h | h
   . exact fr b h
   . exact s0.free (nw.fr b h)
def iS(K:Frag):Sp:=fun vs H Q _=>∃ F S as fss z ss,vs=[.ref F,.int z,.ref S]/\IsLL H F as fss/\H S=↥(ss.map V.int)/\fss.length*ss.length<=1100/\ss.length<=100/\(∀ f∈fss,f.length<=16)/\
 ∀(l:Addr) (bs:List Addr) (H':Hp),Same H H'->H l=none->IsLL H' l bs (extS fss z ss)->Q (.ref l) H'
def iT(K:Frag):TS:=#[":glveh#3 gIwc0h#4 NEcG~J3ax&--14 wc2h#1 J,'Jca3a2a1eej3"]
def uY(h:iS K vs H Q E):iT K (eD9 Q) (start ["fillings","cell","signs","found","filling"] vs) H:=by
 obtain⟨F,S,as,fss,z,ss,rfl,x,hS,hn,hs,hf,q⟩:=h;ac_nf;unfold iT;symm;refine⟨lnR rfl,fun l hl=>?_⟩;obtain⟨H1,z9,s1,el⟩:=a9 (.lst []) hl;rw[z9];refine⟨⟨_,N5 (s1 _ _ x.top)⟩,?_⟩
 refine b7 (K:=K) (xs:=as.map V.ref) (fun i σ H'=>∃(v:Option V) (bs:List Addr),σ=[↑F,⇑z,↑S,↑l,v]/\Same H H'/\IsLL H' l bs (extS (fss.take i) z ss)/\l∉bs/\∀ b∈bs,H b=none)
  ⟨none,[],rfl,s1,⟨el,rfl,fun j a xs h1=>by simp at h1⟩,by simp,fun b hb=>nomatch hb⟩ (fun i σ H' _ ⟨_,_,_,s,_⟩=>s.seq (N5 x.top)) ?_ ?_
 . rintro i y σ H2 hy ⟨v,bs,rfl,s2,x2,nl,fr⟩;obtain⟨f,hfa,rfl⟩:=lM hy;obtain⟨xs,ex,ef⟩:=x.get hfa;have hxl:=hf xs (NV ex);symm;refine⟨bL x2.top,⟨_,N5 (s2 _ _ hS)⟩,?_⟩;refine Ez (xs:=ss.map V.int) (fun _=>true) (fun i=>.lst ((setL xs z (ss.getD i 0)).map V.int)) (by rw[NI];omega) (N5 (s2 _ _ hS)) ?_ ?_ ?_
   . intro i x H R hx s1 k1;exact k1 _ (NK _)
   . intro i x H3 Q3 hi hb s3 k3;obtain⟨t,ht,rfl⟩:=bi hi;rw[k9 ht] at k3;show tCall _ _ _ _ [none,⇑t,⇑z,↑f] H3 Q3;symm;exact⟨f,xs,z,t,rfl,(s2.trans s3) _ _ ef,by omega,fun l H' s' hl el=>k3 l H' s' hl el⟩
   . intro m cs H3 hm s3 em nw;rw[br,NI,Hm (fun s=>HO.lst ((setL xs z s).map V.int))] at nw
     have nw2:NewAt H2 H3 m cs ((extS [xs] z ss).map fun ys=>.lst (ys.map V.int)):=by
      rw[Ho,OE];exact nw
     have hb:bs.length+cs.length<=1100:=by
      have l1:=x2.len;rw[wn,OP] at l1;have l2:=nw.len;rw[NI] at l2;have hi:=(NR.mp ex).1;have e1:min i fss.length=i:=by omega
      rw[e1] at l1;have:=QD ss.length (show i+1<=fss.length by omega);rw[R0] at this;omega
     refine Go (s3 _ _ x2.top) em (by rw[NI,NI];exact hb) ?_;obtain⟨z1,z2,z3⟩:=Gq x2 nl s2 fr s3 nw2;refine⟨_,bs++cs,rfl,(s2.trans s3).own hl,?_,z2,z3⟩;rw[zW ex,Hn];exact z1
 . rintro σ H2 ⟨v,bs,rfl,s2,x2,nl,fr⟩;symm;have e:fss.take (as.map V.ref).length=fss:=OS (by rw[NI,x.len];exact NU _);rw[e] at x2;exact q l bs H2 s2 hl x2
def wfold(Ny:∅)(rest:∅)(fs:List ∅):List ∅:=rest.foldl (fun fs o=>extS fs o (sgL (Ny.getD o.toNat 0))) fs
def wfill(Ny rest:∅)(z s:Int):List ∅:=wfold Ny rest [setL (List.replicate Ny.length 0) z s]
noncomputable def waysB (k:RK) (h w:Int) (cs:∅) (n m:Int) (Ny:∅) (z s:Int) (ms:∅):Bool:=
 decide (ms=[])&&(decide (prodW (sgAt Ny (othL cs z))<=32)&&(decide (0∈sgAt Ny (othL cs z))||!((wfill Ny (othL cs z) z s).any fun f=>hoB k h w cs n m f)))
theorem zX(Ny:∅):∀(rest:∅) (fs:List ∅),(wfold Ny rest fs).length=(sgAt Ny rest).foldl (fun p m=>p*(sgL m).length) fs.length
 | [],_=>rfl
 | o::r,fs=>by
  unfold wfold sgAt;rw[P2,Os,P2];have:=zX Ny r (extS fs o (sgL (Ny.getD o.toNat 0)));unfold wfold sgAt at this;rw[this,wn]
theorem BV:∀(ms:∅) (n:Nat),(∀ m∈ms,1<=(sgL m).length)->n<=ms.foldl (fun p m=>p*(sgL m).length) n
 | [],_,_=>NU _
 | m::r,n,h=>by
  rw[P2];exact NS (Nat.le_mul_of_pos_right n (h m Oc)) (BV r _ fun x hx=>h x (N3 _ hx))
def EM(i:Nat)(h:∀ m∈ms,1<=(sgL m).length):prodW (ms.take i)<=prodW ms:=by
 have e:prodW ms=(ms.drop i).foldl (fun p m=>p*(sgL m).length) (prodW (ms.take i)):=by
  unfold prodW;rw[← Q9,List.take_append_drop]
 rw[e];exact BV _ _ fun x hx=>h x (List.mem_of_mem_drop hx)
theorem rj{n:Nat}{Ny:∅}(hm:∀ m∈Ny,0<=m/\m<64):∀(rest:∅) (fs:List ∅),(∀ f∈fs,f.length=n/\∀ x∈f,0<=x/\x<=6)->∀ f∈wfold Ny rest fs,f.length=n/\∀ x∈f,0<=x/\x<=6
 | [],_,h,f,hf=>h f hf
 | o::r,fs,h,f,hf=>by
  refine rj hm r (extS fs o (sgL (Ny.getD o.toNat 0))) (fun g hg=>?_) f hf;obtain⟨a,ha,s,hs,rfl⟩:=mem_extS.mp hg;have h1:=h a ha
  have hs6:1<=s/\s<=6:=by
   by_cases hlt:o.toNat<Ny.length
   . have e:Ny.getD o.toNat 0=Ny[o.toNat]:=by rw[List.getD,NJ hlt];rfl
     rw[e] at hs;have hb:=hm _ (Ot hlt);rw[(jb hb.1 hb.2).2] at hs;obtain⟨j,hj,rfl⟩:=N9.mp hs;have:=(Of.mp hj).1;simp at this;omega
   . have e:Ny.getD o.toNat 0=0:=by rw[List.getD,Od #[0]];rfl
     rw[e,JN] at hs;cases hs
  exact⟨by rw[BT];exact h1.1,DY #[0] hs6.2 h1.2⟩
def ku(K:Frag)(c:RCl RK):Sp:=fun vs H Q _=>∃ k r p A M ws cs Ny ms n m z s h w g,vs=[.ref r,.ref A,.int z,.int s,.ref M]/\IsRule H c k r p ws cs n m/\IsFl H p h w g/\FlOk h w g/\aU cs Ny.length/\Ny.length<=16/\(∀ m∈Ny,0<=m/\m<64)/\1<=s/\s<=6/\H A=↥(Ny.map V.int)/\H M=↥(ms.map V.int)/\∀ H',Same H H'->Q (.bl (waysB k h w cs n m Ny z s ms)) H'
def ii(K:Frag)(c:RCl RK):TS:=#[":gIwc7h#9 nzDkL{K{Lck0a9ejdFBojdFM"]
def ij(K:Frag)(c:RCl RK):TS:=#[":glva,'Jcab{Mvadf#0 epya1ea2a3eeh#7 gIwc5h#8 l,{Nca7a8a,~scabi18eeh#7 {Ock"]
def kx(K:Frag)(c:RCl RK):TS:=#[":gl,;cka0a2eh#5 gl,~rca1a5eh#6 gnQmbAc4vemb>,{Pca6edf#32 jdFBognz,'Eca6ejdFMo{Qck"]
structure Wys(H:Hp)(c:RCl RK)(k:RK)(r p A:Addr)(ws:List (List Nat))(cs Ny:∅)(n m h w g:Int):Prop where
 R:IsRule H c k r p ws cs n m
 fl:IsFl H p h w g
 F:FlOk h w g
 ci:aU cs Ny.length
 ml:Ny.length<=16
 mo:∀ m∈Ny,0<=m/\m<64
 hA:H A=↥(Ny.map V.int)
variable{A:Addr}{Ny:∅}{g:Int}
def Wys.same{H':Hp}{k:RK}{r:Addr}{ws:List (List Nat)}{n:Int}(x:Wys H c k r p A ws cs Ny n m h w g)(s:Same H H'):Wys H' c k r p A ws cs Ny n m h w g:=⟨x.R.same s,s _ _ x.fl,x.F,x.ci,x.ml,x.mo,s _ _ x.hA⟩
def EN {k:RK} {r F:Addr} {ws:List (List Nat)} {n:Int} {v2 v3 v4 v5 v6 v8:Option V} {bs:List Addr} {fss:List ∅} (X:Wys H c k r p A ws cs Ny n m h w g) (x:IsLL H F bs fss) (hf:∀ f∈fss,f.length=Ny.length/\∀ x∈f,0<=x/\x<=6)
  (q:∀ H',Same H H'->Q (.bl (!(fss.any fun f=>hoB k h w cs n m f))) H'):
  ii K c (eD9 Q) [↑r,↑A,v2,v3,v4,v5,v6,↑F,v8,none] H:=by
 obtain⟨dx,W,C,h1,h2,h3⟩:=X.R.ex;have hxl:=x.len;unfold ii;symm;refine⟨⟨_,N5 x.top⟩,?_⟩;refine b7 (K:=K) (xs:=bs.map V.ref) (fun i σ H'=>∃ v9:Option V,σ=[↑r,↑A,v2,v3,v4,v5,v6,↑F,v8,v9]/\Same H H'/\((fss.take i).any fun f=>hoB k h w cs n m f)=false) ⟨none,rfl,NK _,rfl⟩ (fun i σ H' _ ⟨_,_,s,_⟩=>s.seq (N5 x.top)) ?_ ?_
 . rintro i y σ H1 hy ⟨v9,rfl,s1,hno⟩;obtain⟨b,hb,rfl⟩:=lM hy;obtain⟨f,ef,eb⟩:=x.get hb;have hfm:=NV ef;obtain⟨hfl,hfx⟩:=hf f hfm;have X1:=X.same s1;symm;rw[aC];symm;refine methE (k:=k) rfl X.R.ok (s1 _ _ h1) (by rfl) ?_;symm;refine⟨r,p,b,ws,cs,f,n,m,h,w,g,rfl,X1.R,X1.fl,X1.F,s1 _ _ eb,by rw[hfl];exact X1.ci,fun y hy=>by have:=hfx y hy;omega,fun H2 s2=>?_⟩;refine⟨_,rfl,?_⟩
   cases hh:hoB k h w cs n m f with
   | true=>
    refine iteT ?_;have e:(fss.any fun f=>hoB k h w cs n m f)=true:=O8.mpr ⟨f,hfm,hh⟩;have q1:=q _ (s1.trans s2);rw[e] at q1;exact q1
   | false=>
    refine iteF ⟨_,rfl,s1.trans s2,?_⟩;rw[zW ef,List.any_append,hno,Ph]
    simpa using hh
 . rintro σ H1 ⟨v9,rfl,s1,hno⟩;rw[OS (by rw[NI,hxl];exact NU _)] at hno;symm;rw[hno] at q;exact q _ s1
def EO {k:RK} {r R:Addr} {ws:List (List Nat)} {n:Int} {v4 v6:Option V} (X:Wys H c k r p A ws cs Ny n m h w g) (hR:H R=↥((othL cs z).map V.int)) (s0:1<=s) (s6:s<=6) (hw:prodW (sgAt Ny (othL cs z))<=32) (h0:0∉sgAt Ny (othL cs z))
  (q:∀ H',Same H H'->Q (.bl (!((wfill Ny (othL cs z) z s).any fun f=>hoB k h w cs n m f))) H'):
  ij K c (eD9 Q) [↑r,↑A,⇑z,⇑s,v4,↑R,v6,none,none,none] H:=by
 have hml:=X.ml;unfold ij;symm;refine⟨lnR rfl,fun Z hZ=>?_⟩;obtain⟨H1,z9,s1,eZ⟩:=a9 (.lst [V.int 0]) hZ;rw[z9];rw[aS (s1 _ _ X.hA),NI];refine Jy eZ #[0] #[0] (by show(1:Nat)<=1;decide) fun N hN=>?_;have s2:Same H1 (upd H1 N (.lst (List.replicate ((Ny.length:Nat):Int).toNat [V.int 0]).flatten)):=(NK H1).laid hN
 have eN:(upd H1 N (.lst (List.replicate ((Ny.length:Nat):Int).toNat [V.int 0]).flatten)) N=↥((List.replicate Ny.length (0:Int)).map V.int):=by
  rw[ao,QV];simp
 generalize upd H1 N (.lst (List.replicate ((Ny.length:Nat):Int).toNat [V.int 0]).flatten)=H2 at*;have s12:=s1.trans s2;refine⟨N,_,z,s,rfl,eN,by simp;omega,fun b H3 s3 hb eb=>?_⟩;have s13:=s12.trans s3;symm;refine⟨lnR rfl,fun F hF=>?_⟩;have s4:Same H3 (upd H3 F (.lst [V.ref b])):=(NK H3).laid hF
 have xF:IsLL (upd H3 F (.lst [V.ref b])) F [b] [setL (List.replicate Ny.length 0) z s]:=by
  refine⟨ao,rfl,fun j a xs e1 e2=>?_⟩;have hj:j=0:=by have:=(NR.mp e1).1;simp at this;omega
  subst hj;cases e1;cases e2;exact s4 _ _ eb
 generalize upd H3 F (.lst [V.ref b])=H4 at*;have s14:=s13.trans s4
 have base:∀ f∈([setL (List.replicate Ny.length 0) z s]:List ∅),f.length=Ny.length/\∀ x∈f,0<=x/\x<=6:=fun f hf=>by
  rw[Oa.mp hf];exact⟨by rw[BT];simp,DY #[0] s6 fun x hx=>by rw[(QW.mp hx).2];omega⟩
 have pos:∀ mm∈sgAt Ny (othL cs z),1<=(sgL mm).length:=fun mm hm=>by
  have hne:mm≠0:=fun e=>h0 (e ▸ hm);unfold sgAt at hm;obtain⟨o,ho,rfl⟩:=N9.mp hm;have hoc:o∈cs:=(Of.mp ho).1;have hi:=X.ci.2 o hoc;have hlt:o.toNat<Ny.length:=by omega
  have e:Ny.getD o.toNat 0=Ny[o.toNat]:=by rw[List.getD,NJ hlt];rfl
  rw[e] at hne ⊢;have hb:=X.mo _ (Ot hlt);exact(HM hb.1 hb.2 hne).1.1
 refine⟨⟨_,N5 (s14 _ _ hR)⟩,?_⟩;refine b7 (K:=K) (xs:=(othL cs z).map V.int) (fun i σ H'=>∃(F:Addr) (bs:List Addr) (v8:Option V),σ=[↑r,↑A,⇑z,⇑s,v4,↑R,v6,↑F,v8,none]/\Same H H'/\IsLL H' F bs (wfold Ny ((othL cs z).take i) [setL (List.replicate Ny.length 0) z s])) ⟨F,[b],none,rfl,s14,xF⟩ (fun i σ H' _ ⟨_,_,_,_,s,_⟩=>s.seq (N5 hR)) ?_ ?_
 . rintro i y σ H5 hy ⟨F,bs,v8,rfl,s5,x5⟩;obtain⟨o,ho,rfl⟩:=bi hy;have hom:=NV ho;have hoc:o∈cs:=(Of.mp hom).1;have hi:=X.ci.2 o hoc;have hlt:o.toNat<Ny.length:=by omega
   have e:Ny.getD o.toNat 0=Ny[o.toNat]:=by rw[List.getD,NJ hlt];rfl
   have hb:=X.mo _ (Ot hlt);have sb:=jb hb.1 hb.2;symm;refine ixI (s5 _ _ X.hA) #[0] #[0] ?_;symm;rw[e];refine⟨_,rfl,by omega,fun S H6 s6' hS eS=>?_⟩;symm;have hsl:(sgL Ny[o.toNat]).length<=6:=NS (DX _) sb.1;refine⟨F,S,bs,_,o,_,rfl,x5.same s6',eS,?_,by omega,fun f hf=>by have:=(rj X.mo _ _ base f hf).1;omega,fun l cs2 H7 s7 hl x7=>?_⟩
   . rw[zX];have h1:=EM i pos
     have e2:(sgAt Ny ((othL cs z).take i)).foldl (fun p m=>p*(sgL m).length) ([setL (List.replicate Ny.length 0) z s]:List ∅).length=prodW ((sgAt Ny (othL cs z)).take i):=by
      unfold prodW sgAt;rw[QB];rfl
     rw[e2];have h3:prodW ((sgAt Ny (othL cs z)).take i)*(sgL Ny[o.toNat]).length<=32*6:=Nat.mul_le_mul #[0] hsl;omega
   . refine⟨l,cs2,_,rfl,(s5.trans s6').trans s7,?_⟩
     have e3:wfold Ny ((othL cs z).take (i+1)) [setL (List.replicate Ny.length 0) z s]=extS (wfold Ny ((othL cs z).take i) [setL (List.replicate Ny.length 0) z s]) o (sgL Ny[o.toNat]):=by
      unfold wfold;rw[xH _ _ ho,e]
     rw[e3];exact x7
 . rintro σ H5 ⟨F,bs,v8,rfl,s5,x5⟩;rw[OS (by rw[NI];exact NU _)] at x5;exact EN (X.same s5) x5 (rj X.mo _ _ base) fun H' s'=>q H' (s5.trans s')
def xI(h:ku K c vs H Q E):kx K c (eD9 Q) (start ["rule","masks","cell","sign","more","rest","some","fillings","other","filling"] vs) H:=by
 obtain⟨k,r,p,A,M,ws,cs,Ny,ms,n,m,z,s,h,w,g,rfl,hR,hp,F,ci,ml,mk,s0,s6,hA,hM,q⟩:=h;have X:Wys H c k r p A ws cs Ny n m h w g:=⟨hR,hp,F,ci,ml,mk,hA⟩;have hcl:cs.length<=63:=by have:=ci.1;omega
 ac_nf;unfold kx;symm;refine⟨k,r,p,ws,cs,n,m,z,rfl,hR,hcl,fun R H1 s1 hR1 eR=>?_⟩;have eR2:H1 R=↥((othL cs z).map V.int):=eR;symm;refine⟨A,R,Ny,othL cs z,rfl,s1 _ _ hA,eR2,⟨NS (NX _ _) ci.1,fun x hx=>ci.2 x (Of.mp hx).1⟩,fun S H2 s2 hS eS=>?_⟩;have s12:=s1.trans s2;dsimp only;rw[aC];symm;refine⟨lnR rfl,fun e he=>?_⟩;obtain⟨H3,z9,s3,ee⟩:∃ z,upd H2 e (.lst [])=z/\Same H2 z/\z e=↥(([]:∅).map V.int):=a9 _ he;rw[z9];have s13:=s12.trans s3;refine qM (s13 _ _ hM) ee ?_;refine⟨_,rfl,?_⟩;unfold waysB at q;by_cases hm:ms=[]
 . rw[NP hm] at q ⊢;rw[N2] at q;refine iteF ?_;symm;refine⟨S,_,rfl,s3 _ _ eS,fun x hx=>?_,fun H4 s4=>?_⟩
   . unfold sgAt at hx;obtain⟨o,ho,rfl⟩:=N9.mp hx;have hi:=ci.2 o (Of.mp ho).1;have hlt:o.toNat<Ny.length:=by omega
     have e:Ny.getD o.toNat 0=Ny[o.toNat]:=by rw[List.getD,NJ hlt];rfl
     rw[e];have hb:=mk _ (Ot hlt);have:=(jb hb.1 hb.2).1;omega
   . have s14:=s13.trans s4;symm;by_cases hw:prodW (sgAt Ny (othL cs z))<=32
     . rw[NP hw,N2] at q;rw[NL #[0]];refine iteF ?_;rw[aC];symm;refine⟨S,_,rfl,(s3.trans s4) _ _ eS,?_⟩;refine⟨_,rfl,?_⟩;by_cases h0:0∈sgAt Ny (othL cs z)
       . rw[NP h0] at q ⊢;rw[Qn] at q;exact iteT (q _ s14)
       . rw[NL h0] at q ⊢;rw[Ph] at q;refine iteF ?_;exact EO (X.same s14) (((s2.trans s3).trans s4) _ _ eR2) s0 s6 hw h0 fun H' s'=>q H' (s14.trans s')
     . rw[NL hw,NZ] at q;rw[NP #[0]];exact iteT (q _ s14)
 . rw[NL hm,NZ] at q;rw[NL hm];exact iteT (q _ s13)
def BW(g:Int)(t:TK)(x:RR)(Ny:∅)(z s:Int)(ms:∅):Bool:=match t with
 | .only=>onlyB x.cs Ny z s ms
 | .place=>BM g x.cs Ny z s ms
 | _=>pairB x.cs Ny z s ms
def nM(g:Int)(NA:List RR)(cl Ny:∅)(t:TK)(r z s:Int)(ms:∅):Bool:=match t with
 | .clue=>clueB cl z s ms
 | _=>match NA[r.toNat]? with
  | none=>false
  | some x=>BW g t x Ny z s ms
noncomputable def rcB (h w:Int) (cs:∅) (st x:Int):Bool:=@decide (RC h w cs st x) (Classical.propDecidable _)
def Gr{rs:∅}{st x:Int}(hm:x∈rs↔RC h w cs st x):decide (x∈rs)=rcB h w cs st x:=by
 unfold rcB;rw[Oi,NO];exact hm.trans (@decide_eq_true_iff _ (Classical.propDecidable _)).symm
def anoB(h w:Int)(Ny:∅)(z m o:Int):Bool:=(decide (0<=o)&&decide (o<h*w))&&(!decide (o=z)&&decide (woI (Ny.getD o.toNat 0) m=0))
def fc(K:Frag):Sp:=fun vs H Q _=>∃ f A h w g z o m Ny,vs=[.ref f,.ref A,.int z,.int o,.int m]/\IsFl H f h w g/\FlOk h w g/\H A=↥(Ny.map V.int)/\Ny.length=(h*w).toNat/\m<=1000/\Q (.bl (anoB h w Ny z m o)) H
def fe(K:Frag):TS:=#[":jO,'Aca0a3eObAc32,~Tcabi13a4e"]
theorem oj(h:fc K vs H Q E):fe K (eD9 Q) (start ["floor","masks","cell","other","mark"] vs) H:=by
 obtain⟨f,A,h,w,g,z,o,m,Ny,rfl,hf,F,hA,hml,hm,q⟩:=h;ac_nf;unfold fe;symm;refine⟨f,h,w,g,o,rfl,hf,F,?_⟩;unfold anoB at q
 cases hb:(decide (0<=o)&&decide (o<h*w)) with
 | false=>
  rw[hb,NZ] at q;exact⟨false,rfl,iteF q⟩
 | true=>
  rw[hb,N2] at q;rw[Om,NO,NO] at hb;refine⟨true,rfl,iteT ?_⟩;symm
  cases hb2:decide (o=z) with
  | true=>
   rw[hb2,PL,NZ] at q;symm;exact q
  | false=>
   rw[hb2,Qb,N2] at q;symm;refine ixI hA hb.1 #[0] ?_;symm;exact⟨_,m,rfl,by omega,q⟩
def thrL(cs Ny:∅)(m z:Int):∅:=(cs.filter fun x=>!decide (x=z)).filter fun x=>stB (Ny.getD x.toNat 0) m
noncomputable def reaB (h w:Int) (cs:∅) (m:Int) (Ny:∅) (z s:Int) (ms:∅):Bool:=
 (ms.all fun o=>anoB h w Ny z m o)&&(if s=m then decide (ms.length=1)&&!rcB h w (thrL cs Ny m z++[z]) z (ms.getD 0 0)
  else decide (ms.length=2)&&(!decide (ms.getD 0 0=ms.getD 1 0)&&!rcB h w (thrL cs Ny m z) (ms.getD 0 0) (ms.getD 1 0)))
def jB(K:Frag)(c:RCl RK):Sp:=fun vs H Q _=>∃ k f r p A M ws cs Ny ms n m z s h w g,vs=[.ref f,.ref r,.ref A,.int z,.int s,.ref M]/\IsFl H f h w g/\FlOk h w g/\IsRule H c k r p ws cs n m/\aU cs Ny.length/\cs.length<=60/\Ny.length=(h*w).toNat/\H A=↥(Ny.map V.int)/\H M=↥(ms.map V.int)/\ms.length<=100/\m<=1000/\∀ H',Same H H'->Q (.bl (reaB h w cs m Ny z s ms)) H'
def gQ(K:Frag)(c:RCl RK):TS:=#[":gnmbsc46jObscpya5edf#1 bKcMbi5df#0 ,'dca0abt7va3ea3eognQmbAcpya5edf#2 mbscbi5df#0 bi5df#1 jdFBojbKcMbi5df#1 ,'dca0a7abi5df#0 e"]
def gR(K:Frag)(c:RCl RK):TS:=#[":g~w#7 &--62 wc,;cka1a3eh#1 z,~Pcabi31a2e1{Rck"]
def jC(K:Frag)(c:RCl RK):TS:=#[":glDkL~E~Fck1eh#6 gnRzp~aax&--3062 wc5h#1 J,{Sca3a5a2a1a4eejdFBo{Tck"]
variable{v1:V}
def se {f M N:Addr} {T:∅} (hf:IsFl H f h w g) (F:FlOk h w g) (hM:H M=↥(ms.map V.int)) (hN:H N=↥(T.map V.int)) (hT:T.length<=60)
  (q:∀ H',Same H H'->Q (.bl (if s=m then decide (ms.length=1)&&!rcB h w (T++[z]) z (ms.getD 0 0) else decide (ms.length=2)&&(!decide (ms.getD 0 0=ms.getD 1 0)&&!rcB h w T (ms.getD 0 0) (ms.getD 1 0)))) H'):
  gQ K c (eD9 Q) [↑f,some v1,↑A,⇑z,⇑s,↑M,⇑m,↑N] H:=by
 have w0:=F.w0;have w1:=F.w1;unfold gQ;rw[az,aC];symm;by_cases hs:s=m
 . rw[Oh hs] at q;rw[NP hs];symm;rw[aS hM,NI];symm
   have e1:decide ((ms.length:Int)=1)=decide (ms.length=1):=by
    rw[Oi,NO,NO];omega
   rw[e1]
   cases hb:decide (ms.length=1) with
   | false=>
    rw[hb,NZ] at q;symm;exact q _ (NK _)
   | true=>
    rw[hb,N2] at q;have hl:=Oy hb;symm;refine ixI hM #[1] #[0] ?_;rw[show(0:Int).toNat=0 from rfl];symm;refine⟨lnR rfl,fun l hl2=>?_⟩;obtain⟨H1,z9,s1,el⟩:=a9 (.lst [V.int z]) hl2;rw[z9];refine ja (s1 _ _ hN) el (by simp;omega) fun Y hY=>?_;have s2:Same H1 (upd H1 Y (.lst (T.map V.int++[V.int z]))):=(NK H1).laid hY;have eY:(upd H1 Y (.lst (T.map V.int++[V.int z]))) Y=↥((T++[z]).map V.int):=by rw[ao];simp
    generalize upd H1 Y (.lst (T.map V.int++[V.int z]))=H2 at*;have s12:=s1.trans s2;symm;refine⟨f,Y,h,w,g,z,_,rfl,s12 _ _ hf,by omega,by omega,eY,by simp;omega,fun p H3 rs s3 hp ep _ hx=>?_⟩;dsimp only;rw[jV ep,Gr (hx _)];exact q _ (s12.trans s3)
 . rw[Ob hs] at q;rw[NL hs];symm;rw[aC];symm;rw[aS hM,NI];symm
   have e1:decide ((ms.length:Int)=2)=decide (ms.length=2):=by
    rw[Oi,NO,NO];omega
   rw[e1]
   cases hb:decide (ms.length=2) with
   | false=>
    rw[hb,NZ] at q;symm;exact q _ (NK _)
   | true=>
    rw[hb,N2] at q;have hl:=Oy hb;symm;refine ixI hM #[1] #[0] ?_;rw[show(0:Int).toNat=0 from rfl];symm;refine ixI hM #[1] #[0] ?_;rw[show(1:Int).toNat=1 from rfl];symm
    cases hb2:decide (ms.getD 0 0=ms.getD 1 0) with
    | true=>
     rw[hb2,PL,NZ] at q;symm;exact q _ (NK _)
    | false=>
     rw[hb2,Qb,N2] at q;symm;refine ixI hM #[1] #[0] ?_;rw[show(1:Int).toNat=1 from rfl];symm;refine ixI hM #[1] #[0] ?_;rw[show(0:Int).toNat=0 from rfl];symm;refine⟨f,N,h,w,g,_,_,rfl,hf,by omega,by omega,hN,by omega,fun p H3 rs s3 hp ep _ hx=>?_⟩;dsimp only;rw[jV ep,Gr (hx _)];exact q _ s3
def sf {k:RK} {f r M:Addr} {ws:List (List Nat)} {n:Int} (hf:IsFl H f h w g) (F:FlOk h w g) (x:IsRule H c k r p ws cs n m) (hC:aU cs Ny.length) (hml:Ny.length=(h*w).toNat) (hA:H A=↥(Ny.map V.int)) (hM:H M=↥(ms.map V.int))
  (q:∀ H',Same H H'->Q (.bl (if s=m then decide (ms.length=1)&&!rcB h w (thrL cs Ny m z++[z]) z (ms.getD 0 0) else decide (ms.length=2)&&(!decide (ms.getD 0 0=ms.getD 1 0)&&!rcB h w (thrL cs Ny m z) (ms.getD 0 0) (ms.getD 1 0)))) H') (hcs:cs.length<=60):
  gR K c (eD9 Q) [↑f,↑r,↑A,⇑z,⇑s,↑M,⇑m,none] H:=by
 unfold gR;symm;refine⟨k,r,p,ws,cs,n,m,z,rfl,x,hC.1,fun O H1 s1 hO eO=>?_⟩;have hfl:=NX (fun x=>!decide (x=z)) cs;refine⟨O,rfl,⟨_,N5 eO⟩,?_⟩;refine aT (xs:=cs.filter fun x=>!decide (x=z)) (fun x=>stB (Ny.getD x.toNat 0) m) (fun x=>x) #[0] (N5 eO) ?_ ?_ ?_
 . intro y H2 R hy s2 k2;have hyc:=hC.2 y (Of.mp hy).1;show tB _ [none,⇑y,⇑m,↑A] H2 R;symm;refine ixI ((s1.trans s2) _ _ hA) hyc.1 hyc.2 ?_;symm;exact⟨_,m,rfl,_,rfl,k2 _ (NK _)⟩
 . intro y H2 Q2 hy hb s2 k2;show tVar 1 [none,⇑y,⇑m,↑A] H2 Q2;symm;exact k2 _ (NK _)
 . intro N H2 hN s2 eN;rw[Pa] at eN;have s12:=s1.trans s2;symm;refine se (s12 _ _ hf) F (s12 _ _ hM) (T:=thrL cs Ny m z) eN ?_ fun H' s3=>q H' (s12.trans s3);unfold thrL;have:=NX (fun x=>stB (Ny.getD x.toNat 0) m) (cs.filter fun x=>!decide (x=z));omega
def wo(h:jB K c vs H Q E):jC K c (eD9 Q) (start ["floor","rule","masks","cell","sign","more","mark","through"] vs) H:=by
 obtain⟨k,f,r,p,A,M,ws,cs,Ny,ms,n,m,z,s,h,w,g,rfl,hf,F,x,hC,hcs,hml,hA,hM,hmn,hm,q⟩:=h;obtain⟨dx,W,C,h1,h2,h3⟩:=x.ex;ac_nf;unfold jC;rw[az,bK];refine methE (k:=k) rfl x.ok h1 (by rfl) ?_;symm;refine⟨r,p,ws,cs,n,m,rfl,x,?_⟩;symm;rw[aC];symm;refine⟨⟨_,N5 hM⟩,?_⟩;refine cJ (xs:=ms.map V.int) (fun _=>true) (fun i=>.bl (anoB h w Ny z m (ms.getD i 0))) (by rw[NI];omega) (N5 hM) ?_ ?_ ?_
 . intro i y H1 R hy s1 k1;exact k1 _ (NK _)
 . intro i y H1 Q1 hy hb s1 k1;obtain⟨v,hv,rfl⟩:=bi hy;have eg:ms.getD i 0=v:=by rw[List.getD,hv];rfl
   rw[eg] at k1;show tCall _ _ _ _ [none,⇑v,⇑z,↑f,⇑m,↑A] H1 Q1;symm;exact⟨f,A,h,w,g,z,v,m,Ny,rfl,s1 _ _ hf,F,s1 _ _ hA,hml,hm,k1 _ (NK _)⟩
 . intro l H1 hl s1 el
   have eb:((List.range (ms.map V.int).length).filter fun _=>true).map (fun i=>V.bl (anoB h w Ny z m (ms.getD i 0)))=(ms.map fun o=>anoB h w Ny z m o).map V.bl:=by
    rw[br,NI,OE];refine List.ext_getElem (by simp) fun i h1 h2=>?_;have hi:i<ms.length:=by simpa using h2
    simp[List.getD,NJ hi]
   rw[eb] at el;refine mL el ?_;have ea:(ms.map fun o=>anoB h w Ny z m o).all id=ms.all fun o=>anoB h w Ny z m o:=by rw[PZ];rfl
   rw[ea];unfold reaB at q
   cases hb:(ms.all fun o=>anoB h w Ny z m o) with
   | false=>
    rw[hb,NZ] at q;refine⟨false,rfl,?_⟩;symm;exact q _ s1
   | true=>
    rw[hb,N2] at q;refine⟨true,rfl,?_⟩;symm;exact sf (s1 _ _ hf) F (x.same s1) hC hml (s1 _ _ hA) (s1 _ _ hM) (fun H' s2=>q H' (s1.trans s2)) hcs
def Gs{k:RK}(h:goesB .reach k=true):sgnK k=true:=by cases k <;> first | rfl | cases h
theorem RR.len26{r:RR}(O:r.Ok h w g)(F:FlOk h w g):r.cs.length<=60:=by
 have m16:=F.m
 cases hk:allK r.k with
 | false=>
  obtain⟨c1,c2,c3,c4,e⟩:=O.cl.told hk;rw[e,NI];omega
 | true=>
  obtain⟨_,e⟩:=O.cl.all hk;rw[e,kZ];omega
def BX(p:Int->Int->Bool):Bool:=(List.range 7).all fun(h:Nat)=>(List.range 7).all fun(w:Nat)=>!(decide (1<=h)&&decide (1<=w)&&decide (h*w<=16))||p h w
def zY{p:Int->Int->Bool}(a:BX p=true){h w g:Int}(F:FlOk h w g):p h w=true:=by
 obtain⟨h0,h1,w0,w1,m16,g0,g1⟩:=F;obtain⟨n,rfl⟩:=PV (show 0<=h by omega);obtain⟨m,rfl⟩:=PV (show 0<=w by omega);have a1:=Oe.mp a n (N8.mpr #[0]);have a2:=Oe.mp a1 m (N8.mpr #[0]);have e1:1<=n:=by omega
 have e2:1<=m:=by omega
 have e3:n*m<=16:=by have:((n*m:Nat):Int)<=16:=by rw[Int.natCast_mul];exact m16
                     omega
 simpa [e1,e2,e3] using a2
def nearS(h w d r:Int):∅:=if (decide (0<=d)&&decide (d<h))&&(decide (0<=r)&&decide (r<w)) then [d*w+r] else []
def nearP(w c:Int):List (Int × Int):=[(c/w-1,c%w),(c/w,c%w-1),(c/w,c%w+1),(c/w+1,c%w)]
def nearL(h w c:Int):∅:=(nearP w c).flatMap fun p=>nearS h w p.1 p.2
def EQ:BX (fun h w=>(List.range (h*w).toNat).all fun(c:Nat)=>decide (nearL h w c=besL h w c)&&(besL h w c).all fun x=>decide (0<=x)&&decide (x<h*w))=true:=by decide+kernel
def xJ{c:Int}(F:FlOk h w g)(c0:0<=c)(c1:c<h*w):nearL h w c=besL h w c/\∀ x∈besL h w c,0<=x/\x<h*w:=by
 have t:=Oe.mp (zY EQ F) c.toNat (N8.mpr #[0]);have e1:((c.toNat:Nat):Int)=c:=by omega
 rw[e1,Om,NO,Oe] at t;refine⟨t.1,fun x hx=>?_⟩;have:=t.2 x hx
 simpa using this
def wp{c:Int}(F:FlOk h w g)(c0:0<=c)(c1:c<h*w)(hn:n=(h*w).toNat):aU (besL h w c) n:=by
 refine⟨NS (vY ..) #[1],fun x hx=>?_⟩;have:=(xJ F c0 c1).2 x hx;omega
def arL(h w o z:Int):∅:=(besL h w o).filter fun x=>!decide (x=z)
def oK(K:Frag):Sp:=fun vs H Q _=>∃ a h w g o z,vs=[.ref a,.int o,.int z]/\IsFl H a h w g/\FlOk h w g/\∀ l H',Same H H'->H l=none->H' l=↥((arL h w o z).map V.int)->Q (.ref l) H'
def tu(K:Frag):TS:=#[":jx&--2 wc,~uca0a1eh#1 mbAc121"]
def Gu(h:oK K vs H Q E):tu K (eD9 Q) (start ["floor","middle","cell"] vs) H:=by
 obtain⟨a,h,w,g,o,z,rfl,ha,F,q⟩:=h;have w0:=F.w0;have w1:=F.w1;ac_nf;unfold tu;rw[b5,bv];symm;refine⟨a,h,w,g,o,rfl,ha,by omega,by omega,fun l H1 s1 hl el=>?_⟩;have hb:=vY h w o;refine⟨l,rfl,⟨_,N5 el⟩,?_⟩;refine aT (xs:=besL h w o) (fun x=>!decide (x=z)) (fun x=>x) #[0] (N5 el) ?_ ?_ ?_
 . intro y H2 R hy s2 k2;show tTest _ [none,⇑y,⇑z] H2 R;symm;exact k2 _ (NK _)
 . intro y H2 Q2 hy hb s2 k2;show tVar 1 [none,⇑y,⇑z] H2 Q2;symm;exact k2 _ (NK _)
 . intro T H2 hT s2 eT;rw[Pa] at eT;exact q T H2 (s1.trans s2) (s1.free hT) eT
def mayN(Ny:∅)(m:Int)(cs:∅):Nat:=((sgAt Ny cs).filter fun k=>stB k m).length
def onlN(Ny:∅)(m:Int)(cs:∅):Nat:=((sgAt Ny cs).filter fun k=>decide (woI k m=0)).length
def turnB(h w m:Int)(Ny:∅)(z s:Int)(ms:∅):Bool:=
 if ms=[] then decide (s=m)&&(decide ((mayN Ny m (besL h w z):Int)<2)||decide ((2:Int) < (onlN Ny m (besL h w z):Int)))
 else decide (ms.length=1)&&(decide (ms.getD 0 0∈besL h w z)&&(decide (woI (Ny.getD (ms.getD 0 0).toNat 0) m=0)&&
  (if s=m then decide ((2:Int)<=(onlN Ny m (arL h w (ms.getD 0 0) z):Int)) else decide ((mayN Ny m (arL h w (ms.getD 0 0) z):Int)<2))))
def ky(K:Frag)(c:RCl RK):Sp:=fun vs H Q _=>∃ k f r p A M ws cs Ny ms n m z s h w g,vs=[.ref f,.ref r,.ref A,.int z,.int s,.ref M]/\IsFl H f h w g/\FlOk h w g/\IsRule H c k r p ws cs n m/\Ny.length=(h*w).toNat/\H A=↥(Ny.map V.int)/\H M=↥(ms.map V.int)/\m<=1000/\0<=z/\z<h*w/\∀ H',Same H H'->Q (.bl (turnB h w m Ny z s ms)) H'
def ik(K:Frag)(c:RCl RK):TS:=#[":gl,~rca2a,'Kca0abi5df#0 a3eeh#7 gnmbsc46jb),~Wca7a6edf#2 ojb<,~Vca7a6edf#2 "]
def im(K:Frag)(c:RCl RK):TS:=#[":gnQmbAcpya5edf#1 QmbKcMbi5df#0 ,~uca0a3eRz,~Tcabi2bi5df#0 a6ejdFBo{Uck"]
def kz(K:Frag)(c:RCl RK):TS:=#[":glDkL~E~Fck1eh#6 gnmbsc5vegl,~rca2a,~uca0a3eeh#7 jObsc46~Qb<,~Vca7a6edf#2 b>,~Wca7a6edf#2 o{Vck"]
def tw {f M:Addr} (hf:IsFl H f h w g) (F:FlOk h w g) (hml:Ny.length=(h*w).toNat) (hA:H A=↥(Ny.map V.int)) (hM:H M=↥(ms.map V.int)) (hl:ms.length=1) (hm:m<=1000) (z0:0<=z) (z1:z<h*w) (ho:ms.getD 0 0∈besL h w z)
  (q:∀ H',Same H H'->Q (.bl (if s=m then decide ((2:Int)<=(onlN Ny m (arL h w (ms.getD 0 0) z):Int)) else decide ((mayN Ny m (arL h w (ms.getD 0 0) z):Int)<2))) H'):
  ik K c (eD9 Q) [↑f,some v1,↑A,⇑z,⇑s,↑M,⇑m,none] H:=by
 have oin:=(xJ F z0 z1).2 _ ho;have bin:=wp (n:=Ny.length) F oin.1 oin.2 hml;have hin:aU (arL h w (ms.getD 0 0) z) Ny.length:=⟨NS (NX _ _) bin.1,fun x hx=>bin.2 x (Of.mp hx).1⟩;unfold ik;symm;refine ixI hM #[1] #[0] ?_;rw[show(0:Int).toNat=0 from rfl];symm;refine⟨f,h,w,g,_,z,rfl,hf,F,fun R H1 s1 hR eR=>?_⟩;symm;refine⟨A,R,Ny,_,rfl,s1 _ _ hA,eR,hin,fun B H3 s3 hB eB=>?_⟩;have NF:(sgAt Ny (arL h w (ms.getD 0 0) z)).length<=63:=by unfold sgAt;rw[NI];exact hin.1
 symm;rw[aC];symm;by_cases hs:s=m
 . rw[NP hs];rw[Oh hs] at q;symm;refine⟨B,_,_,rfl,eB,NF,by omega,fun H4 s4=>?_⟩;symm;exact q _ ((s1.trans s3).trans s4)
 . rw[NL hs];rw[Ob hs] at q;symm;refine⟨B,_,_,rfl,eB,NF,fun H4 s4=>?_⟩;symm;exact q _ ((s1.trans s3).trans s4)
theorem tz {f M:Addr} (hf:IsFl H f h w g) (F:FlOk h w g) (hml:Ny.length=(h*w).toNat) (hA:H A=↥(Ny.map V.int)) (hM:H M=↥(ms.map V.int)) (hm:m<=1000) (z0:0<=z) (z1:z<h*w)
  (q:∀ H',Same H H'->Q (.bl (decide (ms.length=1)&&(decide (ms.getD 0 0∈besL h w z)&&(decide (woI (Ny.getD (ms.getD 0 0).toNat 0) m=0)&&(if s=m then decide ((2:Int)<=(onlN Ny m (arL h w (ms.getD 0 0) z):Int)) else decide ((mayN Ny m (arL h w (ms.getD 0 0) z):Int)<2)))))) H'):
  im K c (eD9 Q) [↑f,some v1,↑A,⇑z,⇑s,↑M,⇑m,none] H:=by
 have w0:=F.w0;have w1:=F.w1;unfold im;rw[az,aC];symm;rw[aS hM,NI];symm
 have e1:decide ((ms.length:Int)=1)=decide (ms.length=1):=by
  rw[Oi,NO,NO];omega
 rw[e1]
 cases hb:decide (ms.length=1) with
 | false=>
  rw[hb,NZ] at q;symm;exact q _ (NK _)
 | true=>
  rw[hb,N2] at q;have hl:=Oy hb;symm;refine ixI hM #[1] #[0] ?_;rw[show(0:Int).toNat=0 from rfl];symm;refine⟨f,h,w,g,z,rfl,hf,by omega,by omega,fun R H1 s1 hR eR=>?_⟩;dsimp only;rw[jV eR]
  cases hb2:decide (ms.getD 0 0∈besL h w z) with
  | false=>
   rw[hb2,NZ] at q;refine⟨true,rfl,iteT ?_⟩;symm;exact q _ s1
  | true=>
   rw[hb2,N2] at q;have ho:=Oy hb2;have oin:=(xJ F z0 z1).2 _ ho;refine⟨false,rfl,iteF ?_⟩;symm;refine ixI (s1 _ _ hM) #[1] #[0] ?_;rw[show(0:Int).toNat=0 from rfl];symm;refine ixI (s1 _ _ hA) #[0] #[0] ?_;symm;refine⟨_,m,rfl,by omega,?_⟩
   cases hb3:decide (woI (Ny.getD (ms.getD 0 0).toNat 0) m=0) with
   | false=>
    rw[hb3,NZ] at q;refine⟨false,rfl,iteT ?_⟩;symm;exact q _ s1
   | true=>
    rw[hb3,N2] at q;refine⟨true,rfl,iteF ?_⟩;exact tw (s1 _ _ hf) F hml (s1 _ _ hA) (s1 _ _ hM) hl hm z0 z1 ho fun H' s2=>q H' (s1.trans s2)
def xK(h:ky K c vs H Q E):kz K c (eD9 Q) (start ["floor","rule","masks","cell","sign","more","mark","some"] vs) H:=by
 obtain⟨k,f,r,p,A,M,ws,cs,Ny,ms,n,m,z,s,h,w,g,rfl,hf,F,x,hml,hA,hM,hm,z0,z1,q⟩:=h;obtain⟨dx,W,C,h1,h2,h3⟩:=x.ex;have w0:=F.w0;have w1:=F.w1;ac_nf;unfold kz;rw[az,bK];refine methE (k:=k) rfl x.ok h1 (by rfl) ?_;symm;refine⟨r,p,ws,cs,n,m,rfl,x,?_⟩;symm;rw[aC];symm;refine⟨aW #[1],fun Z hZ=>?_⟩;obtain⟨H1,z9,s1,eZ⟩:∃ z,upd H Z (.lst [])=z/\Same H z/\z Z=↥(([]:∅).map V.int):=a9 _ hZ;rw[z9];refine lL (s1 _ _ hM) eZ ?_;unfold turnB at q;by_cases hms:ms=[]
 . rw[Oh hms] at q;rw[NP hms];refine⟨true,rfl,?_⟩;symm;refine⟨f,h,w,g,z,rfl,s1 _ _ hf,by omega,by omega,fun R H2 s2 hR eR=>?_⟩;have bin:=wp (n:=Ny.length) F z0 z1 hml;symm;refine⟨A,R,Ny,_,rfl,(s1.trans s2) _ _ hA,eR,bin,fun B H3 s3 hB eB=>?_⟩;have NF:(sgAt Ny (besL h w z)).length<=63:=by unfold sgAt;rw[NI];exact bin.1
   have s13:=(s1.trans s2).trans s3;symm
   cases hb:decide (s=m) with
   | false=>
    rw[hb,NZ] at q;symm;exact q _ s13
   | true=>
    rw[hb,N2] at q;symm;refine⟨B,_,_,rfl,eB,NF,fun H4 s4=>?_⟩;symm;have e1:decide ((((sgAt Ny (besL h w z)).filter fun k=>stB k m).length:Int)<2)=decide ((mayN Ny m (besL h w z):Int)<2):=rfl;rw[e1]
    cases hb2:decide ((mayN Ny m (besL h w z):Int)<2) with
    | true=>
     rw[hb2,Qn] at q;symm;exact q _ (s13.trans s4)
    | false=>
     rw[hb2,Ph] at q;symm;refine⟨B,_,_,rfl,s4 _ _ eB,NF,by omega,fun H5 s5=>?_⟩;symm;exact q _ ((s13.trans s4).trans s5)
 . rw[Ob hms] at q;rw[NL hms];refine⟨false,rfl,?_⟩;symm;exact tz (s1 _ _ hf) F hml (s1 _ _ hA) (s1 _ _ hM) hm z0 z1 fun H' s2=>q H' (s1.trans s2)
def rm(t:TK):decide (tkC t=[114,101,97,99,104])=decide (t=.reach):=by cases t <;> decide
def Gv{k:RK}(h:goesB .turn k=true):sgnK k=true:=by cases k <;> first | rfl | cases h
noncomputable def Gw (h w:Int) (t:TK) (x:RR) (Ny:∅) (z s:Int) (ms:∅):Bool:=match t with
 | .square=>squB h w x.m Ny z s ms
 | .reach=>reaB h w x.cs x.m Ny z s ms
 | _=>turnB h w x.m Ny z s ms
noncomputable def nN (h w:Int) (NA:List RR) (Ny:∅) (t:TK) (r z s:Int) (ms:∅):Bool:=match NA[r.toNat]? with
 | none=>false
 | some x=>Gw h w t x Ny z s ms
abbrev ER(t:TK):Prop:=t=.square\/t=.reach\/t=.turn
def fF(K:Frag)(c:RCl RK)(d:RCl PzK):Sp:=fun vs H Q _=>∃ P L G A T M h w g NA cl Ny t r z s ms,vs=[.ref P,.ref A,.ref T]/\Asks H c d P L G A T M h w g NA cl Ny t r z s ms/\ER t/\formB h w g NA t r z s=true/\∀ H',Same H H'->Q (.bl (nN h w NA Ny t r z s ms)) H'
def fG(K:Frag)(c:RCl RK)(d:RCl PzK):TS:=#[":glDu*~R~Scku0eh#3 glbiDu*~p~qcku0ebi2df#1 h#4 gnmbscbi2df#0 dqr`0j,{Wcka3a4a1abi2df#2 abi2df#3 abi2df#4 eognmbscbi2df#0 dqr`1j,{Xcka3a4a1abi2df#2 abi2df#3 abi2df#4 eoj,{Ycka3a4a1abi2df#2 abi2df#3 abi2df#4 e",[115,113,117,97,114,101],[114,101,97,99,104]]
variable{d:RCl PzK}
def pI(h:fF K c d vs H Q E):fG K c d (eD9 Q) (start ["puzzle","masks","thought","floor","rule"] vs) H:=by
 obtain⟨P,L,G,A,T,M,h,w,g,NA,cl,Ny,t,r,z,s,ms,rfl,X,ht,f,q⟩:=h;obtain⟨dx,p,rs,h1,h2,h3⟩:=X.P.ex;obtain⟨z0,z1,s0,s1',NH⟩:=oG f;have hg:=X.P.R.F.g1;have hnc:t≠.clue:=by rcases ht with rfl | rfl | rfl <;> decide
 obtain⟨r0,y,ey,hgo,hz⟩:=uM hnc NH;have O:=X.P.R.ok y (NV ey)
 have q2:∀ H',Same H H'->Q (.bl (Gw h w t y Ny z s ms)) H':=fun H' s'=>by
  have q1:=q H' s';unfold nN at q1;rw[ey] at q1;exact q1
 ac_nf;unfold fG;rw[az,bK];refine methE (k:=.Puzzle) rfl X.P.ok h1 (by rfl) ?_;symm;refine⟨P,L,G,h,w,g,NA,cl,rfl,X.P,fun p3 hp3=>?_⟩;symm;refine methE (k:=.Puzzle) rfl X.P.ok h1 (by rfl) ?_;symm;refine⟨P,L,G,h,w,g,NA,cl,rfl,X.P,fun l p2 rs2 hl hp2 Y=>?_⟩;have s2:Same H (upd H l (.lst (rs2.map V.ref))):=(NK H).laid hl;generalize upd H l (.lst (rs2.map V.ref))=H1 at*;have hlt:=(NR.mp ey).1;have NF:=Y.len;have ea:rs2[r.toNat]? =some rs2[r.toNat]:=NJ #[0];dsimp only;refine ixT (s2 _ _ X.T.T) (v:=V.int r) rfl ?_;refine ixL Y.top (jk r0 ea) ?_;symm;rw[aC];symm;refine ixT (s2 _ _ X.T.T) (v:=V.str (tx (tkC t))) rfl ?_;symm;rw[ba,zV];rcases ht with rfl | rfl | rfl
 . rw[NP rfl];refine iteT ?_;symm;refine ixT (s2 _ _ X.T.T) (v:=V.int z) rfl ?_;symm;refine ixT (s2 _ _ X.T.T) (v:=V.int s) rfl ?_;symm;refine ixT (s2 _ _ X.T.T) (v:=V.ref M) rfl ?_;symm;exact⟨_,p3,_,p2,A,M,_,y.cs,Ny,ms,_,_,z,s,h,w,g,rfl,s2 _ _ hp3,X.P.R.F,Y.at_ _ _ _ ea ey,X.n,s2 _ _ X.A,s2 _ _ X.T.M,by omega,fun H' s3=>q2 H' (s2.trans s3)⟩
 . have ym:=(O.m0 (Gs hgo)).2;rw[NL (show ¬ TK.reach=TK.square by decide)];refine iteF ?_;rw[aC];symm;refine ixT (s2 _ _ X.T.T) (v:=V.str (tx (tkC .reach))) rfl ?_;symm;rw[ba,rm,NP rfl];refine iteT ?_;symm;refine ixT (s2 _ _ X.T.T) (v:=V.int z) rfl ?_;symm;refine ixT (s2 _ _ X.T.T) (v:=V.int s) rfl ?_;symm;refine ixT (s2 _ _ X.T.T) (v:=V.ref M) rfl ?_;symm;have hin:aU y.cs Ny.length:=by rw[X.n];exact Rq O X.P.R.F
   exact⟨_,p3,_,p2,A,M,_,y.cs,Ny,ms,_,_,z,s,h,w,g,rfl,s2 _ _ hp3,X.P.R.F,Y.at_ _ _ _ ea ey,hin,RR.len26 O X.P.R.F,X.n,s2 _ _ X.A,s2 _ _ X.T.M,X.T.n,by omega,fun H' s3=>q2 H' (s2.trans s3)⟩
 . have ym:=(O.m0 (Gv hgo)).2;rw[NL (show ¬ TK.turn=TK.square by decide)];refine iteF ?_;rw[aC];symm;refine ixT (s2 _ _ X.T.T) (v:=V.str (tx (tkC .turn))) rfl ?_;symm;rw[ba,rm,NL (show ¬ TK.turn=TK.reach by decide)];refine iteF ?_;symm;refine ixT (s2 _ _ X.T.T) (v:=V.int z) rfl ?_;symm;refine ixT (s2 _ _ X.T.T) (v:=V.int s) rfl ?_;symm;refine ixT (s2 _ _ X.T.T) (v:=V.ref M) rfl ?_;symm;exact⟨_,p3,_,p2,A,M,_,y.cs,Ny,ms,_,_,z,s,h,w,g,rfl,s2 _ _ hp3,X.P.R.F,Y.at_ _ _ _ ea ey,X.n,s2 _ _ X.A,s2 _ _ X.T.M,by omega,z0,z1,fun H' s3=>q2 H' (s2.trans s3)⟩
theorem zZ:∀(rs:List (List Nat)),(∀ r∈rs,r.length<=2)->(catL 32 rs).length<=3*rs.length
 | [],_=>by simp[catL]
 | [x],h=>by have:=h x Oc;simp[catL];omega
 | x::y::r,h=>by
  rw[fC (by simp)];have h1:=h x Oc;have h2:=zZ (y::r) fun z hz=>h z (N3 _ hz);simp only[N0,Oq] at*;omega
def lP{cs:List Nat}(h:cs.length<=16):(catL 32 (cs.map numC)).length<=48:=by
 have:=zZ (cs.map numC) fun r hr=>by obtain⟨x,_,rfl⟩:=N9.mp hr;exact gH
 rw[NI] at this;omega
def ES{k:RK}{m:Nat}{ns:List Nat}(F:FlOk h w g)(ne:ns≠[])(lt:∀ c∈ns,(c:Int)<h*w)(nd:ns.Nodup)(len:ns.length<=16)(hk:allK k=false)(k0:k≠.Rule)(n0:n<=99)(nz:numK k=false->n=0)(m0:sgnK k=true->1<=(m:Int)/\(m:Int)<=g)(mz:sgnK k=false->m=0):
  RR.Ok ⟨k,n,m,ns,ns.map fun(n:Nat)=>(n:Int)⟩ h w g:=by
 have m16:=F.m;refine⟨k0,n0,nz,m0,mz,⟨fun _=>⟨ne,len,lt,nd,rfl⟩,fun e=>?_⟩,fun x hx=>?_,len⟩
 . rw[show allK k=false from hk] at e;cases e
 . have:=lt x hx;omega
def strL{a b:List Nat}(h1:a.length<=400)(h2:b.length<=400)(q:Q (.str (tx (a++b))) H):cAdd (.str (tx a)) (.str (tx b)) H Q:=by
 rw[cf,nh];exact⟨by rw[ga,ga];exact aW #[0],q⟩
def io(K:Frag):Sp:=fun vs H Q _=>∃ p h w g c,vs=[.ref p,.int c]/\IsFl H p h w g/\FlOk h w g/\∀ l H',Same H H'->H l=none->H' l=↥((nearL h w c).map V.int)->Q (.ref l) H'
def tnear(K:Frag):TS:=#[":nSm'L(<df#0 5bi0df#0 m'L(<df#0 6bi0df#1 NEcGW4abtbX5bi0df#1 6eo"]
def nO(K:Frag):TS:=#[":glp{Za1abi0df#1 e~Hc#2 +h#2 +h#3 ~Iglveh#4 gIwcvaTabH2df#1 a3eaTa2abH3df#1 eaTa2abt3df#1 eaTabt2df#1 a3ee~Hc#2 +h#5 +h#6 ~I{*cj4"]
def oM {D:Ends} {L t:Addr} {d r:Int} {found:∅} {v1 v2 v3 v5 v6:Option V} (hp:IsFl H p h w g) (w1:w<=6) (w0:1<=w) (et:H t=some (.tup [.int d,.int r])) (eL:H L=↥(found.map V.int)) (hn:found.length<=100)
  (k:∀ H',H' L=↥((found++nearS h w d r).map V.int)->(∀ b,b≠L->H' b=H b)->D.nx [↑p,v1,v2,v3,↑L,⇑d,⇑r] H'):
  gTup K 2 (gCons (gName 5) (gCons (gName 6) gNil)) (V.ref t) [↑p,v1,v2,v3,↑L,v5,v6] H fun σ2 H2=>tnear K D σ2 H2:=by
 refine Br et rfl ?_;rw[Bs];show tnear K D [↑p,v1,v2,v3,↑L,⇑d,⇑r] H;unfold tnear;refine sN (b:=(decide (0<=d)&&decide (d<h))&&(decide (0<=r)&&decide (r<w))) (v:=d*w+r) (l:=L) (i:=4) rfl ?_ eL #[0] ?_ ?_
 . intro R hR;unfold wQ;symm
   cases hb:decide (0<=d) with
   | false=>
    rw[hb,NZ,NZ] at hR;symm;exact hR
   | true=>
    rw[hb,N2] at hR;symm;refine ixT hp (v:=V.int h) rfl ?_;symm
    cases hb2:decide (d<h) with
    | false=>
     rw[hb2,NZ] at hR;symm;exact hR
    | true=>
     rw[hb2,N2] at hR;symm
     cases hb3:decide (0<=r) with
     | false=>
      rw[hb3,NZ] at hR;symm;exact hR
     | true=>
      rw[hb3,N2] at hR;symm;refine ixT hp (v:=V.int w) rfl ?_;symm;exact hR
 . intro Q hQ;symm;refine ixT hp (v:=V.int w) rfl ?_;symm;exact⟨.inr ⟨by omega,by omega⟩,hQ⟩
 . intro H' e1 e2;refine k H' ?_ e2;rw[e1];rfl
def rn(h w c:Int){i:Nat}{d r:Int}(hi:(nearP w c)[i]? =some (d,r)):((nearP w c).take (i+1)).flatMap (fun p=>nearS h w p.1 p.2)=((nearP w c).take i).flatMap (fun p=>nearS h w p.1 p.2)++nearS h w d r:=by
 rw[List.take_add_one,hi,QM];simp
def BY(h:io K vs H Q E):nO K (eD9 Q) (start ["_law_floor_here","_law_cell","_law_row","_law_column","_law_found","_law_down","_law_right"] vs) H:=by
 obtain⟨p,h,w,g,c,rfl,hp,F,q⟩:=h;obtain⟨h0,h1,w0,w1,m16,g0,g1⟩:=id F;ac_nf;unfold nO;symm;refine ixT hp (v:=V.int w) rfl ?_;symm;rw[Hj];refine⟨⟨by omega,by omega⟩,fun T hT=>?_⟩;obtain⟨H1,z9,s1,eT⟩:=a9 (.tup [.int (c/w),.int (c%w)]) hT;rw[z9];refine Br eT rfl ?_;rw[Bs];symm;refine⟨aW #[1],fun L hL=>?_⟩;have eL:(upd H1 L (.lst [])) L=↥(([]:∅).map V.int):=ao;have sL:Same H1 (upd H1 L (.lst [])):=(NK H1).laid hL;generalize upd H1 L (.lst [])=H2 at*;refine⟨lnR rfl,fun t1 i1=>?_⟩;obtain⟨H3,z9,k1,e1⟩:=a9 (.tup [V.int (c/w-1),V.int (c%w)]) i1;rw[z9];refine⟨lnR rfl,fun t2 i2=>?_⟩;obtain⟨H4,z9,k2,e2⟩:=a9 (.tup [V.int (c/w),V.int (c%w-1)]) i2;rw[z9];refine⟨lnR rfl,fun t3 i3=>?_⟩;obtain⟨H5,z9,k3,e3⟩:=a9 (.tup [V.int (c/w),V.int (c%w+1)]) i3;rw[z9];refine⟨lnR rfl,fun t4 i4=>?_⟩;obtain⟨H6,z9,k4,e4⟩:=a9 (.tup [V.int (c/w+1),V.int (c%w)]) i4;rw[z9];refine⟨lnR rfl,fun U iU=>?_⟩;obtain⟨H7,z9,k5,eU⟩:=a9 (.lst [V.ref t1,V.ref t2,V.ref t3,V.ref t4]) iU;rw[z9];have f1:=k5 _ _ (k4 _ _ (k3 _ _ (k2 _ _ e1)));have f2:=k5 _ _ (k4 _ _ (k3 _ _ e2));have f3:=k5 _ _ (k4 _ _ e3);have f4:=k5 _ _ e4;have k26:=((k1.trans k2).trans k3).trans k4;have fL:=(k26.trans k5) _ _ eL;have hpL:p≠L:=fun e=>by have:=s1 _ _ hp;rw[e,hL] at this;cases this
 have n1:t1≠L:=fun e=>by rw[e,eL] at i1;cases i1
 have n2:t2≠L:=fun e=>by rw[e,k1 _ _ eL] at i2;cases i2
 have n3:t3≠L:=fun e=>by rw[e,(k1.trans k2) _ _ eL] at i3;cases i3
 have n4:t4≠L:=fun e=>by rw[e,((k1.trans k2).trans k3) _ _ eL] at i4;cases i4
 have nU:U≠L:=fun e=>by rw[e,k26 _ _ eL] at iU;cases iU
 have fp:=(k26.trans k5) _ _ (sL _ _ (s1 _ _ hp));have s17:=(sL.trans k26).trans k5;refine⟨⟨_,N5 eU⟩,?_⟩;refine b7 (K:=K) (xs:=[V.ref t1,V.ref t2,V.ref t3,V.ref t4]) (fun i σ H'=>∃(v5 v6:Option V),σ=[↑p,⇑c,⇑(c/w),⇑(c%w),↑L,v5,v6]/\(∀ b,b≠L->H' b=H7 b)/\H' L=↥((((nearP w c).take i).flatMap fun p=>nearS h w p.1 p.2).map V.int)) ⟨none,none,rfl,fun _ _=>rfl,fL⟩ (fun i σ H' _ ⟨_,_,_,hk,_⟩=>N5 (by rw[hk U nU];exact eU)) ?_ ?_
 . rintro i v σ H8 hv ⟨v5,v6,rfl,hk,e8⟩
   have hnl:((((nearP w c).take i).flatMap fun p=>nearS h w p.1 p.2)).length<=100:=by
    have:∀(ps:List (Int × Int)),(ps.flatMap fun p=>nearS h w p.1 p.2).length<=ps.length:=fun ps=>by
     induction ps with
     | nil=>exact NU _
     | cons a r ih=>
      rw[List.flatMap_cons,N0,Oq];have:(nearS h w a.1 a.2).length<=1:=by unfold nearS;split <;> simp
      omega
    have:=this ((nearP w c).take i);rw[OP] at this;have:(nearP w c).length=4:=rfl;omega
   have fp8:IsFl H8 p h w g:=by unfold IsFl;rw[hk p hpL];exact fp
   match i,hv,e8,hnl with
   | 0,hv,e8,hnl=>
    cases hv;exact oM fp8 w1 w0 (by rw[hk _ n1];exact f1) e8 hnl fun H' a1 a2=>⟨_,_,rfl,fun b hb=>(a2 b hb).trans (hk b hb),by rw[a1,rn h w c (i:=0) rfl]⟩
   | 1,hv,e8,hnl=>
    cases hv;exact oM fp8 w1 w0 (by rw[hk _ n2];exact f2) e8 hnl fun H' a1 a2=>⟨_,_,rfl,fun b hb=>(a2 b hb).trans (hk b hb),by rw[a1,rn h w c (i:=1) rfl]⟩
   | 2,hv,e8,hnl=>
    cases hv;exact oM fp8 w1 w0 (by rw[hk _ n3];exact f3) e8 hnl fun H' a1 a2=>⟨_,_,rfl,fun b hb=>(a2 b hb).trans (hk b hb),by rw[a1,rn h w c (i:=2) rfl]⟩
   | 3,hv,e8,hnl=>
    cases hv;exact oM fp8 w1 w0 (by rw[hk _ n4];exact f4) e8 hnl fun H' a1 a2=>⟨_,_,rfl,fun b hb=>(a2 b hb).trans (hk b hb),by rw[a1,rn h w c (i:=3) rfl]⟩
   | n+4,hv,_,_=>cases hv
 . rintro σ H8 ⟨v5,v6,rfl,hk,e8⟩;symm;refine q L H8 (fun b o e=>?_) (s1.free hL) e8;have hb:b≠L:=fun e'=>by rw[e'] at e;rw[s1 _ _ e] at hL;cases hL
   rw[hk b hb];exact s17 _ _ (s1 _ _ e)
def DZ(t:TK):decide (tkC t=[112,97,105,114])=decide (t=.pair):=by cases t <;> decide
abbrev allL(h w z:Int):∅:=((List.range (h*w).toNat).filter fun(i:Nat)=>!decide ((i:Int)=z)).map fun(i:Nat)=>(i:Int)
def RestP(Q:VK)(H:Hp)(rl:∅):Prop:=∀(l:Addr) (H':Hp) (xs:∅),Same H H'->H l=none->H' l=↥(xs.map V.int)->xs.Perm rl->xs.Pairwise (· <=·)->Q (.ref l) H'
def ip{H1:Hp}{ns rl:∅}(s1:Same H H1)(hp:H1 p=↥(ns.map V.int))(hn:ns.length<64)(pm:ns.Perm rl)(q:RestP Q H rl):cL [.ref p] H1 Q:=
 G5 hp hn fun ns' l hl pp sr=>q l _ ns' (s1.trans ((NK H1).laid hl)) (s1.free hl) ao (pp.trans pm) sr
def z4(h w c z:Int):(rosL h w c z).length<=4:=by
 unfold rosL
 split
 . exact Ox _
 . rename_i q hq
   obtain⟨i,_,_,e⟩:=y8 (QZ hq);refine NS (NX _ _) ?_;rw[e];exact NU 4
def tD(h w c:Int):(besL h w c).length<=4:=by
 unfold besL
 split <;> split <;> split <;> split <;> simp
def ET{c:Int}(w0:1<=w):(besL h w c).Pairwise (· <=·):=by
 unfold besL
 split <;> split <;> split <;> split <;> simp <;> omega
def EU(h w z:Int):(allL h w z).Pairwise (· <=·):=by
 unfold allL;rw[Ra];refine List.Pairwise.imp ?_ (Qq.filter _);intro a b hab;omega
noncomputable def Gx (h w:Int) (x:RR) (Ny:∅) (t:TK) (z s:Int) (ms:∅):Bool:=match t with
 | .count=>cntB x.cs x.n x.m Ny z s ms
 | .sum=>sumB x.cs x.n Ny z s ms
 | .step=>stepB x.cs Ny z s ms
 | _=>waysB x.k h w x.cs x.n x.m Ny z s ms
noncomputable def tE (h w:Int) (NA:List RR) (Ny:∅) (t:TK) (r z s:Int) (ms:∅):Bool:=match NA[r.toNat]? with
  | none=>false
  | some x=>Gx h w x Ny t z s ms
def fH(K:Frag)(c:RCl RK)(d:RCl PzK):Sp:=fun vs H Q _=>∃ P L G A T M h w g NA cl Ny t r z s ms,vs=[.ref P,.ref A,.ref T]/\Asks H c d P L G A T M h w g NA cl Ny t r z s ms/\(t=.count\/t=.sum\/t=.ways)/\(∀ m∈Ny,0<=m/\m<64)/\formB h w g NA t r z s=true/\∀ H',Same H H'->Q (.bl (tE h w NA Ny t r z s ms)) H'
def fI(K:Frag)(c:RCl RK)(d:RCl PzK):TS:=#[":glbiDu*~p~qcku0ebi2df#1 h#3 gnmbscbi2df#0 dqr`0j,{+cka3a1abi2df#2 abi2df#3 abi2df#4 eognmbscbi2df#0 dqr`1j,{-cka3a1abi2df#2 abi2df#3 abi2df#4 eoj,{/cka3a1abi2df#2 abi2df#3 abi2df#4 e",[99,111,117,110,116],[115,117,109]]
def pJ(h:fH K c d vs H Q E):fI K c d (eD9 Q) (start ["puzzle","masks","thought","rule"] vs) H:=by
 obtain⟨P,L,G,A,T,M,h,w,g,NA,cl,Ny,t,r,z,s,ms,rfl,X,ht,mo,f,q⟩:=h;obtain⟨dx,p,rs,h1,h2,h3⟩:=X.P.ex;obtain⟨z0,z1,s0,s1',NH⟩:=oG f;have hg:=X.P.R.F.g1;have hmm:=X.P.R.F.m;obtain⟨r0,y,ey,hgo,hz⟩:=uM (by rcases ht with rfl | rfl | rfl <;> decide) NH;have O:=X.P.R.ok y (NV ey);have hin:aU y.cs Ny.length:=by rw[X.n];exact Rq O X.P.R.F
 ac_nf;unfold fI;rw[az,bK,e9];refine methE (k:=.Puzzle) rfl X.P.ok h1 (by rfl) ?_;symm;refine⟨P,L,G,h,w,g,NA,cl,rfl,X.P,fun l p2 rs2 hl hp2 Y=>?_⟩;have s2:Same H (upd H l (.lst (rs2.map V.ref))):=(NK H).laid hl;generalize upd H l (.lst (rs2.map V.ref))=H1 at*;have hlt:=(NR.mp ey).1;have NF:=Y.len;have ea:rs2[r.toNat]? =some rs2[r.toNat]:=NJ #[0]
 have fin:∀ H',Same H1 H'->Q (.bl (Gx h w y Ny t z s ms)) H':=fun H' s3=>by
  have q1:=q H' (s2.trans s3);unfold tE at q1;rw[ey] at q1;exact q1
 dsimp only;refine ixT (s2 _ _ X.T.T) (v:=V.int r) rfl ?_;refine ixL Y.top (jk r0 ea) ?_;symm;rw[aC];symm;refine ixT (s2 _ _ X.T.T) (v:=V.str (tx (tkC t))) rfl ?_;symm;rw[ba,Hk];rcases ht with rfl | rfl | rfl
 . rw[NP rfl];refine iteT ?_;symm;refine ixT (s2 _ _ X.T.T) (v:=V.int z) rfl ?_;symm;refine ixT (s2 _ _ X.T.T) (v:=V.int s) rfl ?_;symm;refine ixT (s2 _ _ X.T.T) (v:=V.ref M) rfl ?_;symm;exact⟨_,_,p2,A,M,_,y.cs,Ny,ms,_,_,z,s,rfl,Y.at_ _ _ _ ea ey,hin,s2 _ _ X.A,s2 _ _ X.T.M,by omega,fin⟩
 . rw[NL #[1]];refine iteF ?_;rw[aC];symm;refine ixT (s2 _ _ X.T.T) (v:=V.str (tx (tkC .sum))) rfl ?_;symm;rw[ba,Gk,NP rfl];refine iteT ?_;symm;refine ixT (s2 _ _ X.T.T) (v:=V.int z) rfl ?_;symm;refine ixT (s2 _ _ X.T.T) (v:=V.int s) rfl ?_;symm;refine ixT (s2 _ _ X.T.T) (v:=V.ref M) rfl ?_;symm;exact⟨_,_,p2,A,M,_,y.cs,Ny,ms,_,_,z,s,rfl,Y.at_ _ _ _ ea ey,hin,mo,s2 _ _ X.A,s2 _ _ X.T.M,fin⟩
 . rw[NL #[1]];refine iteF ?_;rw[aC];symm;refine ixT (s2 _ _ X.T.T) (v:=V.str (tx (tkC .ways))) rfl ?_;symm;rw[ba,Gk,NL #[1]];refine iteF ?_;symm;refine ixT (s2 _ _ X.T.T) (v:=V.int z) rfl ?_;symm;refine ixT (s2 _ _ X.T.T) (v:=V.int s) rfl ?_;symm;refine ixT (s2 _ _ X.T.T) (v:=V.ref M) rfl ?_;symm;exact⟨_,_,p2,A,M,_,y.cs,Ny,ms,_,_,z,s,h,w,g,rfl,Y.at_ _ _ _ ea ey,hp2,X.P.R.F,hin,by rw[X.n];omega,mo,by omega,by omega,s2 _ _ X.A,s2 _ _ X.T.M,fin⟩
def gu(K:Frag)(c:RCl RK)(d:RCl PzK):Sp:=fun vs H Q _=>∃ P L G T M h w g NA cl t r z s ms y,vs=[.ref P,.ref T]/\IsPz H c d P L G h w g NA cl/\IsTh H T M t r z s ms/\0<=r/\NA[r.toNat]? =some y/\RestP Q H (othL y.cs z)
def gx(K:Frag)(c:RCl RK)(d:RCl PzK):TS:=#[":jp?a,;ckabiDu*~p~qcku0ebi1df#1 abi1df#2 ee"]
def rp(h:gu K c d vs H Q E):gx K c d (eD9 Q) (start ["puzzle","thought"] vs) H:=by
 obtain⟨P,L,G,T,M,h,w,g,NA,cl,t,r,z,s,ms,y,rfl,X,Th,r0,ey,q⟩:=h;obtain⟨dx,p,rs,h1,h2,h3⟩:=X.ex;have O:=X.R.ok y (NV ey);have hin:=Rq O X.R.F;have hmm:=X.R.F.m;have hcl:y.cs.length<=63:=by have:=hin.1;omega
 ac_nf;unfold gx;rw[b5,f9,bM,cc,bM,e9];refine methE (k:=.Puzzle) rfl X.ok h1 (by rfl) ?_;symm;refine⟨P,L,G,h,w,g,NA,cl,rfl,X,fun l p2 rs2 hl hp2 Y=>?_⟩;have s2:Same H (upd H l (.lst (rs2.map V.ref))):=(NK H).laid hl;generalize upd H l (.lst (rs2.map V.ref))=H1 at*;have hlt:=(NR.mp ey).1;have NF:=Y.len;have ea:rs2[r.toNat]? =some rs2[r.toNat]:=NJ #[0];dsimp only;refine ixT (s2 _ _ Th.T) (v:=V.int r) rfl ?_;refine ixL Y.top (jk r0 ea) ?_;symm;refine ixT (s2 _ _ Th.T) (v:=V.int z) rfl ?_;symm;refine⟨_,_,p2,_,y.cs,_,_,z,rfl,Y.at_ _ _ _ ea ey,hcl,fun l2 H3 s3 hl2 e2=>?_⟩;symm;exact ip (s2.trans s3) e2 (by have:=NX (fun x=>!decide (x=z)) y.cs;have:=hin.1;omega) (.refl _) q
def tF(K:Frag)(c:RCl RK)(d:RCl PzK):Sp:=fun vs H Q _=>∃ P L G T M h w g NA cl r z s ms y,vs=[.ref P,.ref T]/\IsPz H c d P L G h w g NA cl/\IsTh H T M .step r z s ms/\0<=r/\NA[r.toNat]? =some y/\z∈y.cs/\RestP Q H (ahdL y.cs z++behL y.cs z)
def iq(K:Frag)(c:RCl RK)(d:RCl PzK):TS:=#[":glbi1df#0 h#2 gnmbsc2dqr`0jveognQmbsc2dqr`1mbsc2dqr`2jp?abi1df#4 eoglbiDu*~p~qcku0ebi1df#1 h#3 gnmbsc2dqr`3jp?a,;cka3abi1df#2 eeojp?abt,'acka3abi1df#2 e,'bcka3abi1df#2 ee",[99,108,117,101],[111,110,108,121],[112,97,105,114],[112,108,97,99,101]]
def Ea(cs:∅)(z:Int):(ahdL cs z).length<=1/\(behL cs z).length<=1:=by
 unfold ahdL behL;constructor <;> split <;> simp
def tG(h:tF K c d vs H Q E):iq K c d (eD9 Q) (start ["puzzle","thought","kind","rule"] vs) H:=by
 obtain⟨P,L,G,T,M,h,w,g,NA,cl,r,z,s,ms,y,rfl,X,Th,r0,ey,hz,q⟩:=h;obtain⟨dx,p,rs,h1,h2,h3⟩:=X.ex;have O:=X.R.ok y (NV ey);have hin:=Rq O X.R.F;have hmm:=X.R.F.m;have hcl:y.cs.length<=63:=by have:=hin.1;omega
 have ab:=Ea y.cs z;ac_nf;unfold iq;symm;refine ixT Th.T (v:=V.str (tx (tkC .step))) rfl ?_;symm;rw[aC];symm;rw[ba,uL,NL (show ¬ TK.step=TK.clue by decide)];refine iteF ?_;rw[aC];symm;rw[ba,y7,NL (show ¬ TK.step=TK.only by decide)];refine iteF ?_;rw[ba,DZ,NL (show ¬ TK.step=TK.pair by decide)];refine iteF ?_;refine methE (k:=.Puzzle) rfl X.ok h1 (by rfl) ?_;symm;refine⟨P,L,G,h,w,g,NA,cl,rfl,X,fun l p2 rs2 hl hp2 Y=>?_⟩;have s2:Same H (upd H l (.lst (rs2.map V.ref))):=(NK H).laid hl;generalize upd H l (.lst (rs2.map V.ref))=H1 at*;have hlt:=(NR.mp ey).1;have NF:=Y.len;have ea:rs2[r.toNat]? =some rs2[r.toNat]:=NJ #[0];dsimp only;refine ixT (s2 _ _ Th.T) (v:=V.int r) rfl ?_;refine ixL Y.top (jk r0 ea) ?_;symm;rw[aC];symm;rw[ba,EJ,NL (show ¬ TK.step=TK.place by decide)];refine iteF ?_;symm;refine ixT (s2 _ _ Th.T) (v:=V.int z) rfl ?_;symm;refine⟨_,_,p2,_,y.cs,_,_,z,rfl,Y.at_ _ _ _ ea ey,hcl,hz,fun l2 H3 s3 hl2 e2=>?_⟩;symm;refine ixT ((s2.trans s3) _ _ Th.T) (v:=V.int z) rfl ?_;symm;refine⟨_,_,p2,_,y.cs,_,_,z,rfl,(Y.at_ _ _ _ ea ey).same s3,hcl,hz,fun l3 H4 s4 hl3 e3=>?_⟩;symm;refine ja (s4 _ _ e2) e3 (by rw[NI,NI];omega) fun l4 hl4=>?_;have s5:Same H4 (upd H4 l4 (.lst ((ahdL y.cs z).map V.int++(behL y.cs z).map V.int))):=(NK H4).laid hl4;have e4:(upd H4 l4 (.lst ((ahdL y.cs z).map V.int++(behL y.cs z).map V.int))) l4=↥((ahdL y.cs z++behL y.cs z).map V.int):=by rw[ao,OB]
 generalize upd H4 l4 (.lst ((ahdL y.cs z).map V.int++(behL y.cs z).map V.int))=H5 at*;symm;exact ip (((s2.trans s3).trans s4).trans s5) e4 (by rw[N0];omega) (.refl _) q
noncomputable def strA (h w g:Int) (NA:List RR) (cl Ny:∅) (t:TK) (r z s:Int) (ms:∅):Bool:=
 if lineK t then(if t=.step then tE h w NA Ny t r z s ms else nM g NA cl Ny t r z s ms) else if nbrK t then tE h w NA Ny t r z s ms else nN h w NA Ny t r z s ms
def gU(K:Frag)(c:RCl RK)(d:RCl PzK):Sp:=fun vs H Q _=>∃ P L G A T M h w g NA cl Ny t r z s ms,vs=[.ref P,.ref A,.ref T]/\Asks H c d P L G A T M h w g NA cl Ny t r z s ms/\lineK t=true/\(∀ m∈Ny,0<=m/\m<64)/\formB h w g NA t r z s=true/\∀ H',Same H H'->Q (.bl (strA h w g NA cl Ny t r z s ms)) H'
def gW(K:Frag)(c:RCl RK)(d:RCl PzK):TS:=#[":glbi2df#0 h#3 glbi2df#2 h#4 glbi2df#3 h#5 glbi2df#4 h#6 gnmbsc3dqr`0j,{:caDu*{;{?cku0ea4a5a6eoglbiDu*~p~qcku0ebi2df#1 h#7 gnmbsc3dqr`1j,{[cka7a1a4a5a6eognmbsc3dqr`2j,{]ckaDu*~R~Scku0ea7a1a4a5a6eognmbsc3dqr`3j,{^cka7a1a4a5a6eoj,}acka7a1a4a5a6e",[99,108,117,101],[111,110,108,121],[112,108,97,99,101],[115,116,101,112]]
def sh(h:gU K c d vs H Q E):gW K c d (eD9 Q) (start ["puzzle","masks","thought","kind","cell","sign","more","rule"] vs) H:=by
 obtain⟨P,L,G,A,T,M,h,w,g,NA,cl,Ny,t,r,z,s,ms,rfl,X,ht,mm,f,q⟩:=h;obtain⟨dx,p,rs,h1,h2,h3⟩:=X.P.ex;obtain⟨z0,z1,s0,s1',NH⟩:=oG f;have hcl:=X.P.C.len;have hg:=X.P.R.F.g1;unfold strA at q;rw[ht,Oh rfl] at q;ac_nf;unfold gW;symm;refine ixT X.T.T (v:=V.str (tx (tkC t))) rfl ?_;symm;refine ixT X.T.T (v:=V.int z) rfl ?_;symm;refine ixT X.T.T (v:=V.int s) rfl ?_;symm;refine ixT X.T.T (v:=V.ref M) rfl ?_;symm;rw[aC];symm;rw[ba,uL];by_cases hc:t=.clue
 . subst hc;rw[Ob #[1]] at q;rw[NP rfl];refine iteT ?_;refine methE (k:=.Puzzle) rfl X.P.ok h1 (by rfl) ?_;symm;refine⟨P,L,G,h,w,g,NA,cl,rfl,X.P,fun l hl=>?_⟩;have s2:Same H (upd H l (.lst (cl.map V.int))):=(NK H).laid hl;exact⟨l,M,z,s,cl,ms,rfl,ao,z0,by omega,s2 _ _ X.T.M,fun H' s3=>q H' (s2.trans s3)⟩
 . rw[NL hc];obtain⟨r0,y,ey,_,hz⟩:=uM hc NH
   have q2:t≠.step->∀ H',Same H H'->Q (.bl (BW g t y Ny z s ms)) H':=fun hn H' s'=>by
    have q1:=q H' s';rw[Ob hn] at q1
    have e:nM g NA cl Ny t r z s ms=BW g t y Ny z s ms:=by
     unfold nM;cases t <;> first | exact absurd rfl hc | (dsimp only;rw[ey])
    rw[e] at q1;exact q1
   refine iteF ?_;refine methE (k:=.Puzzle) rfl X.P.ok h1 (by rfl) ?_;symm;refine⟨P,L,G,h,w,g,NA,cl,rfl,X.P,fun l p2 rs2 hl hp2 Y=>?_⟩;have s2:Same H (upd H l (.lst (rs2.map V.ref))):=(NK H).laid hl;generalize upd H l (.lst (rs2.map V.ref))=H1 at*;have hlt:=(NR.mp ey).1;have NF:=Y.len;have ea:rs2[r.toNat]? =some rs2[r.toNat]:=NJ #[0];have O:=X.P.R.ok y (NV ey);have hin:aU y.cs Ny.length:=by rw[X.n];exact Rq O X.P.R.F
   dsimp only;refine ixT (s2 _ _ X.T.T) (v:=V.int r) rfl ?_;refine ixL Y.top (jk r0 ea) ?_;symm;rw[aC];symm;rw[ba,y7];by_cases ho:t=.only
   . subst ho;rw[NP rfl];refine iteT ?_;symm;exact⟨_,_,p2,A,M,_,y.cs,Ny,ms,_,_,z,s,rfl,Y.at_ _ _ _ ea ey,hin,s2 _ _ X.A,s2 _ _ X.T.M,by omega,fun H' s3=>q2 #[1] H' (s2.trans s3)⟩
   . rw[NL ho];refine iteF ?_;rw[aC];symm;rw[ba,BN];by_cases hp:t=.place
     . subst hp;rw[NP rfl];refine iteT ?_;refine methE (k:=.Puzzle) rfl X.P.ok (s2 _ _ h1) (by rfl) ?_;symm;refine⟨P,L,G,h,w,g,NA,cl,rfl,X.P.same s2,fun p3 hp3=>?_⟩;symm;exact⟨_,p3,_,p2,A,M,_,y.cs,Ny,ms,_,_,z,s,h,w,g,rfl,hp3,Y.at_ _ _ _ ea ey,hin,s2 _ _ X.A,s2 _ _ X.T.M,fun H' s3=>q2 #[1] H' (s2.trans s3)⟩
     . rw[NL hp];refine iteF ?_;rw[aC];symm;rw[ba,Ir];by_cases hs:t=.step
       . subst hs;rw[NP rfl];refine iteT ?_;symm;refine⟨_,_,p2,A,M,_,y.cs,Ny,ms,_,_,z,s,rfl,Y.at_ _ _ _ ea ey,hin,hz,mm,s2 _ _ X.A,s2 _ _ X.T.M,fun H' s3=>?_⟩;have q1:=q H' (s2.trans s3);rw[Oh rfl] at q1;unfold tE at q1;rw[ey] at q1;exact q1
       . rw[NL hs]
         have hpr:t=.pair:=by
          revert ht hc ho hp hs
          cases t <;> intro ht hc ho hp hs <;> first | rfl | exact absurd rfl hc | exact absurd rfl ho | exact absurd rfl hp | exact absurd rfl hs | cases ht
         subst hpr;refine iteF ?_;symm;exact⟨_,_,p2,A,M,_,y.cs,Ny,ms,_,_,z,s,rfl,Y.at_ _ _ _ ea ey,hin,mm,s2 _ _ X.A,s2 _ _ X.T.M,fun H' s3=>q2 #[1] H' (s2.trans s3)⟩
def pK(K:Frag)(c:RCl RK)(d:RCl PzK):Sp:=fun vs H Q _=>∃ P L G A T M h w g NA cl Ny t r z s ms,vs=[.ref P,.ref A,.ref T]/\Asks H c d P L G A T M h w g NA cl Ny t r z s ms/\(∀ m∈Ny,0<=m/\m<64)/\formB h w g NA t r z s=true/\∀ H',Same H H'->Q (.bl (strA h w g NA cl Ny t r z s ms)) H'
def pL(K:Frag)(c:RCl RK)(d:RCl PzK):TS:=#[":gnz~h'MBbi2df#0 j,}bckua0a1a2eognz~h'NBbi2df#0 j,}cckua0a1a2eoj,}dckua0a1a2e"]
def nbrA{t:TK}(h:nbrK t=true):t=.count\/t=.sum\/t=.ways:=by cases t <;> first | exact .inl rfl | exact .inr (.inl rfl) | exact .inr (.inr rfl) | cases h
def regA{t:TK}(h1:lineK t=false)(h2:nbrK t=false):ER t:=by cases t <;> first | exact .inl rfl | exact .inr (.inl rfl) | exact .inr (.inr rfl) | (cases h1;done) | (cases h2;done)
theorem Dk(h:pK K c d vs H Q E):pL K c d (eD9 Q) (start ["puzzle","masks","thought"] vs) H:=by
 obtain⟨P,L,G,A,T,M,h,w,g,NA,cl,Ny,t,r,z,s,ms,rfl,X,mm,f,q⟩:=h;ac_nf;unfold pL;rw[az,aC];symm;refine ixT X.T.T (v:=V.str (tx (tkC t))) rfl ?_;symm;rw[DT]
 cases e1:lineK t with
 | true=>
  refine iteT ?_;exact⟨P,L,G,A,T,M,h,w,g,NA,cl,Ny,t,r,z,s,ms,rfl,X,e1,mm,f,q⟩
 | false=>
  unfold strA at q;rw[e1,Ob NW] at q;refine iteF ?_;rw[aC];symm;refine ixT X.T.T (v:=V.str (tx (tkC t))) rfl ?_;symm;rw[Ge]
  cases e2:nbrK t with
  | true=>
   rw[e2,Oh rfl] at q;refine iteT ?_;exact⟨P,L,G,A,T,M,h,w,g,NA,cl,Ny,t,r,z,s,ms,rfl,X,nbrA e2,mm,f,q⟩
  | false=>
   rw[e2,Ob NW] at q;refine iteF ?_;symm;exact⟨P,L,G,A,T,M,h,w,g,NA,cl,Ny,t,r,z,s,ms,rfl,X,regA e1 e2,f,q⟩
noncomputable def alwA (h w g:Int) (NA:List RR) (cl Ny:∅) (t:TK) (r z s:Int) (ms:∅):Bool:=formB h w g NA t r z s&&strA h w g NA cl Ny t r z s ms
def pM(K:Frag)(c:RCl RK)(d:RCl PzK):Sp:=fun vs H Q _=>∃ P L G A T M h w g NA cl Ny t r z s ms,vs=[.ref P,.ref A,.ref T]/\Asks H c d P L G A T M h w g NA cl Ny t r z s ms/\(∀ m∈Ny,0<=m/\m<64)/\∀ H',Same H H'->Q (.bl (alwA h w g NA cl Ny t r z s ms)) H'
def pN(K:Frag)(c:RCl RK)(d:RCl PzK):TS:=#[":jO,}eckua0a2e,}fckua0a1a2e"]
theorem Dl(h:pM K c d vs H Q E):pN K c d (eD9 Q) (start ["puzzle","masks","thought"] vs) H:=by
 obtain⟨P,L,G,A,T,M,h,w,g,NA,cl,Ny,t,r,z,s,ms,rfl,X,mm,q⟩:=h;ac_nf;unfold pN;symm;refine⟨t,P,L,G,T,M,h,w,g,r,z,s,NA,cl,ms,rfl,X.P,X.T,fun H1 s1=>?_⟩;unfold alwA at q
 cases hb:formB h w g NA t r z s with
 | false=>
  rw[hb,NZ] at q;exact⟨false,rfl,iteF (q _ s1)⟩
 | true=>
  rw[hb,N2] at q;refine⟨true,rfl,iteT ?_⟩;symm;exact⟨P,L,G,A,T,M,h,w,g,NA,cl,Ny,t,r,z,s,ms,rfl,X.same s1,mm,hb,fun H' s2=>q H' (s1.trans s2)⟩
def srtI(xs:∅):∅:=xs.mergeSort (fun a b=>decide (a<=b))
def Iz{xs:∅}:(srtI xs).length=xs.length:=(List.mergeSort_perm xs _).length_eq
structure Tho where
 t:TK
 r:Int
 z:Int
 s:Int
 ms:∅
def Ko{g:Int}(g0:1<=g)(g6:g<=6):(2:Int)^g.toNat<=64:=by
 have e:g=1\/g=2\/g=3\/g=4\/g=5\/g=6:=by omega
 rcases e with rfl | rfl | rfl | rfl | rfl | rfl <;> decide
def IA:((List.range 64).all fun m=>(List.range 6).all fun s=>decide (0<=woI (m:Int) (1+(s:Int))/\woI (m:Int) (1+(s:Int))<=m)&&((List.range 6).all fun x=>decide (x=s)||decide (stB (woI (m:Int) (1+(s:Int))) (1+(x:Int))=stB (m:Int) (1+(x:Int))))&&(!stB (m:Int) (1+(s:Int))||decide ((sgL (woI (m:Int) (1+(s:Int)))).length+1=(sgL (m:Int)).length)))=true:=by decide+kernel
def JP{m s:Int}(m0:0<=m)(m1:m<64)(s0:1<=s)(s6:s<=6):(0<=woI m s/\woI m s<=m)/\(∀ x,1<=x->x<=6->x≠s->stB (woI m s) x=stB m x)/\(stB m s=true->(sgL (woI m s)).length+1=(sgL m).length):=by
 have t:=Oe.mp (Oe.mp IA m.toNat (N8.mpr #[0])) (s-1).toNat (N8.mpr #[0]);rw[show((m.toNat:Nat):Int)=m by omega,show 1+(((s-1).toNat:Nat):Int)=s by omega,Om,Om] at t;refine⟨Oy t.1.1,fun x x0 x6 ne=>?_,fun hs=>?_⟩
 . have:=Oe.mp t.1.2 (x-1).toNat (N8.mpr #[0]);rw[show 1+(((x-1).toNat:Nat):Int)=x by omega,NL #[0],Ph] at this;exact Oy this
 . have:=t.2;rw[hs,PL,Ph] at this;exact Oy this
def fJ{ms:∅}{k:Nat}(hk:k<ms.length):ms.getD k 0∈ms:=by rw[List.getD,NJ hk];exact Ot _
abbrev txk(t:TK):Str:=tx (tkC t)
def IB{a b:TK}:decide (txk a=txk b)=decide (a=b):=by cases a <;> cases b <;> decide+kernel
def KdL(H:Hp)(Kd:Addr)(ks:List TK):Prop:=H Kd=↥((ks.map txk).map V.str)
structure JQ(H:Hp)(f C:Addr)(fl:∅)(cs:List Nat):Prop where
 f:H f=↥(fl.map V.int)
 C:H C=↥((cs.map fun(n:Nat)=>(n:Int)).map V.int)
 lt:∀ c∈cs,c<fl.length
 len:cs.length<=16
 sg:∀ x∈fl,1<=x/\x<=6
abbrev iN(cs:List Nat):∅:=cs.map fun(n:Nat)=>(n:Int)
variable{cs:List Nat}
def BZ{c:Int}(h:c∈iN cs):0<=c/\c.toNat∈cs:=by
 obtain⟨n,hn,rfl⟩:=N9.mp h;exact⟨by omega,by rw[OF];exact hn⟩
def Chn(b:Bool)(fl:∅)(ds:List Nat):Prop:=if b=true then risB (sgAt fl (iN ds))=true else(sgAt fl (iN ds)).Nodup
theorem B0:∀{xs:∅} {x:Int},risB xs=true->(∀ y,xs.getLast? =some y->y<x)->risB (xs++[x])=true
 | [],_,_,_=>rfl
 | [y],x,_,h=>by
  show(decide (y<x)&&risB [x])=true;rw[NP (h y rfl)];rfl
 | y::z::r,x,h1,h2=>by
  have e:risB (y::z::r)=(decide (y<z)&&risB (z::r)):=rfl;rw[e,Om] at h1;show(decide (y<z)&&risB (z::r++[x]))=true;rw[h1.1,B0 h1.2 (fun u hu=>h2 u (by rw[List.getLast?_cons_cons];exact hu))];rfl
def Gy(fl:∅)(ds:List Nat)(n:Nat):sgAt fl (iN (ds++[n]))=sgAt fl (iN ds)++[fl.getD n 0]:=by
 unfold sgAt iN;simp
def EV{i:Int}(h0:0<=i)(h1:i<100):Str.ofString (toString i)=tx (numC i.toNat)/\i.natAbs.log2<1920:=by
 have e:i=((i.toNat:Nat):Int):=by omega
 have a:=uJ (n:=i.toNat) #[0];have b:=uK (n:=i.toNat) #[0];rw[← e] at a b;exact⟨a,b⟩
def JR{K:Frag}{H:Hp}{Q:VK}{C:Addr}{σ:St}{i:Nat}(hi:σ[i]? =some ↑C)(hC:H C=↥((iN cs).map V.int))(hl:cs.length<=16)(hc:∀ c∈cs,c<100)(q:∀ H',Same H H'->Q (.str (tx (catL 32 (cs.map numC)))) H'):tBM K "str" jY (tC (.str (tx [32]))) (tCons (tComp [none,none] (iList K (tVar i)) (gName 1) tTrue (tCB kStr (tCons (tVar 1) tNil))) tNil) σ H Q:=by
 simp only[fw,w_c,bM,c7,bv,HG];refine⟨Ex,V.ref C,hi,C,rfl,⟨_,N5 hC⟩,?_⟩;refine zU hC #[0] hc fun l H1 hl s1 el=>?_
 refine DP el (sO (by simp;omega) (fun t ht=>by
  obtain⟨z,hz,rfl⟩:=N9.mp ht;obtain⟨x,_,rfl⟩:=N9.mp hz;rw[ga];exact NS gH #[1]) (by rw[ga];decide)) ?_
 rw[Bu,uH];exact q _ s1
structure Cs58(h w:Int)(cs:List Nat):Prop where
 ne:cs≠[]
 nd:cs.Nodup
 lt:∀ c∈cs,(c:Int)<h*w
 len:cs.length<=16
def Cs58.sub{h w:Int}{ds:List Nat}(X:Cs58 h w cs)(s:ds.Sublist cs)(ne:ds≠[]):Cs58 h w ds:=⟨ne,X.nd.sublist s,fun c hc=>X.lt c (s.subset hc),NS s.length_le X.len⟩
def Cs58.lt100{h w g:Int}(X:Cs58 h w cs)(F:FlOk h w g):∀ c∈cs,c<100:=fun c hc=>by
 have:=X.lt c hc;have:=F.m;omega
def Hq{h w g:Int}{fl:∅}(Y:Cs58 h w cs)(fll:fl.length=(h*w).toNat)(sg:∀ x∈fl,1<=x/\x<=g){x:Int}(hx:x∈iN cs):0<=x/\x<fl.length/\1<=fl.getD x.toNat 0/\fl.getD x.toNat 0<=g:=by
 have m:=BZ hx;have l:=Y.lt _ m.2;have:x.toNat<fl.length:=by omega
 have e:fl.getD x.toNat 0=fl[x.toNat]:=by rw[List.getD,NJ this];rfl
 have:=sg _ (Ot this);rw[e];omega
def nP(h:cs≠[]):cs.map numC≠[]:=by simp[h]
theorem B1:∀(xs:∅),(∀ x∈xs,0<=x/\x<=6)->0<=xs.sum/\xs.sum<=6*xs.length
 | [],_=>by simp
 | x::r,h=>by
  have a:=h x Oc;have b:=B1 r fun y hy=>h y (N3 _ hy);rw[List.sum_cons,Oq];omega
def Gz{fl cs:∅}{j:Nat}(hj:j<cs.length):(sgAt fl cs).getD j 0=fl.getD (cs.getD j 0).toNat 0:=by
 unfold sgAt;rw[List.getD,NN,NJ hj];show fl.getD (cs[j]).toNat 0=_;rw[show cs.getD j 0=cs[j] by rw[List.getD,NJ hj];rfl]
section
variable{c:RCl RK}{h w g:Int}{NA:List RR}{cl cl':∅}{ks:List TK}
open Classical in
end
def cg{b:Bool}{A B:Prop}(e:b=true)(h:A):if b=true then A else B:=by rw[e];exact iteT h
def cj{b:Bool}{A B:Prop}(e:b=false)(h:B):if b=true then A else B:=by rw[e];exact iteF h
structure Z5 where
 P:Program
 w:World
 K:Frag
 mg:Str->Option Value
 base:Heap
structure Bt3(Z:Z5):Prop extends Bt2 Z.mg where
 ns:∀{x:Str} {v:Value},nsIn Z.K mainGlobals x=some (some v)->Z.mg x=some v
def Nn(K:Frag)(b:Str):Prop:=nsIn K mainGlobals b=some none
def Zn(K:Frag):Prop:=Nn K "len"/\Nn K "abs"/\Nn K "min"/\Nn K "max"/\Nn K "sorted"/\Nn K "any"/\Nn K "isinstance"/\Nn K "list"/\Nn K "int"/\Nn K "bool"/\Nn K "str"/\Nn K "tuple"/\Nn K "reversed"/\Nn K "set"/\Nn K "range"/\Nn K "zip"/\Nn K "all"/\Nn K "sum"/\Nn K "enumerate"
def JS{Z:Z5}{h:Heap}(X:Z.K.In h)(G:h.Ns mainGlobals Z.mg)(z:Zn Z.K):Bt3 Z:=by
 obtain⟨a,b,c,d,e,f,g,i,j,k,l,m,n,o,p,q,r,s,t⟩:=z;have N:∀{b:Str},Nn Z.K b->Z.mg b=none:=fun h=>PySem.W.mg_none_of X G h;exact⟨⟨⟨N a,N b,N c,N d,N e,N f,N g,N i,N j,N k,N l,N m,N n,N o,N p,N q⟩,N r,N s,N t⟩,fun h=>PySem.W.mg_of X G h⟩
structure De(K:Frag)(x:Str)(st:Stmt):Prop where
 ex:∃(f:Addr) (fd:FuncData),nsIn K mainGlobals x=some ↑f/\Fun K x x st f fd
structure Me(K:Frag)(x qual:Str)(st:Stmt)(f:Addr):Prop where
 ex:∃ fd:FuncData,Fun K x qual st f fd/\isFn K (.ref f)=true
structure ClsP(K:Frag)(x:Str)(A f:Addr):Prop where
 q:nsIn K mainGlobals x=some ↑A
 m1:PySem.W.makesIn K A=true
 m2:findIn K (.ref A) "__init__"=some ↑f
 m4:keepIn K (.ref A)=true
 cl:Cls K A
def mkC(x1 x2 x3 x4 x5 x6 x7 x8:Addr):RCl RK:=⟨fun k=>match k with | .Rule=>x1 | .Unlike=>x1 | .Sum=>x2 | .Rising=>x3 | .Seen=>x4 | .Count=>x5 | .Joined=>x6 | .NoSquare=>x7 | .Ring=>x8,fun k=>match k with | .Rule=>false | _=>true⟩
def mk1(c:RCl RK)(k:RK):RCl RK:=⟨c.A,match k with | .Joined=>(fun i=>match i with | .Joined=>true | _=>false) | .Ring=>(fun i=>match i with | .Ring=>true | _=>false) | _=>fun _=>false⟩
def mkD(y:Addr):RCl PzK:=⟨fun _=>y,fun _=>true⟩
def p7{c:RCl RK}{k i:RK}(h:(mk1 c k).ok i=true):i=k:=by cases k <;> cases i <;> first | rfl | cases h
def At8(K:Frag)(m:Str)(v:Option Value)(x1 x2 x3 x4 x5 x6 x7 x8:Addr):Prop:=findIn K (.ref x1) m=some v/\findIn K (.ref x2) m=some v/\findIn K (.ref x3) m=some v/\findIn K (.ref x4) m=some v/\findIn K (.ref x5) m=some v/\findIn K (.ref x6) m=some v/\findIn K (.ref x7) m=some v/\findIn K (.ref x8) m=some v
def C8(K:Frag)(x1 x2 x3 x4 x5 x6 x7 x8:Addr):Prop:=Cls K x1/\Cls K x2/\Cls K x3/\Cls K x4/\Cls K x5/\Cls K x6/\Cls K x7/\Cls K x8
section
variable{Z:Z5}{K:Frag}{x1 x2 x3 x4 x5 x6 x7 x8 f:Addr}{m:Str}{v:Option Value}
def at8(h:At8 K m v x1 x2 x3 x4 x5 x6 x7 x8)(k:RK):findIn K (.ref ((mkC x1 x2 x3 x4 x5 x6 x7 x8).A k)) m=some v:=by
 obtain⟨a,b,c,d,e,f,g,i⟩:=h;cases k <;> assumption
def c8(h:C8 K x1 x2 x3 x4 x5 x6 x7 x8)(k:RK):Cls K ((mkC x1 x2 x3 x4 x5 x6 x7 x8).A k):=by
 obtain⟨a,b,c,d,e,f,g,i⟩:=h;cases k <;> assumption
def fk8(C:C8 K x1 x2 x3 x4 x5 x6 x7 x8)(h:At8 K m none x1 x2 x3 x4 x5 x6 x7 x8):FldK K (mkC x1 x2 x3 x4 x5 x6 x7 x8) m:=⟨fun k _=>⟨c8 C k,at8 h k⟩⟩
def fk1{c:RCl RK}{k:RK}(hk:c.ok k=true)(F:FldK K c m):FldK K (mk1 c k) m:=⟨fun i hi=>by cases p7 hi;exact F.ex k hk⟩
variable{N ps:List Str}{k k':Nat}{sp sp':Sp}{t:TS}{x qual:Str}{st:Stmt}
abbrev Hb(Z:Z5)(N:List Str)(qual:Str)(st:Stmt)(f:Addr)(k:Nat)(t:TS):Prop:=∀{NB:Value} {A:Around} {outer:List Env} {s:Shared} {H:Hp} {E:XK},Room k (A.deeper (envOfC qual (be st) s.heap.objs.size f NB))->(A.deeper (envOfC qual (be st) s.heap.objs.size f NB)).units+64<cLine->N.Nodup->PSs (cxOf CX0 Z.P Z.w Z.K Z.mg Z.base N qual (be st) f NB A outer s H E).nox (cX st) t
abbrev Rk(N:List Str)(sp:Sp)(t:TS):Prop:=∀{vs H Q E},sp vs H Q E->t (eD9 Q) (start N vs) H
abbrev Ln(ps:List Str)(sp:Sp):Prop:=∀{vs H Q E},sp vs H Q E->vs.length=ps.length
abbrev Bd(x qual:Str)(st:Stmt)(ps:List Str):Prop:=∀(kV doc pm:Value) (an:Option Addr) (NB ct:Value) (us:List Value),us.length=ps.length->bindArgs (fnOf x qual (ed st) (cX st) (be st) .none kV doc pm an NB ct) ⟨us,[]⟩=pure (ps.zip us)
def okf{f:Addr}{fd:FuncData}(F:Fun Z.K x qual st f fd)(S:mT N ps (be st))(rk:Rk N sp t)(hb:Hb Z N qual st f k t)(len:Ln ps sp):FnOk Z.P Z.w Z.K Z.mg Z.base CX0 (k+1) f fd ps sp:=F.ok S (fun _ _ _ _ h=>len h) fun NB A outer s H vs Q E hr h=>⟨t,hb hr hr.units S.nd,rk h⟩
local macro_rules | `(tactic| walk_at "l")=>`(tactic| (intro vs H Q E h; (repeat obtain ⟨_,h⟩:=h); subst_vars; rfl))
theorem wq{α:Type}{us:List α}{n:Nat}(e:us.length=n+1):∃ u t,t.length=n/\us=u::t:=by
 cases us with
 | nil=>cases e
 | cons u t=>exact⟨u,t,Nat.succ.inj e,rfl⟩
def bd1{a0:Str}(h:∀ kV doc pm an NB ct u0,bindArgs (fnOf x qual (ed st) (cX st) (be st) .none kV doc pm an NB ct) ⟨[u0],[]⟩=pure ([a0].zip [u0]):=by intros;rfl):Bd x qual st [a0]:=by
 intro _ _ _ _ _ _ _ e;(iterate 1 (obtain⟨_,_,f,rfl⟩:=wq e;clear e;have e:=f;clear f));cases OO e;exact h ..
def bd2{a0 a1:Str}(h:∀ kV doc pm an NB ct u0 u1,bindArgs (fnOf x qual (ed st) (cX st) (be st) .none kV doc pm an NB ct) ⟨[u0,u1],[]⟩=pure ([a0,a1].zip [u0,u1]):=by intros;rfl):Bd x qual st [a0,a1]:=by
 intro _ _ _ _ _ _ _ e;(iterate 2 (obtain⟨_,_,f,rfl⟩:=wq e;clear e;have e:=f;clear f));cases OO e;exact h ..
def bd3{a0 a1 a2:Str}(h:∀ kV doc pm an NB ct u0 u1 u2,bindArgs (fnOf x qual (ed st) (cX st) (be st) .none kV doc pm an NB ct) ⟨[u0,u1,u2],[]⟩=pure ([a0,a1,a2].zip [u0,u1,u2]):=by intros;rfl):Bd x qual st [a0,a1,a2]:=by
 intro _ _ _ _ _ _ _ e;(iterate 3 (obtain⟨_,_,f,rfl⟩:=wq e;clear e;have e:=f;clear f));cases OO e;exact h ..
def bd4{a0 a1 a2 a3:Str}(h:∀ kV doc pm an NB ct u0 u1 u2 u3,bindArgs (fnOf x qual (ed st) (cX st) (be st) .none kV doc pm an NB ct) ⟨[u0,u1,u2,u3],[]⟩=pure ([a0,a1,a2,a3].zip [u0,u1,u2,u3]):=by intros;rfl):Bd x qual st [a0,a1,a2,a3]:=by
 intro _ _ _ _ _ _ _ e;(iterate 4 (obtain⟨_,_,f,rfl⟩:=wq e;clear e;have e:=f;clear f));cases OO e;exact h ..
def bd5{a0 a1 a2 a3 a4:Str}(h:∀ kV doc pm an NB ct u0 u1 u2 u3 u4,bindArgs (fnOf x qual (ed st) (cX st) (be st) .none kV doc pm an NB ct) ⟨[u0,u1,u2,u3,u4],[]⟩=pure ([a0,a1,a2,a3,a4].zip [u0,u1,u2,u3,u4]):=by intros;rfl):Bd x qual st [a0,a1,a2,a3,a4]:=by
 intro _ _ _ _ _ _ _ e;(iterate 5 (obtain⟨_,_,f,rfl⟩:=wq e;clear e;have e:=f;clear f));cases OO e;exact h ..
def bd6{a0 a1 a2 a3 a4 a5:Str}(h:∀ kV doc pm an NB ct u0 u1 u2 u3 u4 u5,bindArgs (fnOf x qual (ed st) (cX st) (be st) .none kV doc pm an NB ct) ⟨[u0,u1,u2,u3,u4,u5],[]⟩=pure ([a0,a1,a2,a3,a4,a5].zip [u0,u1,u2,u3,u4,u5]):=by intros;rfl):Bd x qual st [a0,a1,a2,a3,a4,a5]:=by
 intro _ _ _ _ _ _ _ e;(iterate 6 (obtain⟨_,_,f,rfl⟩:=wq e;clear e;have e:=f;clear f));cases OO e;exact h ..
def bd8{a0 a1 a2 a3 a4 a5 a6 a7:Str}(h:∀ kV doc pm an NB ct u0 u1 u2 u3 u4 u5 u6 u7,bindArgs (fnOf x qual (ed st) (cX st) (be st) .none kV doc pm an NB ct) ⟨[u0,u1,u2,u3,u4,u5,u6,u7],[]⟩=pure ([a0,a1,a2,a3,a4,a5,a6,a7].zip [u0,u1,u2,u3,u4,u5,u6,u7]):=by intros;rfl):Bd x qual st [a0,a1,a2,a3,a4,a5,a6,a7]:=by
 intro _ _ _ _ _ _ _ e;(iterate 8 (obtain⟨_,_,f,rfl⟩:=wq e;clear e;have e:=f;clear f));cases OO e;exact h ..
local macro_rules | `(tactic| ac_rfl)=>`(tactic| exact ⟨rfl,rfl,rfl,by decide+kernel,rfl,by decide+kernel,by decide+kernel⟩)
def okc(B:Bt3 Z)(D:De Z.K x st)(rk:Rk N sp t)(b:Bd x x st ps)(hb:∀{f},Hb Z N x st f k t)(S:mT N ps (be st):=by ac_rfl)(len:Ln ps sp:=by walk_at "l"):Cal Z.P Z.w Z.K Z.mg Z.base (k+1) x ps sp:=
 let ⟨f,fd,a,F⟩:=D.ex
 ⟨f,fd,okf F S rk hb len,B.ns a,F.kp,F.binds b⟩
structure Mo(Z:Z5)(k:Nat)(f:Addr)(ps:List Str)(sp:Sp):Prop where
 ex:∃ fd:FuncData,FnOk Z.P Z.w Z.K Z.mg Z.base CX0 k f fd ps sp/\Binds Z.K fd ps []/\isFn Z.K (.ref f)=true/\keepIn Z.K (.ref f)=true
def okm(D:Me Z.K x qual st f)(rk:Rk N sp t)(b:Bd x qual st ps)(hb:Hb Z N qual st f k t)(S:mT N ps (be st):=by ac_rfl)(len:Ln ps sp:=by walk_at "l"):Mo Z (k+1) f ps sp:=
 let ⟨fd,F,n⟩:=D.ex
 ⟨fd,okf F S rk hb len,F.binds b,n,F.kp⟩
def Mo.at{C:Addr}(T:Mo Z k f ps sp)(cl:Cls Z.K C)(a:findIn Z.K (.ref C) m=some ↑f)(imp:∀ vs H Q E,sp' vs H Q E->sp vs H Q E)(hk:k<=k':=by decide):∃(f:Addr) (fd:FuncData),Cls Z.K C/\Meth Z.K C m f/\FnOk Z.P Z.w Z.K Z.mg Z.base CX0 k' f fd ps sp'/\Binds Z.K fd ps []:=
 let ⟨fd,F,b,n,kp⟩:=T.ex
 ⟨f,fd,cl,⟨a,n,kp⟩,(F.mono hk).imp imp,b⟩
def Mo.mke{C:Addr}(T:Mo Z k f ps sp)(B:Bt3 Z)(c:ClsP Z.K x C f):KCal Z.P Z.w Z.K Z.mg Z.base k x C ps sp:=
 let ⟨fd,F,b,n,_⟩:=T.ex
 ⟨f,fd,⟨c.m1,c.m2,n,c.m4⟩,F,B.ns c.q,b⟩
def De.of{K:Frag}{f:Addr}{fd:FuncData}(a:nsIn K mainGlobals x=some ↑f)(F:Fun K x x st f fd):De K x st:=⟨f,fd,a,F⟩
def Me.of{K:Frag}{f:Addr}{fd:FuncData}(F:Fun K x qual st f fd)(n:isFn K (.ref f)=true):Me K x qual st f:=⟨fd,F,n⟩
structure GT0(K:Frag)(x:Str)(ws:List Str):Prop where
 ex:∃(p:Addr) (o:Obj) (ND:Array Value) (n:Nat),nsIn K mainGlobals x=some ↑p/\K.lookup p=some o/\o.cls=.type "tuple"/\o.data=.seq ND n/\ND.size<=sizeLine/\Vals (ws.map V.str) ND.toList
def GT0.mk'{K:Frag}{ws:List Str}{p:Addr}{o:Obj}{ND:Array Value}{n:Nat}(a:nsIn K mainGlobals x=some ↑p)(b:K.lookup p=some o)(c:o.cls=.type "tuple")(d:o.data=.seq ND n)(e:ND.size<=sizeLine)(v:Vals (ws.map V.str) ND.toList):GT0 K x ws:=⟨p,o,ND,n,a,b,c,d,e,v⟩
def GT0.of{ws:List Str}(g:GT0 Z.K x ws)(B:Bt3 Z):GTup Z.K Z.mg x ws:=let ⟨p,o,i,n,a,r⟩:=g.ex;⟨p,o,i,n,B.ns a,r⟩
structure GD0(w:World)(K:Frag)(x:Str)(D:List (Str × List Str)):Prop where
 ex:∃(p:Addr) (o:Obj) (es:Array DictEntry) (ep:Nat),nsIn K mainGlobals x=some ↑p/\K.lookup p=some o/\o.ExactDict/\o.data=.dict es ep/\DRows w K es.toList D/\(D.map fun x=>x.1).Nodup
def GD0.of{D:List (Str × List Str)}(g:GD0 Z.w Z.K x D)(B:Bt3 Z):GDict Z.w Z.K Z.mg x D:=let ⟨p,o,i,n,a,r⟩:=g.ex;⟨p,o,i,n,B.ns a,r⟩
end
section
variable{X:Cx}{a b e:Expr}{ta tb te:TE}{pos pos' p:Pos}{x:Str}{es:List Expr}{t:TA}{ps:List Str}{sp:Sp}{k n:Nat}
def kcal(C:Cal X.prog X.w X.K X.mg X.base k x ps sp)(hr:Room n X.A)(ha:PA X (e::es) t)(hk:k<=n:=by decide)(hg:Gl X x:=by exact rfl)(hdb:(x==("__debug__":Str))=false:=by decide)(he:starEach (e::es) X.env=(false,eval e X.env)::starEach es X.env:=by rfl)(hpl:(backTo pos (starEach es X.env)).any (·.1)=false:=by rfl):PE X (.Call (.Name x p) (e::es) [] pos) (tCall sp [] E0 t):=Jr C hr hk hg ha hdb he hpl
def kix(hu:X.A.units+64<cLine)(ha:PE X a ta)(hb:PE X b tb)(hs:yT b:=by exact fun _ _=>rfl):PE X (.Subscript a b pos) (tOp cIx ta tb):=wT (G4 hu) ha hb hs
def kset(i:Nat)(hN:X.N.Nodup)(he:PE X e te)(hi:X.N[i]? =some x:=by exact rfl)(hx:Loc X.env.scope x:=by exact Or.inl rfl)(hs:swapsWith e (some (.Name x pos')) pos.line X.env=pure false:=by rfl)(hf:X.fn x=true\/X.env.scope.names.lookup x=some .local:=by first | exact .inl rfl | exact .inr rfl | assumption):PS X (.Assign [.Name x pos'] e pos) (tAsg te (gName i)):=dn hN hi hx he hs hf
end
section
variable{Z:Z5}{N ps:List Str}{k:Nat}{sp:Sp}{t:TS}{b x:Str}{st:Stmt}
local macro_rules | `(tactic| walk_at "l")=>`(tactic| (intro vs H Q E h; (repeat obtain ⟨_,h⟩:=h); subst_vars; rfl))
local macro_rules | `(tactic| ac_rfl)=>`(tactic| exact ⟨rfl,rfl,rfl,by decide+kernel,rfl,by decide+kernel,by decide+kernel⟩)
end
def nQ(K:Frag):Sp:=fun vs H Q _=>∃ T M t r z s ms,vs=[.ref T]/\IsTh H T M t r z s ms/\Q (.bl true) H
def nS(K:Frag):TS:=#[":jOp-a0ad/~]ebscpya0edf#5 "]
variable{K:Frag}{vs:List V}{H:Hp}{Q:VK}{E:XK}
def B2(h:nQ K vs H Q E):nS K (eD9 Q) (start ["thought"] vs) H:=by
 obtain⟨T,M,t,r,z,s,ms,rfl,X,q⟩:=h;ac_nf;unfold nS;symm;refine Bq X.T ?_;symm;rw[Bk X.T];exact q
def kA(K:Frag):Sp:=fun vs H Q _=>∃ T M t r z s ms,vs=[.ref T]/\IsTh H T M t r z s ms/\Q (.bl false) H
def kB(K:Frag):TS:=#[":jO,}gca0ebscbi0df#0 dqr`0",[115,117,112,112,111,115,101]]
def xM(h:kA K vs H Q E):kB K (eD9 Q) (start ["thought"] vs) H:=by
 obtain⟨T,M,t,r,z,s,ms,rfl,X,q⟩:=h;ac_nf;unfold kB;symm;refine⟨T,M,t,r,z,s,ms,rfl,X,?_⟩;symm;refine ixT X.T (v:=V.str (tx (tkC t))) rfl ?_;symm;have e:decide (tx (tkC t)=tx [115,117,112,112,111,115,101])=false:=by cases t <;> decide
 rw[e];exact q
section
variable{K:Frag}{c:RCl RK}{d:RCl PzK}{h w g:Int}{NA:List RR}{cl:∅}{ks:List TK}
open Classical in
end
def kC(K:Frag):Sp:=fun vs H Q _=>∃ n:Int,vs=[.int n]/\∀(p:Addr) (h w g:Int) (H':Hp),Same H H'->H p=none->IsFl H' p h w g->FlOk h w g->h*w<=9->g<=4->Q (.ref p) H'
def kD(K:Frag):TS:=#[":glbtdf#1 bC0df#3 h#1 glbtdf#1 bCbP0df#3 p~-adf#5 abPdf#9 1eh#2 jTa1a2abtdf#1 bCbP0df#15 df#4 e"]
def IC:∀ a∈([1,2,3]:∅),∀ b∈([1,2,3,4,5]:∅),b<=(if (9/a)<5 then 9/a else 5)->a*b<=9:=by decide
def xN(h:kC K vs H Q E):kD K (eD9 Q) (start ["_law_cell","_law_high","_law_wide"] vs) H:=by
 obtain⟨n,rfl,q⟩:=h;ac_nf;unfold kD;symm;have a0:=Oz n (show(3:Int)≠0 by decide);have a1:=Ow n (show(0:Int)<3 by decide);refine⟨by decide,?_⟩;generalize hh:1+n%3=h at*;have h3:h=1\/h=2\/h=3:=by omega
 symm;refine⟨⟨by omega,by omega⟩,⟨by omega,by omega⟩,?_⟩;have m5:3<=(if 9/h<5 then 9/h else(5:Int))/\(if 9/h<5 then 9/h else(5:Int))<=5:=by rcases h3 with rfl | rfl | rfl <;> decide
 have sz:=IC h (by rcases h3 with rfl | rfl | rfl <;> decide);symm;generalize (if 9/h<5 then 9/h else(5:Int))=m at*;have b0:=Oz (n/3) (show m≠0 by omega);have b1:=Ow (n/3) (show 0<m by omega);refine⟨by omega,?_⟩;generalize hw:1+n/3%m=w at*
 have hwm:h*w<=9:=sz w (by
  have:w=1\/w=2\/w=3\/w=4\/w=5:=by omega
  rcases this with rfl | rfl | rfl | rfl | rfl <;> decide) #[0]
 have g0:=Oz (n/15) (show(4:Int)≠0 by decide);have g1:=Ow (n/15) (show(0:Int)<4 by decide);symm;refine⟨⟨by decide,by decide⟩,by decide,?_⟩;generalize hg:1+n/15%4=g at*;refine⟨lnR rfl,fun p hp=>?_⟩;exact q p h w g _ ((NK H).laid hp) hp ao ⟨by omega,by omega,by omega,by omega,by omega,by omega,by omega⟩ hwm #[0]
def g9(K:Frag):Sp:=fun vs H Q _=>∃ num many size,vs=[.int num,.int many,.int size]/\many<=16/\0<=size/\size<=many/\
 ∀(l:Addr) (cs:List Nat) (H':Hp),Same H H'->H l=none->H' l=↥((iN cs).map V.int)->cs.Nodup->(∀ c∈cs,(c:Int)<many)->(cs.length:Int)=size->Q (.ref l) H'
def kE(K:Frag):TS:=#[":gl~[a1eh#3 glveh#4 gIUa2eh#5 gNEcGW4aEcG}h3abC0pya3eeelbCbX0df#48271 df#2147483647 h#0 j4"]
def xO(h:g9 K vs H Q E):kE K (eD9 Q) (start ["_law_number","_law_many","_law_size","_law_left","_law_found","_law_k"] vs) H:=by
 obtain⟨num,many,size,rfl,m1,c0,c1,q⟩:=h;ac_nf;unfold kE;symm;refine⟨many,rfl,by omega,by omega,fun L hL=>?_⟩;obtain⟨H1,z9,s1,eL⟩:=a9 (.lst ((rngL 0 many).map V.int)) hL;rw[z9];symm;refine⟨aW #[1],fun R hR=>?_⟩;have nRL:R≠L:=fun e=>by rw[e,eL] at hR;cases hR
 refine⟨size,rfl,by omega,by omega,?_⟩
 refine or (fun i σ H'=>∃(num:Int) (kv:Option V) (fs ls:∅),σ=[⇑num,⇑many,⇑size,↑L,↑R,kv]/\Same H H'/\H' L=↥(ls.map V.int)/\H' R=↥(fs.map V.int)/\(fs++ls).Perm (rngL 0 many)/\fs.length=i)
  ⟨num,none,[],rngL 0 many,rfl,s1.laid hR,by rw[ar nRL.symm];exact eL,by rw[ao];rfl,List.Perm.refl _,rfl⟩ ?_ ?_
 . rintro i σ H2 hi ⟨num,kv,fs,ls,rfl,s2,e1,e2,hp,hl⟩;have NF:=hp.length_eq;rw[N0,kZ] at NF;symm;refine⟨bL e2,bL e1,?_⟩;rw[aS e1,NI];have hpos:0 < (ls.length:Int):=by omega
   have j0:=Oz num (Int.ne_of_gt hpos);have j1:=Ow num hpos;symm;refine⟨hpos,?_⟩;generalize num % (ls.length:Int)=j at*;have hj:j.toNat<ls.length:=by omega
   refine Ii e1 j0 (by rw[NI];omega) (y:=V.int ls[j.toNat]) (by rw[NN,NJ hj];rfl) ?_;have e2':(upd H2 L (.lst ((ls.map V.int).eraseIdx j.toNat))) R=↥(fs.map V.int):=by rw[ar nRL];exact e2
   symm;rw[ia e2'];refine⟨by rw[NI];exact aJ #[0],?_⟩;symm;refine⟨.inr ⟨by decide,by decide⟩,by decide,_,_,fs++[ls[j.toNat]],ls.eraseIdx j.toNat,rfl,(s2.own hL).own (s1.free hR),?_,?_,?_,by simp[hl]⟩
   . rw[ar nRL.symm,ao,zT]
   . rw[ao];simp
   . have p1:=xn ls j.toNat hj;have p2:=RM fs p1;refine List.Perm.trans ?_ hp;rw[P7];exact p2
 . rintro σ H2 ⟨num,kv,fs,ls,rfl,s2,e1,e2,hp,hl⟩;symm;have hnd:(fs++ls).Nodup:=hp.nodup_iff.mpr (Gb many);have hm:∀ x∈fs,0<=x/\x<many:=fun x hx=>DQ (hp.mem_iff.mp (Oj.mpr (.inl hx)))
   have ef:iN (fs.map Int.toNat)=fs:=by
    unfold iN;rw[OE]
    conv=>rhs;rw[← List.map_id fs]
    exact QL fun x hx=>by have:=hm x hx;show((x.toNat:Nat):Int)=x;omega
   refine q R (fs.map Int.toNat) H2 s2 (s1.free hR) (by rw[ef];exact e2) ?_ ?_ ?_
   . have h1:=(Pk.mp hnd).1;rw[← ef] at h1;exact sS _ h1
   . intro c hc;obtain⟨x,hx,rfl⟩:=N9.mp hc;have:=hm x hx;omega
   . rw[NI,hl];omega
def hE(K:Frag):Sp:=fun vs H Q _=>∃ f C fl cs,vs=[.ref f,.ref C]/\JQ H f C fl cs/\∀(l:Addr) (ds:List Nat) (H':Hp),Same H H'->H l=none->H' l=↥((iN ds).map V.int)->ds.Sublist cs->(cs≠[]->ds≠[])->Chn true fl ds->Q (.ref l) H'
def Hr(K:Frag):TS:=#[":nQmbsc2vemb>bi03bi0bi2'c`0df#1 NEcGW2a3eo",(rU fun i=>.int (-i))]
def kF(K:Frag):TS:=#[":glveh#2 gIwc1h#3 }icj2"]
def ID {D:Ends} {f R:Addr} {fl:∅} {ds:List Nat} {n:Nat} {v1:Option V} (ef:H f=↥(fl.map V.int)) (eR:H R=↥((iN ds).map V.int)) (hl:ds.length<=16) (hd:∀ x∈ds,x<fl.length) (hn:n<fl.length) (hC:Chn true fl ds)
  (k1:Chn true fl (ds++[n])->∀ H',Same H H'->D.nx [↑f,v1,↑R,⇑(n:Int)] (upd H' R (.lst ((iN (ds++[n])).map V.int))))
  (k2:ds≠[]->∀ H',Same H H'->D.nx [↑f,v1,↑R,⇑(n:Int)] H'):
  Hr K D [↑f,v1,↑R,⇑(n:Int)] H:=by
 have app:∀ H',Same H H'->Chn true fl (ds++[n])->tyV K "list" (V.ref R) H'/\bp (V.ref R) [V.int (n:Int)] H' fun x H1=>D.nx [↑f,v1,↑R,⇑(n:Int)] H1:=fun H' s c=>⟨bL (s _ _ eR),by
  rw[ia (s _ _ eR)];exact⟨by rw[NI];unfold iN;rw[NI];exact aJ #[0],by have:=k1 c H' s;unfold iN at this ⊢;rw[OB,OB] at this;exact this⟩⟩
 unfold Hr;rw[aC];symm;refine⟨aW #[1],fun e he=>?_⟩;obtain⟨H1,z9,s1,ee⟩:∃ z,upd H e (.lst [])=z/\Same H z/\z e=↥(([]:∅).map V.int):=a9 _ he;rw[z9];refine lL (s1 _ _ eR) ee ?_;symm;by_cases h0:ds=[]
 . refine cg (NP (by rw[h0];rfl)) ?_;symm;refine app H1 s1 ?_;rw[h0];unfold Chn;simp[sgAt,risB,iN]
 . refine cj (NL (by unfold iN;simp[h0])) ?_;have dp:0<ds.length:=List.length_pos_iff.mpr h0;have il:(iN ds).length=ds.length:=by unfold iN;rw[NI]
   have sl:(sgAt fl (iN ds)).length=ds.length:=by unfold sgAt iN;simp
   have la:atI ((iN ds).map V.int) (-1)=some (V.int ((iN ds).getD ((iN ds).length-1) 0)):=xD #[0];have lm:=BZ (fJ (ms:=iN ds) (k:=(iN ds).length-1) #[0]);have lt:=hd _ lm.2
   have sg:fl.getD ((iN ds).getD ((iN ds).length-1) 0).toNat 0=(sgAt fl (iN ds)).getD ((sgAt fl (iN ds)).length-1) 0:=by
    rw[sl,← il];exact(Gz #[0]).symm
   symm;refine ixI (s1 _ _ ef) #[0] #[0] ?_;refine ixL (s1 _ _ eR) la ?_;refine ixI (s1 _ _ ef) lm.1 #[0] ?_;symm;rw[sg,OF];by_cases h1:(sgAt fl (iN ds)).getD ((sgAt fl (iN ds)).length-1) 0<fl.getD n 0
   . refine cg (NP h1) ?_;symm;refine app H1 s1 ?_;unfold Chn at hC ⊢;rw[Oh rfl] at hC ⊢;rw[Gy];refine B0 hC fun y hy=>?_;rw[List.getLast?_eq_getElem?] at hy;rw[List.getD,hy] at h1;exact h1
   . refine cj (NL h1) ?_;symm;exact k2 h0 H1 s1
def xP(h:hE K vs H Q E):kF K (eD9 Q) (start ["_law_filling","_law_cells","_law_found","_law_cell"] vs) H:=by
 obtain⟨f,C,fl,cs,rfl,X,q⟩:=h;ac_nf;unfold kF;symm;refine⟨aW #[1],fun R hR=>?_⟩;obtain⟨H1,z9,s1,eR⟩:∃ z,upd H R (.lst [])=z/\Same H z/\z R=↥((iN []).map V.int):=a9 _ hR;rw[z9];refine⟨⟨_,N5 (s1 _ _ X.C)⟩,?_⟩;have c0:Chn true fl []:=by unfold Chn;simp[sgAt,risB,iN]
 refine b7 (K:=K) (xs:=(iN cs).map V.int) (fun i σ H'=>∃(v3:Option V) (ds:List Nat),σ=[↑f,↑C,↑R,v3]/\Same H H'/\H' R=↥((iN ds).map V.int)/\ds.Sublist (cs.take i)/\(0<i->ds≠[])/\Chn true fl ds) ⟨none,[],rfl,s1,eR,List.nil_sublist _,fun h=>absurd h (O9 _),c0⟩ (fun i σ H' _ ⟨_,_,_,s,_⟩=>N5 (s _ _ X.C)) ?_ ?_
 . rintro i v σ H2 hv ⟨v3,ds,rfl,s2,e2,sub,ne,hC⟩;obtain⟨c,hc,rfl⟩:=bi hv
   have hcn:∃ n,cs[i]? =some n/\c=(n:Int):=by
    unfold iN at hc;rw[NN] at hc;obtain⟨n,hn,rfl⟩:=Qo.mp hc;exact⟨n,hn,rfl⟩
   obtain⟨n,hn,rfl⟩:=hcn;have dl:ds.length<=16:=NS sub.length_le (by rw[OP];have:=X.len;omega);have dlt:∀ x∈ds,x<fl.length:=fun x hx=>X.lt x (Pi (sub.subset hx));have tk:cs.take (i+1)=cs.take i++[n]:=by rw[Pu,hn];rfl
   rw[aQ];refine ID (s2 _ _ X.f) e2 dl dlt (X.lt n (NV hn)) hC (fun c H3 s3=>?_) (fun h0 H3 s3=>?_)
   . exact⟨_,ds++[n],rfl,(s2.trans s3).own hR,ao,by rw[tk];exact sub.append (List.Sublist.refl _),fun _=>by simp,c⟩
   . exact⟨_,ds,rfl,s2.trans s3,s3 _ _ e2,sub.trans (by rw[tk];exact Rf _ _),fun _=>h0,hC⟩
 . rintro σ H2 ⟨v3,ds,rfl,s2,e2,sub,ne,hC⟩;rw[NI] at ne;rw[NI] at sub;have il:(iN cs).length=cs.length:=by unfold iN;rw[NI]
   rw[il] at ne sub;rw[O2] at sub;symm;exact q R ds H2 s2 hR e2 sub (fun h=>ne (by cases cs with | nil=>exact absurd rfl h | cons _ _=>simp)) hC
def Hs:((List.range 64).all fun m=>(List.range 6).all fun o=>decide (decide (Builtin.bitAnd ((m:Int)/2^o) 1=1)=stB (m:Int) (1+(o:Int))))=true:=by decide+kernel
def JT{m o:Int}(m0:0<=m)(m1:m<64)(o0:1<=o)(o1:o<=6):decide (Builtin.bitAnd (m/2^(o-1).toNat) 1=1)=stB m o:=by
 have t:=Oy (Oe.mp (Oe.mp Hs m.toNat (N8.mpr #[0])) (o-1).toNat (N8.mpr #[0]));have e1:((m.toNat:Nat):Int)=m:=by omega
 have e2:1+(((o-1).toNat:Nat):Int)=o:=by omega
 rw[e1,e2] at t;exact t
def kG(K:Frag):Sp:=fun vs H Q _=>∃ m:Int,vs=[.int m]/\0<=m/\m<64/\∀(l:Addr) (ss:∅) (H':Hp),Same H H'->H l=none->H' l=↥(ss.map V.int)->ss.length<=4->(∀ s∈ss,1<=s/\s<=4/\stB m s=true)->Q (.ref l) H'
def kH(K:Frag):TS:=#[":jx&--0 'zadf#1 adf#5 eh#1 mbscb~/b~A2bH1df#1 df#1 df#1 1"]
def xQ(h:kG K vs H Q E):kH K (eD9 Q) (start ["_law_mask"] vs) H:=by
 obtain⟨m,rfl,m0,m1,q⟩:=h;ac_nf;unfold kH;symm;refine⟨1,5,rfl,⟨by decide,by decide,by decide,by decide⟩,?_⟩;refine d4 (fun(i:Nat)=>stB m (1+(i:Int))) (fun(i:Nat)=>1+(i:Int)) #[1] ?_ ?_ ?_
 . intro i H4 R4 hi s4 k4;have hi':i<4:=hi;show tTest _ [none,⇑(1+(i:Int)),⇑m] H4 R4;symm;refine⟨by omega,?_⟩;rw[JT m0 m1 #[0] #[0]];exact k4 _ (NK _)
 . intro i H4 Q4 hi hb4 s4 k4;show tVar 1 [none,⇑(1+(i:Int)),⇑m] H4 Q4;symm;exact k4 _ (NK _)
 . intro l H1 hl s1 el;refine q l _ H1 s1 hl el ?_ ?_
   . rw[NI];exact NS (NX _ _) #[1]
   . intro s hs;obtain⟨i,hi,rfl⟩:=N9.mp hs;have h1:=Of.mp hi;have h2:i<4:=N8.mp h1.1;exact⟨by omega,by omega,h1.2⟩
def EW:BX (fun h w=>(List.range (h*w).toNat).all fun(c:Nat)=>decide (nearL h w c).Nodup)=true:=by decide+kernel
variable{h w g:Int}
def JU{c:Int}(F:FlOk h w g)(c0:0<=c)(c1:c<h*w):(nearL h w c).Nodup:=by
 have t:=Oe.mp (zY EW F) c.toNat (N8.mpr #[0]);have e1:((c.toNat:Nat):Int)=c:=by omega
 rw[e1,NO] at t;exact t
def rq{c:Int}(F:FlOk h w g)(c0:0<=c)(c1:c<h*w):(nearL h w c).length<=16:=by
 have t:=xJ F c0 c1;rw[t.1];exact NS (vY ..) #[1]
def jD(K:Frag):Sp:=fun vs H Q _=>∃(p S:Addr) (h w g:Int) (ss:∅),vs=[.ref p,.ref S]/\IsFl H p h w g/\FlOk h w g/\H S=↥(ss.map V.int)/\ss.length<=16/\(∀ x∈ss,0<=x/\x<h*w)/\∀ b H',Same H H'->Q (.bl b) H'
def gX(K:Frag):TS:=#[":jbscpya2epya1e"]
def kQ(K:Frag):TS:=#[":g'Fmb<3pya2eglbt2x&--21 wc,'eca0abi23eh#1 SmbKcB13mbKcM121h#2 lbt3df#1 h#3 }jc"]
def jE(K:Frag):TS:=#[":gl~n~o1~x~ddf#1 h#2 gldf#0 h#3 }kc"]
def wt(h:jD K vs H Q E):jE K (eD9 Q) (start ["_law_floor_here","_law_some","_law_seen","_law_at"] vs) H:=by
 obtain⟨p,S,h,w,g,ss,rfl,hp,F,hS,sn,sin,q⟩:=h;ac_nf;unfold jE;symm;refine w9 hS fun L hL=>?_;rw[show(some (1:Int))=some (((1:Nat):Int)) from rfl,Gp V.int];obtain⟨H1,z9,s1,eL⟩:=a9 (.lst ((ss.take 1).map V.int)) hL;rw[z9]
 have n1:(ss.take 1).Nodup:=by
  cases ss with
  | nil=>simp
  | cons x r=>simp
 symm;unfold kQ;rw[az];generalize hW:gX K=W at*
 refine⟨fun m σ H'=>∃(L:Addr) (xs:∅) (i:Nat),σ=[↑p,↑S,↑L,⇑(i:Int)]/\Same H H'/\H' L=↥(xs.map V.int)/\xs.Nodup/\(∀ x∈xs,x∈ss)/\i<=xs.length/\m=17-i,
  ⟨_,L,ss.take 1,0,rfl,s1,eL,n1,fun x hx=>Pi hx,Ox _,rfl⟩,?_⟩
 rintro m σ H2 ⟨L2,xs,i,rfl,s2,e2,nd,sub,il,rfl⟩;have xl:xs.length<=ss.length:=iG nd sub;symm;rw[aS e2,NI];symm;by_cases hi:(i:Int) < (xs.length:Int)
 . refine cg (NP hi) ?_;refine⟨fun σ H'=>∃(L:Addr) (xs:∅),σ=[↑p,↑S,↑L,⇑((i+1:Nat):Int)]/\Same H H'/\H' L=↥(xs.map V.int)/\xs.Nodup/\(∀ x∈xs,x∈ss)/\i+1<=xs.length,fun σ' H' ⟨L',xs',e,s',e',nd',sub',il'⟩=>⟨17 - (i+1),by omega,L',xs',i+1,e,s',e',nd',sub',il',rfl⟩,?_⟩;have hxm:xs.getD i 0∈ss:=sub _ (fJ #[0]);have hxb:=sin _ hxm;symm;refine ixI e2 #[0] #[0] ?_;rw[OF];refine⟨p,h,w,g,_,rfl,s2 _ _ hp,F,fun N H3 s3 hN eN=>?_⟩;have s23:=s2.trans s3;symm;refine⟨⟨_,N5 eN⟩,?_⟩;refine aT (fun z=>decide (z∈ss)&&!decide (z∈xs)) (fun z=>z) (NS (rq F hxb.1 hxb.2) #[1]) (N5 eN) ?_ ?_ ?_
   . intro x H4 R4 hx s4 k4;show tAnd _ _ [none,⇑x,↑L2,↑S] H4 R4;symm;rw[qK ((s23.trans s4) _ _ hS)];symm
     cases hb:decide (x∈ss) with
     | false=>
      rw[hb,NZ] at k4;exact k4 _ (NK _)
     | true=>
      rw[hb,N2] at k4;refine iteT ?_;symm;rw[jV ((s3.trans s4) _ _ e2)];symm;exact k4 _ (NK _)
   . intro x H4 Q4 hx hb4 s4 k4;show tVar 1 [none,⇑x,↑L2,↑S] H4 Q4;symm;exact k4 _ (NK _)
   . intro A H4 hA s4 eA;have eA:H4 A=↥(((nearL h w (xs.getD i 0)).filter fun z=>decide (z∈ss)&&!decide (z∈xs)).map V.int):=by rw[Pa] at eA;exact eA
     have nd2:((nearL h w (xs.getD i 0)).filter fun z=>decide (z∈ss)&&!decide (z∈xs)).Nodup:=(JU F hxb.1 hxb.2).filter _
     have sub2:∀ z∈(nearL h w (xs.getD i 0)).filter fun z=>decide (z∈ss)&&!decide (z∈xs),z∈ss/\z∉xs:=fun z hz=>by
      have:=(Of.mp hz).2;rw[Om,NO,P8,Pl] at this;exact this
     generalize (nearL h w (xs.getD i 0)).filter (fun z=>decide (z∈ss)&&!decide (z∈xs))=ys at*;have nd3:(xs++ys).Nodup:=Pk.mpr ⟨nd,nd2,fun a ha b hb e=>(sub2 b hb).2 (e ▸ ha)⟩
     have sub3:∀ x∈xs++ys,x∈ss:=fun x hx=>by
      rcases Oj.mp hx with hx | hx
      . exact sub x hx
      . exact(sub2 x hx).1
     have l3:=iG nd3 sub3;rw[N0] at l3;refine ja ((s3.trans s4) _ _ e2) eA (by rw[NI,NI];omega) fun r hr=>?_;have s5:Same H4 (upd H4 r (.lst (xs.map V.int++ys.map V.int))):=(NK H4).laid hr;have er:(upd H4 r (.lst (xs.map V.int++ys.map V.int))) r=↥((xs++ys).map V.int):=by rw[ao,OB]
     generalize upd H4 r (.lst (xs.map V.int++ys.map V.int))=H5 at*;symm;exact⟨r,xs++ys,rfl,(s23.trans s4).trans s5,er,nd3,sub3,by rw[N0];omega⟩
 . refine cj (NL hi) ?_;subst hW;unfold gX;symm;rw[aS e2,aS (s2 _ _ hS)];symm;exact q _ H2 s2
def iu(K:Frag):Sp:=fun vs H Q _=>∃(p f:Addr) (h w g s:Int) (fl:∅) (x:Str),vs=[.ref p,.ref f,.str x,.int s]/\IsFl H p h w g/\FlOk h w g/\H f=↥(fl.map V.int)/\fl.length=(h*w).toNat/\∀ b H',Same H H'->Q (.bl b) H'
def EX(K:Frag):TS:=#[":glva4abt4df#1 abt4bi0df#1 abtbt4bi0df#1 df#1 eh#6 nSmb>bCbt4df#1 bi0df#1 df#0 mbscx&--5 wc6h#1 mbKcM121vejdFBo"]
def di(K:Frag):TS:=#[":jbscx&--05 wc5h#1 mbAcpyax&--3 wc,'eca2a1eh#1 mbKcB121edf#2 1ve"]
def gc(K:Frag):TS:=#[":gnmbsc2dqr`0jdFMo}lc",[106,111,105,110,101,100]]
def ck(K:Frag):TS:=#[":gnRz,}mca0a5ejdFBo}nc"]
def jQ(K:Frag):TS:=#[":gnmbsc2dqr`0gIwc5h#4 }ocjdFMo}pc",[110,111,115,113,117,97,114,101]]
def iw(K:Frag):TS:=#[":glx&--13 Uapya1eeh#1 mbscbi2131h#5 }qc"]
section
variable{K:Frag}{H:Hp}{Q:VK}{p f S:Addr}{h w g s:Int}{fl ss:∅}{x:Str}
def EY{v2 v3 v4 v6:Option V}(hp:IsFl H p h w g)(F:FlOk h w g)(eS:H S=↥(ss.map V.int))(sn:ss.length<=16)(sin:∀ x∈ss,0<=x/\x<h*w)(q:∀ b H',Same H H'->Q (.bl b) H'):
  di K (eD9 Q) [↑p,↑f,v2,v3,v4,↑S,v6] H:=by
 unfold di;symm;refine⟨⟨_,N5 eS⟩,?_⟩;refine aT (fun z=>!decide ((((nearL h w z).filter fun y=>decide (y∈ss)).length:Int)=2)) (fun z=>z) #[0] (N5 eS) ?_ ?_ ?_
 . intro z H4 R4 hz s4 k4;have bz:=sin z hz;show tTest _ [none,⇑z,↑p,↑S] H4 R4;symm;refine⟨p,h,w,g,_,rfl,s4 _ _ hp,F,fun N H5 s5 hN eN=>?_⟩;symm;refine⟨⟨_,N5 eN⟩,?_⟩;refine aT (fun y=>decide (y∈ss)) (fun y=>y) (NS (rq F bz.1 bz.2) #[1]) (N5 eN) ?_ ?_ ?_
   . intro y H6 R6 hy s6 k6;show tTest _ [none,⇑y,↑S] H6 R6;symm;rw[qK ((s4.trans (s5.trans s6)) _ _ eS)];symm;exact k6 _ (NK _)
   . intro y H6 Q6 hy hb6 s6 k6;show tVar 1 [none,⇑y,↑S] H6 Q6;symm;exact k6 _ (NK _)
   . intro A H6 hA s6 eA;rw[aS eA,NI,NI];symm;exact k4 _ (s5.trans s6)
 . intro z H4 Q4 hz hb4 s4 k4;show tVar 1 [none,⇑z,↑p,↑S] H4 Q4;symm;exact k4 _ (NK _)
 . intro A H4 hA s4 eA;symm;refine⟨aW #[1],fun e he=>?_⟩;obtain⟨H5,z9,s5,ee⟩:∃ z,upd H4 e (.lst [])=z/\Same H4 z/\z e=↥(([]:∅).map V.int):=a9 _ he;rw[z9];refine lL (s5 _ _ eA) ee ?_;exact q _ H5 (s4.trans s5)
theorem EZ{v3 v4 v6:Option V}(hp:IsFl H p h w g)(F:FlOk h w g)(eS:H S=↥(ss.map V.int))(sn:ss.length<=16)(sin:∀ x∈ss,0<=x/\x<h*w)(q:∀ b H',Same H H'->Q (.bl b) H'):
  ck K (eD9 Q) [↑p,↑f,some (.str x),v3,v4,↑S,v6] H:=by
 unfold ck;rw[az,aC];generalize hW:gc K=W at*;symm;refine⟨p,S,h,w,g,ss,rfl,hp,F,eS,sn,sin,fun b H1 s1=>?_⟩
 cases b with
 | false=>
  refine⟨false,rfl,iteT ?_⟩;symm;exact q _ H1 s1
 | true=>
  refine⟨true,rfl,iteF ?_⟩;symm;subst hW;unfold gc;rw[az,aC];generalize hW:di K=W at*;symm;by_cases hx:x=tx [106,111,105,110,101,100]
  . refine cg (NP hx) ?_;symm;exact q _ H1 s1
  . refine cj (NL hx) ?_;symm;subst hW;exact EY (s1 _ _ hp) F (s1 _ _ eS) sn sin fun b H' s'=>q b H' (s1.trans s')
theorem IE {D:Ends} {z:Int} {v1 v2 v3 v6:Option V} (hp:IsFl H p h w g) (F:FlOk h w g) (eS:H S=↥(ss.map V.int))
  (k1:∀ H',Same H H'->D.rt (.bl false) H') (k2:∀ v6 H',Same H H'->D.nx [↑p,v1,v2,v3,⇑z,↑S,v6] H'):
  EX K D [↑p,v1,v2,v3,⇑z,↑S,v6] H:=by
 have w0:=F.w0;unfold EX;symm;refine ixT hp (v:=V.int w) rfl ?_;symm;refine ixT hp (v:=V.int w) rfl ?_;symm;refine⟨lnR rfl,fun M hM=>?_⟩;obtain⟨H1,z9,s1,eM⟩:∃ z8,upd H M (.lst [V.int z,V.int (z+1),V.int (z+w),V.int (z+w+1)])=z8/\Same H z8/\z8 M=↥(([z,z+1,z+w,z+w+1]:∅).map V.int):=a9 _ hM;rw[z9];rw[aC];symm;refine ixT (s1 _ _ hp) (v:=V.int w) rfl ?_;symm;refine⟨by omega,?_⟩
 cases hb:decide (0 < (z+1)%w) with
 | false=>
  refine iteF ?_;exact k2 _ H1 s1
 | true=>
  refine iteT ?_;symm;refine⟨⟨_,N5 eM⟩,?_⟩;refine aT (fun y=>!decide (y∈ss)) (fun y=>y) (by show(4:Nat)<=900;decide) (N5 eM) ?_ ?_ ?_
  . intro y H6 R6 hy s6 k6;show tTest _ [none,⇑y,↑S] H6 R6;symm;rw[jV ((s1.trans s6) _ _ eS)];symm;exact k6 _ (NK _)
  . intro y H6 Q6 hy hb6 s6 k6;show tVar 1 [none,⇑y,↑S] H6 Q6;symm;exact k6 _ (NK _)
  . intro A H6 hA s6 eA;symm;refine⟨aW #[1],fun e he=>?_⟩;obtain⟨H7,z9,s7,ee⟩:∃ z,upd H6 e (.lst [])=z/\Same H6 z/\z e=↥(([]:∅).map V.int):=a9 _ he;rw[z9];have s17:=s1.trans (s6.trans s7);refine lL (s7 _ _ eA) ee ?_;symm
    split
    . exact k1 H7 s17
    . exact k2 _ H7 s17
def tH{vs:List V}{E:XK}(h:iu K vs H Q E):iw K (eD9 Q) (start ["_law_floor_here","_law_filling","_law_word","_law_sign","_law_cell","_law_some","_law_square"] vs) H:=by
 obtain⟨p,f,h,w,g,s,fl,x,rfl,hp,F,ef,fn,q⟩:=h;have m16:=F.m;ac_nf;unfold iw;symm;rw[aS ef,NI];refine⟨_,rfl,by omega,by omega,?_⟩;refine d4 (fun(i:Nat)=>decide (fl.getD i 0=s)) (fun(i:Nat)=>(i:Int)) #[0] ?_ ?_ ?_
 . intro i H4 R4 hi s4 k4;have hi':i<fl.length:=by have:i < ((fl.length:Nat):Int).toNat:=hi;omega
   show tTest _ [none,⇑(0+(i:Int)),↑f,⇑s] H4 R4;rw[OU];symm;refine ixI (s4 _ _ ef) #[0] #[0] ?_;rw[OF];symm;exact k4 _ (NK _)
 . intro i H4 Q4 hi hb4 s4 k4;show tVar 1 [none,⇑(0+(i:Int)),↑f,⇑s] H4 Q4;rw[OU];symm;exact k4 _ (NK _)
 . intro S H1 hS s1 eS
   have sin:∀ x∈((List.range ((fl.length:Nat):Int).toNat).filter fun(i:Nat)=>decide (fl.getD i 0=s)).map (fun(i:Nat)=>(i:Int)),0<=x/\x<h*w:=fun x hx=>by
    obtain⟨i,hi,rfl⟩:=N9.mp hx;have:=N8.mp (Of.mp hi).1;omega
   have sn:(((List.range ((fl.length:Nat):Int).toNat).filter fun(i:Nat)=>decide (fl.getD i 0=s)).map (fun(i:Nat)=>(i:Int))).length<=16:=by
    rw[NI];refine NS (NX _ _) ?_;rw[OK];omega
   generalize ((List.range ((fl.length:Nat):Int).toNat).filter fun(i:Nat)=>decide (fl.getD i 0=s)).map (fun(i:Nat)=>(i:Int))=ss at*;have fin:∀ H2,Same H1 H2->ck K (eD9 Q) [↑p,↑f,some (.str x),⇑s,none,↑S,none] H2:=fun H2 s2=>EZ ((s1.trans s2) _ _ hp) F (s2 _ _ eS) sn sin fun b H' s'=>q b H' ((s1.trans s2).trans s');symm;unfold jQ;rw[az,aC];generalize hW:ck K=W at*;symm;by_cases hx:x=tx [110,111,115,113,117,97,114,101]
   . refine cg (NP hx) ?_;generalize hV:EX K=V' at*;symm;subst hV;refine⟨⟨_,N5 eS⟩,?_⟩;refine b7 (K:=K) (xs:=ss.map V.int) (fun i σ H'=>∃ v4 v6:Option V,σ=[↑p,↑f,some (.str x),⇑s,v4,↑S,v6]/\Same H1 H') ⟨none,none,rfl,NK _⟩ (fun i σ H' _ ⟨_,_,_,s'⟩=>N5 (s' _ _ eS)) ?_ ?_
     . rintro i v σ H2 hv ⟨v4,v6,rfl,s2⟩;obtain⟨z,hz,rfl⟩:=bi hv;rw[aQ];exact IE ((s1.trans s2) _ _ hp) F (s2 _ _ eS) (fun H' s'=>q _ H' ((s1.trans s2).trans s')) fun v6 H' s'=>⟨_,_,rfl,s2.trans s'⟩
     . rintro σ H2 ⟨v4,v6,rfl,s2⟩;symm;exact q _ H2 (s1.trans s2)
   . refine cj (NL hx) ?_;symm;exact fin H1 (NK _)
end
structure Rl40(H:Hp)(p f:Addr)(h w g:Int)(fl:∅):Prop where
 p:IsFl H p h w g
 F:FlOk h w g
 m9:h*w<=9
 f:H f=↥(fl.map V.int)
 fll:fl.length=(h*w).toNat
 sg:∀ x∈fl,1<=x/\x<=g
structure IsRl(H:Hp)(T C:Addr)(r:RR):Prop where
 top:H T=some (.tup [.str (tx (nmC r.k)),.ref C,.int r.m,.str r.txt])
 C:H C=↥(r.cs.map V.int)
variable{H':Hp}{r:RR}
def IsRl.same{T C:Addr}(x:IsRl H T C r)(s:Same H H'):IsRl H' T C r:=⟨s _ _ x.top,s _ _ x.C⟩
def RlP(Q:VK)(H:Hp)(h w g:Int):Prop:=∀(T C:Addr) (r:RR) (H':Hp),Same H H'->IsRl H' T C r->r.Ok h w g->Q (.ref T) H'
def RlP.of{H1:Hp}(q:RlP Q H h w g)(s:Same H H1):RlP Q H1 h w g:=fun T C r H' s' x O=>q T C r H' (s.trans s') x O
def lr(K:Frag):Sp:=fun vs H Q _=>∃ p f n h w g fl,vs=[.int n,.ref p,.ref f]/\Rl40 H p f h w g fl/\RlP Q H h w g
def E2(K:Frag):TS:=#[":nmbKcMbi27x&--2 wc|ah#1 Jbi21NEcGW|aa7eo"]
def fv(K:Frag):TS:=#[":glveh#10 gIwc,'OcabCbP0df#32 df#2147483647 a3a3eh#7 }rcjTadqr`0a|aadf#0 abtdqr`1Ec~y'fdqr`2ax&-- wc|ah#1 Jp~ka1eee",[117,110,108,105,107,101],[117,110,108,105,107,101,32],[32]]
def fR(K:Frag):TS:=#[":gnmbsc4dqr`0gl,'Pca2a6eh#6 jTa4a6adf#0 abtdqr`1Ec~y'fdqr`2ax&-- wc6h#1 Jp~ka1eeeo}sc",[114,105,115,105,110,103],[114,105,115,105,110,103,32],[32]]
def fS(K:Frag):TS:=#[":gnmbsc4dqr`0glpyax&--25 wc6h#1 mbscbi2131eh#9 jTa4a6a5abtbtbtbtbtdqr`1p~ka9edqr`2p~ka5edqr`28eo}tc",[99,111,117,110,116],[99,111,117,110,116,32],[32]]
def fT(K:Frag):TS:=#[":gnmbsc4dqr`0jTa4a6adf#0 abtbtbtdqr`1p~kapya,'Pca2a6eeedqr`28eo}uc",[115,101,101,110],[115,101,101,110,32],[32]]
def fU(K:Frag):TS:=#[":gnmbsc4dqr`0jTa4a6adf#0 abtbtbtdqr`1p~kap~Zax&--2 wc6h#1 Jbi21eedqr`28eo}vc",[115,117,109],[115,117,109,32],[32]]
def dC(K:Frag):TS:=#[":glEc~y'fdqr`0ax&-- wc6h#1 Jp~ka1eeh#8 }wc",[32]]
def fV(K:Frag):TS:=#[":gnSmb>bC0df#8 df#4 z,}xca1a2a4a5ejTa4a~[a3ea5abtbt4dqr`0p~ka5eeo}yc",[32]]
def iV(K:Frag):TS:=#[":glbtdf#1 bCbP0df#8 bi1df#2 h#5 gl,'OcabCbP0df#32 df#2147483647 a3abtdf#1 bCbP0df#32 p~-a3adf#5 eeh#6 }zc"]
def iW(K:Frag):TS:=#[":glbivadqr`0adqr`1adqr`2adqr`3adqr`4adqr`5adqr`6adqr`7ebC0df#8 h#4 }Ac",[117,110,108,105,107,101],[115,117,109],[114,105,115,105,110,103],[115,101,101,110],[99,111,117,110,116],[106,111,105,110,101,100],[110,111,115,113,117,97,114,101],[114,105,110,103]]
def lu(K:Frag):TS:=#[":glpya2eh#3 }Bc"]
section
variable{K:Frag}{H:Hp}{Q:VK}{p f C:Addr}{h w g:Int}{fl:∅}{cs:List Nat}
def Rl40.same{H':Hp}(X:Rl40 H p f h w g fl)(s:Same H H'):Rl40 H' p f h w g fl:=⟨s _ _ X.p,X.F,X.m9,s _ _ X.f,X.fll,X.sg⟩
def Rl40.ac(X:Rl40 H p f h w g fl)(Y:Cs58 h w cs)(eC:H C=↥((iN cs).map V.int)):JQ H f C fl cs:=⟨X.f,eC,fun c hc=>by have:=Y.lt c hc;have:=X.fll;omega,Y.len,fun x hx=>by have:=X.sg x hx;have:=X.F.g1;omega⟩
def uO{r:RR}(q:RlP Q H h w g)(O:r.Ok h w g)(eC:H C=↥(r.cs.map V.int)):([V.str (tx (nmC r.k)),V.ref C,V.int r.m,V.str r.txt]:List V).length<=sizeLine/\∀ t,H t=none->Q (.ref t) (upd H t (.tup [V.str (tx (nmC r.k)),V.ref C,V.int r.m,V.str r.txt])):=
 ⟨lnR rfl,fun t ht=>q t C r _ ((NK H).laid ht) ⟨ao,(NK H).laid ht _ _ eC⟩ O⟩
def lw:∀ x y:List Nat,x.length+y.length<=1000->(tx x).length+(tx y).length<=sizeLine:=fun x y h=>by rw[ga,ga];exact aW h
def xR{k:RK}{n m:Nat}(F:FlOk h w g)(Y:Cs58 h w cs)(ha:allK k=false)(k0:k≠.Rule)(n0:n<=99)(nz:numK k=false->n=0)(m0:sgnK k=true->1<=(m:Int)/\(m:Int)<=g)(mz:sgnK k=false->m=0):RR.Ok ⟨k,n,m,cs,iN cs⟩ h w g:=ES F Y.ne Y.lt Y.nd Y.len ha k0 n0 nz m0 mz
def IF {D:Ends} {R:Addr} {ds:List Nat} {n:Nat} {v0 v1 v3 v4 v5 v6 v8 v9:Option V} (ef:H f=↥(fl.map V.int)) (eR:H R=↥((iN ds).map V.int)) (hl:ds.length<=16) (hd:∀ x∈ds,x<fl.length) (hn:n<fl.length)
  (k1:n∉ds->∀ H',Same H H'->D.nx [v0,v1,↑f,v3,v4,v5,v6,⇑(n:Int),v8,v9,↑R] (upd H' R (.lst ((iN (ds++[n])).map V.int))))
  (k2:ds≠[]->∀ H',Same H H'->D.nx [v0,v1,↑f,v3,v4,v5,v6,⇑(n:Int),v8,v9,↑R] H'):
  E2 K D [v0,v1,↑f,v3,v4,v5,v6,⇑(n:Int),v8,v9,↑R] H:=by
 unfold E2;rw[aC];symm;refine ixI ef #[0] #[0] ?_;refine⟨⟨_,N5 eR⟩,?_⟩;refine aT (fun _=>true) (fun x=>fl.getD x.toNat 0) (by unfold iN;rw[NI];omega) (N5 eR) ?_ ?_ ?_
 . intro x H4 R4 hx s4 k4;exact k4 _ (NK _)
 . intro x H4 Q4 hx hb4 s4 k4;show tOp cIx _ _ [none,⇑x,↑f] H4 Q4;symm;have m:=BZ hx;have:=hd _ m.2;exact ixI (s4 _ _ ef) m.1 #[0] (k4 _ (NK _))
 . intro S H3 hS s3 eS;have eS:H3 S=↥((sgAt fl (iN ds)).map V.int):=by rw[Pp.mpr (fun _ _=>rfl)] at eS;exact eS
   rw[jV eS,OF];by_cases h1:fl.getD n 0∈sgAt fl (iN ds)
   . rw[NP h1];symm;refine k2 (fun e=>?_) H3 s3;rw[e] at h1;cases h1
   . rw[NL h1];symm;refine⟨bL (s3 _ _ eR),?_⟩;rw[ia (s3 _ _ eR)];refine⟨by rw[NI];unfold iN;rw[NI];exact aJ #[0],?_⟩;have:=k1 (fun hm=>h1 (by unfold sgAt iN;exact N9.mpr ⟨(n:Int),N9.mpr ⟨n,hm,rfl⟩,by rw[OF]⟩)) H3 s3;unfold iN at this ⊢;rw[OB,OB] at this;exact this
def GA{D:Addr}{ds:List Nat}{t:List Nat}{R:VK}(Y:Cs58 h w ds)(F:FlOk h w g)(tl:t.length<=100)(eD:H D=↥((iN ds).map V.int))(k:∀ H',Same H H'->R (.str (tx (t++catL 32 (ds.map numC)))) H'):
  tyV K "str" (V.str (tx [32])) H/\(∃ xs,SqL K H D xs)/\CompR (Itl K D) (gName 1) tTrue (tCB kStr (tCons (tVar 1) tNil)) (fun l H'=>jY (V.str (tx [32])) [V.ref l] H' fun x H1=>cAdd (V.str (tx t)) x H1 R) [none,none] H:=by
 have jl:=lP Y.len;have eD:H D=↥((ds.map fun(n:Nat)=>(n:Int)).map V.int):=eD;refine⟨Ex,⟨_,N5 eD⟩,?_⟩;refine zU eD (by have:=Y.len;omega) (Y.lt100 F) fun l H2 hl s2 el=>?_
 refine DP el (sO (by have:=Y.len;simp;omega) (fun t ht=>by
  obtain⟨z,hz,rfl⟩:=N9.mp ht;obtain⟨x,_,rfl⟩:=N9.mp hz;rw[ga];exact NS gH #[1]) (by rw[ga];decide)) ?_
 rw[Bu,uH];exact strL #[0] #[0] (k H2 s2)
def AA{n:Int}{v4 v5 v6 v7 v8 v9:Option V}(X:Rl40 H p f h w g fl)(q:RlP Q H h w g):
  fv K (eD9 Q) [⇑n,↑p,↑f,⇑(fl.length:Int),v4,v5,v6,v7,v8,v9,none] H:=by
 have fll:=X.fll;have m9:=X.m9;have mp:1<=h*w:=by have:=X.F.h0;have:=X.F.w0;exact Rb #[0] #[0]
 unfold fv;generalize hU:E2 K=U at*;symm;refine⟨aW #[1],fun R hR=>?_⟩;obtain⟨H1,z9,s1,eR⟩:∃ z,upd H R (.lst [])=z/\Same H z/\z R=↥((iN []).map V.int):=a9 _ hR;rw[z9];refine⟨⟨by decide,by decide⟩,by decide,?_⟩;refine⟨_,_,_,rfl,by omega,by omega,by omega,fun D cs H2 s2 hD eD nd lt ln=>?_⟩;subst hU;have s12:=s1.trans s2;refine⟨D,rfl,⟨_,N5 eD⟩,?_⟩;have il:(iN cs).length=cs.length:=by unfold iN;rw[NI]
 have nRD:H1 R=↥((iN []).map V.int):=eR;refine b7 (K:=K) (xs:=(iN cs).map V.int) (fun i σ H'=>∃(v7:Option V) (ds:List Nat),σ=[⇑n,↑p,↑f,⇑(fl.length:Int),v4,v5,v6,v7,v8,v9,↑R]/\Same H H'/\H' D=↥((iN cs).map V.int)/\H' R=↥((iN ds).map V.int)/\ds.Sublist (cs.take i)/\(0<i->ds≠[])) ⟨_,[],rfl,s12,eD,s2 _ _ eR,List.nil_sublist _,fun h=>absurd h (O9 _)⟩ (fun i σ H' _ ⟨_,_,_,_,e,_⟩=>N5 e) ?_ ?_
 . rintro i v σ H3 hv ⟨v7,ds,rfl,s3,e3,eR3,sub,ne⟩;obtain⟨c,hc,rfl⟩:=bi hv
   have hcn:∃ n,cs[i]? =some n/\c=(n:Int):=by
    unfold iN at hc;rw[NN] at hc;obtain⟨n,hn,rfl⟩:=Qo.mp hc;exact⟨n,hn,rfl⟩
   obtain⟨k,hk,rfl⟩:=hcn;have dl:ds.length<=16:=NS sub.length_le (by rw[OP];omega);have dlt:∀ x∈ds,x<fl.length:=fun x hx=>by have:=lt x (Pi (sub.subset hx));omega
   have tk:cs.take (i+1)=cs.take i++[k]:=by rw[Pu,hk];rfl
   have nD:R≠D:=fun e=>by rw[e] at eR;rw[eR] at hD;cases hD
   rw[aQ];refine IF (s3 _ _ X.f) eR3 dl dlt (by have:=lt k (NV hk);omega) (fun _ H4 s4=>?_) (fun h0 H4 s4=>?_)
   . exact⟨_,ds++[k],rfl,(s3.trans s4).own hR,by rw[ar nD.symm];exact s4 _ _ e3,ao,by rw[tk];exact sub.append (List.Sublist.refl _),fun _=>by simp⟩
   . exact⟨_,ds,rfl,s3.trans s4,s4 _ _ e3,s4 _ _ eR3,sub.trans (by rw[tk];exact Rf _ _),fun _=>h0⟩
 . rintro σ H3 ⟨v7,ds,rfl,s3,e3,eR3,sub,ne⟩;rw[NI,il] at sub ne;rw[O2] at sub;have Y:Cs58 h w ds:=⟨ne #[0],nd.sublist sub,fun c hc=>by have:=lt c (sub.subset hc);omega,by have:=sub.length_le;omega⟩;symm;refine GA (K:=K) Y X.F #[1] eR3 fun H4 s4=>?_
   have e:[117,110,108,105,107,101,32]++catL 32 (ds.map numC)=catL 32 (rowW .Unlike 0 0 ds):=by
    show _=catL 32 (nmC .Unlike::ds.map numC);rw[fC (nP Y.ne),show nmC .Unlike=[117,110,108,105,107,101] from rfl];simp
   rw[e];exact uO (r:=⟨.Unlike,0,0,ds,iN ds⟩) (q.of (s3.trans s4)) (xR X.F Y rfl #[1] #[1] (fun _=>rfl) (fun e=>by cases e) (fun _=>rfl)) (s4 _ _ eR3)
def mV(k j:RK)(hk:k≠.Rule)(hj:j≠.Rule):decide (tx (nmC k)=tx (nmC j))=decide (k=j):=by
 revert hk hj
 cases k <;> cases j <;> decide+kernel
def B3{k:RK}{n:Int}{v5 v7 v8 v9:Option V}(hk:k≠.Rule)(X:Rl40 H p f h w g fl)(Y:Cs58 h w cs)(eC:H C=↥((iN cs).map V.int))(q:RlP Q H h w g):
  fR K (eD9 Q) [⇑n,↑p,↑f,⇑(fl.length:Int),some (.str (tx (nmC k))),v5,↑C,v7,v8,v9,none] H:=by
 unfold fR;rw[az,aC];generalize hW:fv K=W at*;symm;rw[show tx [114,105,115,105,110,103]=tx (nmC .Rising) from rfl,mV k .Rising hk #[1]];by_cases e:k=.Rising
 . refine cg (NP e) ?_;subst e;symm;refine⟨f,C,fl,cs,rfl,X.ac Y eC,fun D ds H1 s1 hD eD sub ne hC=>?_⟩;have Y1:=Y.sub sub (ne Y.ne);symm;refine GA (K:=K) Y1 X.F #[1] eD fun H2 s2=>?_
   have e:[114,105,115,105,110,103,32]++catL 32 (ds.map numC)=catL 32 (rowW .Rising 0 0 ds):=by
    show _=catL 32 (nmC .Rising::ds.map numC);rw[fC (nP Y1.ne),show nmC .Rising=[114,105,115,105,110,103] from rfl];simp
   rw[e];exact uO (r:=⟨.Rising,0,0,ds,iN ds⟩) (q.of (s1.trans s2)) (xR X.F Y1 rfl #[1] #[1] (fun _=>rfl) (fun e=>by cases e) (fun _=>rfl)) (s2 _ _ eD)
 . refine cj (NL e) ?_;symm;subst hW;exact AA X q
def B4{k:RK}{n m:Int}{v7 v9:Option V}(hk:k≠.Rule)(X:Rl40 H p f h w g fl)(Y:Cs58 h w cs)(eC:H C=↥((iN cs).map V.int))(m0:1<=m)(m1:m<=g)(q:RlP Q H h w g):
  fS K (eD9 Q) [⇑n,↑p,↑f,⇑(fl.length:Int),some (.str (tx (nmC k))),⇑m,↑C,v7,some (.str (tx (catL 32 (cs.map numC)))),v9,none] H:=by
 have g6:=X.F.g1;have cl:=Y.len;have jl:=lP cl;unfold fS;rw[az,aC];generalize hW:fR K=W at*;symm;rw[show tx [99,111,117,110,116]=tx (nmC .Count) from rfl,mV k .Count hk #[1]];by_cases e:k=.Count
 . refine cg (NP e) ?_;subst e;symm;refine⟨⟨_,N5 eC⟩,?_⟩;refine aT (fun x=>decide (fl.getD x.toNat 0=m)) (fun x=>x) (by unfold iN;rw[NI];omega) (N5 eC) ?_ ?_ ?_
   . intro x H4 R4 hx s4 k4;show tTest _ [none,⇑x,↑f,⇑m] H4 R4;symm;have b:=Hq Y X.fll X.sg hx;refine ixI (s4 _ _ X.f) b.1 b.2.1 ?_;symm;exact k4 _ (NK _)
   . intro x H4 Q4 hx hb4 s4 k4;show tVar 1 [none,⇑x,↑f,⇑m] H4 Q4;symm;exact k4 _ (NK _)
   . intro S H3 hS s3 eS;have eS:H3 S=↥((mkAt fl (iN cs) m).map V.int):=by rw[Pa] at eS;exact eS
     have sl:(mkAt fl (iN cs) m).length<=cs.length:=by unfold mkAt;have:=NX (fun c=>decide (fl.getD c.toNat 0=m)) (iN cs);unfold iN at this ⊢;rw[NI] at this;exact this
     symm;rw[aS eS,NI];generalize hN:(mkAt fl (iN cs) m).length=N at*;have t:=EV (i:=m) #[0] #[0];symm;rw[uJ (show N<100 by omega),t.1];simp only[nh];have ln:(numC N).length<=2:=gH;have lm:(numC m.toNat).length<=2:=gH;refine⟨uK #[0],lw _ _ (by simp;omega),lw _ _ (by simp;omega),t.2,lw _ _ (by simp;omega),lw _ _ (by simp;omega),lw _ _ (by simp;omega),?_⟩
     have e:[99,111,117,110,116,32]++numC N++[32]++numC m.toNat++[32]++catL 32 (cs.map numC)=catL 32 (rowW .Count N m.toNat cs):=by
      show _=catL 32 (nmC .Count::numC N::numC m.toNat::cs.map numC);rw[fC (by simp),fC (by simp),fC (nP Y.ne),show nmC .Count=[99,111,117,110,116] from rfl];simp
     rw[e,show m=(((m.toNat:Nat):Int)) by omega];exact uO (r:=⟨.Count,N,m.toNat,cs,iN cs⟩) (q.of s3) (xR X.F Y rfl #[1] #[0] (fun e=>by cases e) (fun _=>by omega) (fun e=>by cases e)) (s3 _ _ eC)
 . refine cj (NL e) ?_;symm;subst hW;exact B3 hk X Y eC q
def B5{k:RK}{n m:Int}{v7 v9:Option V}(hk:k≠.Rule)(X:Rl40 H p f h w g fl)(Y:Cs58 h w cs)(eC:H C=↥((iN cs).map V.int))(m0:1<=m)(m1:m<=g)(q:RlP Q H h w g):
  fT K (eD9 Q) [⇑n,↑p,↑f,⇑(fl.length:Int),some (.str (tx (nmC k))),⇑m,↑C,v7,some (.str (tx (catL 32 (cs.map numC)))),v9,none] H:=by
 have cl:=Y.len;have jl:=lP cl;unfold fT;rw[az,aC];generalize hW:fS K=W at*;symm;rw[show tx [115,101,101,110]=tx (nmC .Seen) from rfl,mV k .Seen hk #[1]];by_cases e:k=.Seen
 . refine cg (NP e) ?_;subst e;symm;refine⟨f,C,fl,cs,rfl,X.ac Y eC,fun D ds H1 s1 hD eD sub ne hC=>?_⟩;have dl:=sub.length_le;symm;rw[aS eD,NI,show(iN ds).length=ds.length by unfold iN;rw[NI]];symm;rw[uJ (show ds.length<100 by omega)];simp only[nh];have ln:(numC ds.length).length<=2:=gH;refine⟨uK #[0],lw _ _ (by simp;omega),lw _ _ (by simp;omega),lw _ _ (by simp;omega),?_⟩
   have e:[115,101,101,110,32]++numC ds.length++[32]++catL 32 (cs.map numC)=catL 32 (rowW .Seen ds.length 0 cs):=by
    show _=catL 32 (nmC .Seen::numC ds.length::cs.map numC);rw[fC (by simp),fC (nP Y.ne),show nmC .Seen=[115,101,101,110] from rfl];simp
   rw[e];exact uO (r:=⟨.Seen,ds.length,0,cs,iN cs⟩) (q.of s1) (xR X.F Y rfl #[1] #[0] (fun e=>by cases e) (fun e=>by cases e) (fun _=>rfl)) (s1 _ _ eC)
 . refine cj (NL e) ?_;symm;subst hW;exact B4 hk X Y eC m0 m1 q
def B6{k:RK}{n m:Int}{v7 v9:Option V}(hk:k≠.Rule)(X:Rl40 H p f h w g fl)(Y:Cs58 h w cs)(eC:H C=↥((iN cs).map V.int))(m0:1<=m)(m1:m<=g)(q:RlP Q H h w g):
  fU K (eD9 Q) [⇑n,↑p,↑f,⇑(fl.length:Int),some (.str (tx (nmC k))),⇑m,↑C,v7,some (.str (tx (catL 32 (cs.map numC)))),v9,none] H:=by
 have g6:=X.F.g1;have cl:=Y.len;have jl:=lP cl;unfold fU;rw[az,aC];generalize hW:fT K=W at*;symm;rw[show tx [115,117,109]=tx (nmC .Sum) from rfl,mV k .Sum hk #[1]];by_cases e:k=.Sum
 . refine cg (NP e) ?_;subst e;symm;refine⟨⟨_,N5 eC⟩,?_⟩;refine aT (fun _=>true) (fun x=>fl.getD x.toNat 0) (by unfold iN;rw[NI];omega) (N5 eC) ?_ ?_ ?_
   . intro x H4 R4 hx s4 k4;exact k4 _ (NK _)
   . intro x H4 Q4 hx hb4 s4 k4;show tOp cIx _ _ [none,⇑x,↑f] H4 Q4;symm;have b:=Hq Y X.fll X.sg hx;exact ixI (s4 _ _ X.f) b.1 b.2.1 (k4 _ (NK _))
   . intro S H3 hS s3 eS;have eS:H3 S=↥((sgAt fl (iN cs)).map V.int):=by rw[Pp.mpr (fun _ _=>rfl)] at eS;exact eS
     have bd:∀ x∈sgAt fl (iN cs),0<=x/\x<=6:=fun x hx=>by
      unfold sgAt at hx;obtain⟨z,hz,rfl⟩:=N9.mp hx;have b:=Hq Y X.fll X.sg hz;omega
     have sl:(sgAt fl (iN cs)).length=cs.length:=by unfold sgAt iN;simp
     have sb:=B1 _ bd;symm;refine AZ eS (fun x hx=>by have:=bd x hx;omega) #[0] ?_;have s99:(sgAt fl (iN cs)).sum<100:=by omega
     generalize hsm:(sgAt fl (iN cs)).sum=sm at*;have t:=EV (i:=sm) sb.1 s99;symm;rw[t.1];simp only[nh];have ln:(numC sm.toNat).length<=2:=gH;refine⟨t.2,lw _ _ (by simp;omega),lw _ _ (by simp;omega),lw _ _ (by simp;omega),?_⟩
     have e:[115,117,109,32]++numC sm.toNat++[32]++catL 32 (cs.map numC)=catL 32 (rowW .Sum sm.toNat 0 cs):=by
      show _=catL 32 (nmC .Sum::numC sm.toNat::cs.map numC);rw[fC (by simp),fC (nP Y.ne),show nmC .Sum=[115,117,109] from rfl];simp
     rw[e];exact uO (r:=⟨.Sum,sm.toNat,0,cs,iN cs⟩) (q.of s3) (xR X.F Y rfl #[1] #[0] (fun e=>by cases e) (fun e=>by cases e) (fun _=>rfl)) (s3 _ _ eC)
 . refine cj (NL e) ?_;symm;subst hW;exact B5 hk X Y eC m0 m1 q
def B7{k:RK}{n m:Int}{v7 v9:Option V}(hk:k≠.Rule)(X:Rl40 H p f h w g fl)(Y:Cs58 h w cs)(eC:H C=↥((iN cs).map V.int))(m0:1<=m)(m1:m<=g)(q:RlP Q H h w g):
  dC K (eD9 Q) [⇑n,↑p,↑f,⇑(fl.length:Int),some (.str (tx (nmC k))),⇑m,↑C,v7,none,v9,none] H:=by
 unfold dC;rw[az,bK];refine JR rfl eC Y.len (Y.lt100 X.F) fun H1 s1=>?_;generalize hW:fU K=W at*;symm;subst hW;exact B6 hk (X.same s1) Y (s1 _ _ eC) m0 m1 (q.of s1)
def B8{k:RK}{n m:Int}{v7 v9:Option V}(hk:k≠.Rule)(ek:4<n%8->allK k=true)(X:Rl40 H p f h w g fl)(Y:Cs58 h w cs)(eC:H C=↥((iN cs).map V.int))(m0:1<=m)(m1:m<=g)(q:RlP Q H h w g):
  fV K (eD9 Q) [⇑n,↑p,↑f,⇑(fl.length:Int),some (.str (tx (nmC k))),⇑m,↑C,v7,none,v9,none] H:=by
 have g6:=X.F.g1;have m9:=X.m9;have fll:=X.fll;have fin:∀ H1,Same H H1->dC K (eD9 Q) [⇑n,↑p,↑f,⇑(fl.length:Int),some (.str (tx (nmC k))),⇑m,↑C,v7,none,v9,none] H1:=fun H1 s1=>B7 hk (X.same s1) Y (s1 _ _ eC) m0 m1 (q.of s1);unfold fV;rw[az,aC];generalize hW:dC K=W at*;symm;refine⟨by decide,?_⟩;by_cases h4:4<n%8
 . refine cg (NP h4) ?_;symm;refine⟨p,f,h,w,g,m,fl,_,rfl,X.p,X.F,X.f,X.fll,fun b H1 s1=>?_⟩
   cases b with
   | false=>
    refine⟨false,rfl,?_⟩;exact fin H1 s1
   | true=>
    refine⟨true,rfl,?_⟩;have ka:=ek h4
    have kk:numK k=false/\sgnK k=true/\(nmC k).length<=10:=by
     revert ka
     cases k <;> decide
    refine iteT ?_;symm;refine⟨_,rfl,by omega,by omega,fun D hD=>?_⟩;obtain⟨H2,z9,s2,eD⟩:=a9 (.lst ((rngL 0 (fl.length:Int)).map V.int)) hD;rw[z9];have t:=EV (i:=m) #[0] #[0];have lm:(numC m.toNat).length<=2:=gH;symm;rw[t.1];simp only[nh];refine⟨lw _ _ (by simp;omega),t.2,lw _ _ (by simp;omega),?_⟩
    have e:nmC k++[32]++numC m.toNat=catL 32 (rowW k 0 m.toNat []):=by
     unfold rowW;rw[kk.1,kk.2.1];show _=nmC k++32::numC m.toNat;simp
    have hm:(fl.length:Int)=h*w:=by
     have:=X.F.h0;have:=X.F.w0;have:0<=h*w:=Qa #[0] #[0];omega
    rw[e,show m=(((m.toNat:Nat):Int)) by omega];rw[hm] at eD;exact uO (r:=⟨k,0,m.toNat,[],rngL 0 (h*w)⟩) (q.of (s1.trans s2)) (Gg ka hk kk.1 kk.2.1 #[0] #[0]) eD
 . refine cj (NL h4) ?_;exact fin H (NK _)
abbrev Ca9(Z:Z5)(k:Nat)(x:Str)(ps:List Str)(sp:Sp):Prop:=Cal Z.P Z.w Z.K Z.mg Z.base k x ps sp
abbrev zf:List V:=[V.str (tx [117,110,108,105,107,101]),V.str (tx [115,117,109]),V.str (tx [114,105,115,105,110,103]),V.str (tx [115,101,101,110]),V.str (tx [99,111,117,110,116]),V.str (tx [106,111,105,110,101,100]),V.str (tx [110,111,115,113,117,97,114,101]),V.str (tx [114,105,110,103])]
def IG{j:Int}(j0:0<=j)(j1:j<8):∃ k:RK,k≠.Rule/\(4<j->allK k=true)/\atI zf j=some (V.str (tx (nmC k))):=by
 have e:j=0\/j=1\/j=2\/j=3\/j=4\/j=5\/j=6\/j=7:=by omega
 rcases e with rfl | rfl | rfl | rfl | rfl | rfl | rfl | rfl
 . exact⟨.Unlike,by decide,by decide,rfl⟩
 . exact⟨.Sum,by decide,by decide,rfl⟩
 . exact⟨.Rising,by decide,by decide,rfl⟩
 . exact⟨.Seen,by decide,by decide,rfl⟩
 . exact⟨.Count,by decide,by decide,rfl⟩
 . exact⟨.Joined,by decide,by decide,rfl⟩
 . exact⟨.NoSquare,by decide,by decide,rfl⟩
 . exact⟨.Ring,by decide,by decide,rfl⟩
def zg{vs:List V}{E:XK}(h:lr K vs H Q E):lu K (eD9 Q) (start ["_law_number","_law_floor_here","_law_filling","_law_many","_law_word","_law_sign","_law_cells","_law_cell","_law_end","_law_count","_law_some"] vs) H:=by
 obtain⟨p,f,n,h,w,g,fl,rfl,X,q⟩:=h;have fll:=X.fll;have m9:=X.m9;have g0:=X.F.g0;have mp:1<=h*w:=by have:=X.F.h0;have:=X.F.w0;exact Rb #[0] #[0]
 ac_nf;unfold lu;rw[az];generalize hW:iW K=W at*;symm;rw[aS X.f,NI];subst hW;unfold iW;rw[az];generalize hW:iV K=W at*;symm;refine⟨lnR rfl,fun U hU=>?_⟩;refine⟨by decide,?_⟩;have s1:Same H (upd H U (.lst zf)):=(NK H).laid hU;have eU:(upd H U (.lst zf)) U=↥zf:=ao;show cIx (V.ref U) (V.int (n%8)) (upd H U (.lst zf)) _;generalize upd H U (.lst zf)=H1 at*;obtain⟨k,k0,ka,ek⟩:=IG (j:=n%8) (Oz n #[1]) (Ow n #[1]);refine ixL eU ek ?_;subst hW;unfold iV;generalize hW:fV K=W at*;symm;refine⟨⟨by decide,by decide⟩,?_⟩;refine ixT (s1 _ _ X.p) (v:=V.int g) rfl ?_;symm;have b0:=Oz (n/8) (show g≠0 by omega);have b1:=Ow (n/8) (show 0<g by omega);refine⟨by omega,?_⟩;symm;have mn:1<=(if (5:Int) < (fl.length:Int) then(5:Int) else(fl.length:Int))/\(if (5:Int) < (fl.length:Int) then(5:Int) else(fl.length:Int))<=fl.length:=by split <;> omega
 refine⟨⟨by decide,by decide⟩,by decide,⟨by decide,by decide⟩,?_⟩;generalize (if (5:Int) < (fl.length:Int) then(5:Int) else(fl.length:Int))=mm at*;have d0:=Oz (n/32) (show mm≠0 by omega);have d1:=Ow (n/32) (show 0<mm by omega);refine⟨by omega,?_⟩;refine⟨_,_,_,rfl,by omega,by omega,by omega,fun C cs H2 s2 hC eC nd lt ln=>?_⟩;subst hW;have Y:Cs58 h w cs:=⟨fun e=>by rw[e] at ln;simp at ln;omega,nd,fun c hc=>by have:=lt c hc;omega,by omega⟩;have s12:=s1.trans s2;exact B8 k0 ka (X.same s12) Y eC #[0] #[0] (q.of s12)
end
def E3{q:Addr}{ws:List Str}{w:Str}(hq:H q=↥(ws.map V.str))(hm:w∈ws)(ok:∀ x∈ws,PyData.strOk x=true)(hn:ws.length<=900)(h:Q (.int (ws.findIdx (· ==w):Nat)) H):jW K (.ref q) [.str w] H Q:=by
 have hlt:ws.findIdx (· ==w)<ws.length:=PF ⟨w,hm,by simp⟩;refine⟨ws.map PyData.str,.str w,ws.findIdx (· ==w),.lst (N5 hq) (.strs ws),.str w,yW fun d hd=>by obtain⟨x,hx,rfl⟩:=N9.mp hd;rw[PyData.canLay0];exact ok x hx,by rw[PyData.canLay0];exact ok w hm,?_,by omega,⟨.str ws[ws.findIdx (· ==w)],?_,?_⟩,fun m e hm2 he=>?_,h⟩
 . rw[show(PyData.str w).depth=0 by simp[PyData.depth]];omega
 . rw[NN,NJ hlt];rfl
 . have:=List.findIdx_getElem (w:=hlt);rw[oz,NO]
   simpa using this
 . have hml:m<ws.length:=by omega
   rw[NN,NJ hml] at he;cases he;have:=RA hm2;rw[oz,Pl]
   simpa using this
def E4:List (List Nat)->(St->Hp->(List V->Hp->Prop)->Prop)
 | []=>tNil
 | x::r=>tCons (tC (.str (tx x))) (E4 r)
def E5:List (List (List Nat))->(St->Hp->(List V->Hp->Prop)->Prop)
 | []=>tNil
 | p::r=>tCons (tLst (E4 p)) (E5 r)
theorem zh{σ:St}:∀(ps:List (List Nat)) (H:Hp) (Q:List V->Hp->Prop),Q (ps.map fun x=>V.str (tx x)) H->E4 ps σ H Q
 | [],H,Q,h=>h
 | x::r,H,Q,h=>by
  unfold E4;symm;exact zh r H _ h
theorem B9{σ:St}:∀(ps:List (List (List Nat))) (H:Hp) (Q:List V->Hp->Prop),(∀ p∈ps,p.length<=1000)->(∀(as:List Addr) (H':Hp),Same H H'->(∀ a∈as,H a=none)->as.length=ps.length->(∀(j:Nat) (a:Addr) (p:List (List Nat)),as[j]? =some a->ps[j]? =some p->H' a=↥(p.map fun x=>V.str (tx x)))->Q (as.map V.ref) H')->E5 ps σ H Q
 | [],H,Q,_,h=>h [] H (NK H) (fun _ h=>nomatch h) rfl fun j a p e _=>by simp at e
 | p::r,H,Q,hl,h=>by
  unfold E5;symm;refine zh p H _ ?_;refine⟨aW (by rw[NI];exact hl p Oc),fun t ht=>?_⟩;obtain⟨H1,z9,s1,et⟩:=a9 (.lst (p.map fun x=>V.str (tx x))) ht;rw[z9];refine B9 r H1 _ (fun p hp=>hl p (N3 _ hp)) fun as H2 s2 fr hl ha=>?_
  refine h (t::as) H2 (s1.trans s2) (fun a ha=>by
   rcases N4.mp ha with rfl | ha
   . exact ht
   . exact s1.free (fr a ha)) (by simp[hl]) fun j a q e1 e2=>?_
  match j,e1,e2 with
  | 0,e1,e2=>
   simp at e1 e2;subst e1 e2;exact s2 _ _ et
  | j+1,e1,e2=>exact ha j a q (by simpa using e1) (by simpa using e2)
def lx:RK->List TK
 | .Unlike=>[.only,.place,.pair,.only,.ways]
 | .Ring=>[.reach,.turn,.turn]
 | .Sum=>[.sum,.ways]
 | .Rising=>[.step,.ways]
 | .Seen=>[.ways]
 | .Count=>[.count,.ways]
 | .Joined=>[.reach]
 | .NoSquare=>[.square]
 | .Rule=>[]
abbrev ks40:List RK:=[.Sum,.Rising,.Seen,.Count,.Joined,.NoSquare]
def kI(K:Frag):Sp:=fun vs H Q _=>∃ k:RK,vs=[.str (tx (nmC k))]/\k≠.Rule/\∀(l:Addr) (H':Hp),Same H H'->H l=none->KdL H' l (lx k)->Q (.ref l) H'
def lX(K:Frag):TS:=#[":jbivavadqr`0adqr`1eavadqr`2adqr`1eavadqr`1eavadqr`3adqr`1eavadqr`4eavadqr`5eeEcG~Gc1a0e",[115,117,109],[119,97,121,115],[115,116,101,112],[99,111,117,110,116],[114,101,97,99,104],[115,113,117,97,114,101]]
def iy(K:Frag):TS:=#[":glvadqr`0adqr`1adqr`2adqr`3adqr`4adqr`5eh#1 }Cc",[115,117,109],[114,105,115,105,110,103],[115,101,101,110],[99,111,117,110,116],[106,111,105,110,101,100],[110,111,115,113,117,97,114,101]]
def iz(K:Frag):TS:=#[":gnmbsc0dqr`0jvadqr`1adqr`2adqr`2eo}Dc",[114,105,110,103],[114,101,97,99,104],[116,117,114,110]]
def kJ(K:Frag):TS:=#[":gnmbsc0dqr`0jvadqr`1adqr`2adqr`3adqr`1adqr`4eo}Ec",[117,110,108,105,107,101],[111,110,108,121],[112,108,97,99,101],[112,97,105,114],[119,97,121,115]]
def xS(h:kI K vs H Q E):kJ K (eD9 Q) (start ["_law_word","_law_words"] vs) H:=by
 obtain⟨k,rfl,hk,q⟩:=h;ac_nf;unfold kJ;rw[az,aC];generalize hW:iz K=W at*;symm;rw[show tx [117,110,108,105,107,101]=tx (nmC .Unlike) from rfl,mV k .Unlike hk #[1]];by_cases e:k=.Unlike
 . refine cg (NP e) ?_;subst e;symm;refine⟨lnR rfl,fun l hl=>?_⟩;exact q l _ ((NK H).laid hl) hl ao
 refine cj (NL e) ?_;symm;subst hW;unfold iz;rw[az,aC];generalize hW:iy K=W at*;symm;rw[show tx [114,105,110,103]=tx (nmC .Ring) from rfl,mV k .Ring hk #[1]];by_cases e2:k=.Ring
 . refine cg (NP e2) ?_;subst e2;symm;refine⟨lnR rfl,fun l hl=>?_⟩;exact q l _ ((NK H).laid hl) hl ao
 refine cj (NL e2) ?_;symm;subst hW;unfold iy;rw[az,bK,c9];refine zh (ks40.map nmC) H _ ?_;refine⟨lnR rfl,fun U hU=>?_⟩;obtain⟨H1,z9,s1,eU⟩:∃ z,upd H U (.lst ((ks40.map nmC).map fun x=>V.str (tx x)))=z/\Same H z/\z U=↥((ks40.map fun k=>tx (nmC k)).map V.str):=a9 _ hU;rw[z9];rw[aQ];dsimp only[List.set_cons_succ,List.set_cons_zero];unfold lX;rw[b5,e9,c9];refine B9 ((ks40.map lx).map fun ts=>ts.map tkC) H1 _ #[1] fun as H2 s2 fr hl ha=>?_;have hl6:as.length=6:=hl;refine⟨aW (by rw[NI];omega),fun V2 hV=>?_⟩;obtain⟨H3,z9,s3,eV⟩:=a9 (.lst (as.map V.ref)) hV;rw[z9];symm;refine⟨bL ((s2.trans s3) _ _ eU),?_⟩;have hmem:k∈ks40:=by revert e e2 hk;cases k <;> decide
 refine E3 ((s2.trans s3) _ _ eU) (N9.mpr ⟨k,hmem,rfl⟩) (fun x hx=>by
  obtain⟨j,_,rfl⟩:=N9.mp hx;exact HJ (Ki j)) #[1] ?_
 have ei:∃ i:Nat,i<6/\(ks40.map fun k=>tx (nmC k)).findIdx (· ==tx (nmC k))=i/\((ks40.map lx).map fun ts=>ts.map tkC)[i]? =some ((lx k).map tkC):=by
  revert e e2 hk
  cases k
  case Rule=>intro h;exact absurd rfl h
  case Unlike=>intro _ h;exact absurd rfl h
  case Ring=>intro _ _ h;exact absurd rfl h
  case Sum=>intros;exact⟨0,by decide,by decide+kernel,rfl⟩
  case Rising=>intros;exact⟨1,by decide,by decide+kernel,rfl⟩
  case Seen=>intros;exact⟨2,by decide,by decide+kernel,rfl⟩
  case Count=>intros;exact⟨3,by decide,by decide+kernel,rfl⟩
  case Joined=>intros;exact⟨4,by decide,by decide+kernel,rfl⟩
  case NoSquare=>intros;exact⟨5,by decide,by decide+kernel,rfl⟩
 obtain⟨i,i6,hi,hp⟩:=ei;rw[hi];have ea:as[i]? =some (as[i]'#[0]):=NJ #[0];refine ixL eV (v:=V.ref (as[i]'#[0])) (f7 (by rw[NN,ea];rfl)) ?_;have el:=s3 _ _ (ha i _ _ ea hp);refine q _ H3 ((s1.trans s2).trans s3) (s1.free (fr _ (Ot _))) ?_;unfold KdL;rw[el,OE,OE];rfl
def IH(t u:TK):decide (tx (tkC t)=tx (tkC u))=decide (t=u):=IB
def GB{xs:∅}{j:Int}(j0:0<=j)(j1:j<xs.length):atI (xs.map V.int) (-1-j)=some (V.int (xs.getD (xs.length-1-j.toNat) 0)):=by
 unfold atI ixN;rw[NI,Ob #[0],Oh #[0]];show(xs.map V.int)[(-1-j+(xs.length:Int)).toNat]? =_;rw[show(-1-j+(xs.length:Int)).toNat=xs.length-1-j.toNat by omega,NN,NJ #[0],List.getD,NJ #[0]];rfl
structure Mr40(H:Hp)(p A C:Addr)(h w g n z goal:Int)(cs ms:∅)(t:TK):Prop where
 p:IsFl H p h w g
 F:FlOk h w g
 A:H A=↥(ms.map V.int)
 mn:ms.length<=16
 C:H C=↥(cs.map V.int)
 cn:cs.length<=16
 n0:0<=n
 z0:0<=z
 z1:z<h*w
 go:t=.reach->1<=goal/\goal<=6
def MrP(Q:VK)(H:Hp):Prop:=∀(M:Addr) (xs:∅) (H':Hp),Same H H'->H M=none->H' M=↥(xs.map V.int)->xs.length<=100->Q (.ref M) H'
def MrP.of{H1:Hp}(q:MrP Q H)(s:Same H H1):MrP Q H1:=fun M xs H' s' hM e l=>q M xs H' (s.trans s') (s.free hM) e l
def ly(K:Frag):Sp:=fun vs H Q _=>∃ p A C h w g n z s goal cs ms t,vs=[.str (tx (tkC t)),.int n,.ref p,.ref A,.ref C,.int z,.int s,.int goal]/\Mr40 H p A C h w g n z goal cs ms t/\MrP Q H
def E6(K:Frag):TS:=#[":glbtx&--573 Uapya3eeh#1 SmbAc12mbscbi41b~ldf#1 bH3df#1 1vadf#0 eh#11 j~n~ovabi|bbC1pya|beabi|bbH'c`0df#1 bCbP1df#16 pya|bee~x~dbHdf#2 p'oabsc67e",(rU fun i=>.int (-i))]
def iA(K:Frag):TS:=#[":jve"]
def iX(K:Frag):TS:=#[":gnSmbsc0dqr`0mbscbC1df#2 df#1 jvabi|cbCbP1df#2 pya|ceeo}Fc",[116,117,114,110]]
def fW(K:Frag):TS:=#[":glbt,'eca2a5evadf#0 eh#12 }Gc"]
def fX(K:Frag):TS:=#[":gnmbsc0dqr`0}Hco}Ic",[114,101,97,99,104]]
def fY(K:Frag):TS:=#[":gnmbsc0dqr`0jvap}Jadf#0 abH5bivadf#0 adf#1 abi2df#1 abtbi2df#1 df#1 ebC1df#4 eeo}Kc",[115,113,117,97,114,101]]
def iY(K:Frag):TS:=#[":gnmbsc0dqr`0jvabi98abi9|aeo}Lc",[112,97,105,114]]
def iZ(K:Frag):TS:=#[":gnmbsc0dqr`0jvabtdf#1 bC1bi2df#2 eo}Mc",[112,108,97,99,101]]
def fZ(K:Frag):TS:=#[":gnmbsc0dqr`0jvabi98eo}Nc",[111,110,108,121]]
def i5(K:Frag):TS:=#[":glbC1pya9eh#8 glp~-abtbt8df#1 bCbP1df#16 pya9eabHpya9edf#1 eh#10 }Oc"]
def lz(K:Frag):TS:=#[":glbtx&--5 wc4h#1 mbAc121va5eh#9 }Pc"]
section
variable{K:Frag}{H:Hp}{Q:VK}{p A C O:Addr}{h w g n z s goal:Int}{cs ms os:∅}{t:TK}
def Mr40.same{H':Hp}(X:Mr40 H p A C h w g n z goal cs ms t)(s:Same H H'):Mr40 H' p A C h w g n z goal cs ms t:=⟨s _ _ X.p,X.F,s _ _ X.A,X.mn,s _ _ X.C,X.cn,X.n0,X.z0,X.z1,X.go⟩
def A0(q:MrP Q H){x:Int}:([V.int x]:List V).length<=sizeLine/\∀ l,H l=none->Q (.ref l) (upd H l (.lst [V.int x])):=⟨lnR rfl,fun l hl=>q l [x] _ ((NK H).laid hl) hl ao (by show(1:Nat)<=100;decide)⟩
def rz{x:Int}{xs:∅}(h:0<xs.length):0<=x % ((xs.length:Nat):Int)/\x % ((xs.length:Nat):Int) < ((xs.length:Nat):Int):=⟨Oz x #[0],Ow x #[0]⟩
def Ca{v8 v9 v10 v11:Option V}(X:Mr40 H p A C h w g n z goal cs ms t)(q:MrP Q H):
  fW K (eD9 Q) [some (.str (tx (tkC t))),⇑n,↑p,↑A,↑C,⇑z,⇑s,⇑goal,v8,v9,v10,v11,none] H:=by
 unfold fW;generalize hW:iX K=W at*;symm;refine⟨p,h,w,g,z,rfl,X.p,X.F,fun N H1 s1 hN eN=>?_⟩;have nl:=rq X.F X.z0 X.z1;symm;refine⟨lnR rfl,fun Z hZ=>?_⟩;obtain⟨H2,z9,s2,eZ⟩:∃ z,upd H1 Z (.lst [V.int 0])=z/\Same H1 z/\z Z=↥(([0]:∅).map V.int):=a9 _ hZ;rw[z9];refine ja (s2 _ _ eN) eZ (by rw[NI,NI];simp;omega) fun Y hY=>?_;have s3:Same H2 (upd H2 Y (.lst ((nearL h w z).map V.int++([0]:∅).map V.int))):=(NK H2).laid hY;have eY:(upd H2 Y (.lst ((nearL h w z).map V.int++([0]:∅).map V.int))) Y=↥((nearL h w z++[0]).map V.int):=by rw[ao,OB]
 generalize upd H2 Y (.lst ((nearL h w z).map V.int++([0]:∅).map V.int))=H3 at*;have s13:=s1.trans (s2.trans s3);have yl:0 < (nearL h w z++[0]).length:=by simp
 generalize nearL h w z++[0]=ys at*;subst hW;unfold iX;rw[az,aC];generalize hW:iA K=W at*
 have fin:W (eD9 Q) [some (.str (tx (tkC t))),⇑n,↑p,↑A,↑C,⇑z,⇑s,⇑goal,v8,v9,v10,v11,↑Y] H3:=by
  subst hW;unfold iA;symm;exact⟨aW #[1],fun l hl=>q l [] _ (s13.trans ((NK H3).laid hl)) (s13.free hl) ao #[1]⟩
 symm;by_cases e:tx (tkC t)=tx [116,117,114,110]
 . refine cg (NP e) ?_;symm;refine⟨by decide,?_⟩;by_cases e1:n%2=1
   . refine cg (NP e1) ?_;symm;rw[aS eY,NI];have b:=rz (x:=n/2) yl;symm;refine⟨⟨by decide,by decide⟩,by omega,?_⟩;refine ixI eY b.1 b.2 ?_;exact A0 (q.of s13)
   . refine cj (NL e1) ?_;exact fin
 . refine cj (NL e) ?_;exact fin
def II{v8 v9 v10:Option V}(hr:t=.reach)(X:Mr40 H p A C h w g n z goal cs ms t)(q:MrP Q H){D:Ends}(hD:D.rt=Q):
  E6 K D [some (.str (tx (tkC t))),⇑n,↑p,↑A,↑C,⇑z,⇑s,⇑goal,v8,v9,v10,none,none] H:=by
 have go:=X.go hr;have mn:=X.mn;unfold E6;symm;rw[aS X.A,NI];refine⟨_,rfl,by omega,by omega,?_⟩;refine d4 (fun(i:Nat)=>!decide ((i:Int)=z)&&decide (ms.getD i 0=1*2^(goal-1).toNat)) (fun(i:Nat)=>(i:Int)) #[0] ?_ ?_ ?_
 . intro i H4 R4 hi s4 k4;have hi':i<ms.length:=by have:i < ((ms.length:Nat):Int).toNat:=hi;omega
   show tAnd _ _ [none,⇑(0+(i:Int)),⇑z,⇑goal,↑A] H4 R4;rw[OU];symm
   cases hb:decide ((i:Int)=z) with
   | true=>
    rw[hb] at k4;exact k4 _ (NK _)
   | false=>
    rw[hb] at k4;refine iteT ?_;symm;refine ixI (s4 _ _ X.A) #[0] #[0] ?_;rw[OF];symm;refine⟨⟨by omega,by omega,by decide⟩,?_⟩;symm;exact k4 _ (NK _)
 . intro i H4 Q4 hi hb4 s4 k4;show tVar 1 [none,⇑(0+(i:Int)),⇑z,⇑goal,↑A] H4 Q4;rw[OU];symm;exact k4 _ (NK _)
 . intro N H1 hN s1 eN
   have ul:(((List.range ((ms.length:Nat):Int).toNat).filter fun(i:Nat)=>!decide ((i:Int)=z)&&decide (ms.getD i 0=1*2^(goal-1).toNat)).map fun(i:Nat)=>(i:Int)).length<=16:=by
    rw[NI];refine NS (NX _ _) ?_;rw[OK];omega
   generalize ((List.range ((ms.length:Nat):Int).toNat).filter fun(i:Nat)=>!decide ((i:Int)=z)&&decide (ms.getD i 0=1*2^(goal-1).toNat)).map (fun(i:Nat)=>(i:Int))=us at*;symm;refine⟨lnR rfl,fun Z hZ=>?_⟩;obtain⟨H2,z9,s2,eZ⟩:∃ z,upd H1 Z (.lst [V.int 0])=z/\Same H1 z/\z Z=↥(([0]:∅).map V.int):=a9 _ hZ;rw[z9];refine ja (s2 _ _ eN) eZ (by rw[NI,NI];simp;omega) fun Y hY=>?_;have s3:Same H2 (upd H2 Y (.lst (us.map V.int++([0]:∅).map V.int))):=(NK H2).laid hY;have eY:(upd H2 Y (.lst (us.map V.int++([0]:∅).map V.int))) Y=↥((us++[0]).map V.int):=by rw[ao,OB]
   generalize upd H2 Y (.lst (us.map V.int++([0]:∅).map V.int))=H3 at*;have s13:=s1.trans (s2.trans s3);have yl:0 < (us++[0]).length:=by simp
   generalize us++[0]=ys at*;have b1:=rz (x:=n) yl;have b2:=rz (x:=n/16) yl;symm;rw[aS eY,NI];symm;refine⟨by omega,?_⟩;refine ixI eY b1.1 b1.2 ?_;symm;refine⟨⟨by decide,by decide⟩,?_⟩;rw[aS eY,NI];symm;refine⟨by omega,?_⟩;refine ixL eY (GB b2.1 b2.2) ?_;refine⟨lnR rfl,fun U hU=>?_⟩;obtain⟨H4,z9,s4,eU⟩:∃ z,upd H3 U (.lst [V.int (ys.getD (n % ((ys.length:Nat):Int)).toNat 0),V.int (ys.getD (ys.length-1 - (n/16 % ((ys.length:Nat):Int)).toNat) 0)])=z/\Same H3 z/\z U=↥(([ys.getD (n % ((ys.length:Nat):Int)).toNat 0,ys.getD (ys.length-1 - (n/16 % ((ys.length:Nat):Int)).toNat) 0]:∅).map V.int):=a9 _ hU;rw[z9];have zl:([ys.getD (n % ((ys.length:Nat):Int)).toNat 0,ys.getD (ys.length-1 - (n/16 % ((ys.length:Nat):Int)).toNat) 0]:∅).length=2:=rfl;generalize ([ys.getD (n % ((ys.length:Nat):Int)).toNat 0,ys.getD (ys.length-1 - (n/16 % ((ys.length:Nat):Int)).toNat) 0]:∅)=zs at*;symm
   have eb:∃ k:Nat,(2:Int) - (if decide (s=goal)=true then 1 else 0)=(k:Int):=by
    split
    . exact⟨1,rfl⟩
    . exact⟨2,rfl⟩
   obtain⟨k,ek⟩:=eb;rw[ek];refine w9 eU fun l hl=>?_;rw[Gp V.int];rw[hD];exact q l (zs.take k) _ ((s13.trans s4).trans ((NK H4).laid hl)) ((s13.trans s4).free hl) ao (by rw[OP];omega)
def Cb{v8 v9 v10:Option V}(X:Mr40 H p A C h w g n z goal cs ms t)(q:MrP Q H):
  fX K (eD9 Q) [some (.str (tx (tkC t))),⇑n,↑p,↑A,↑C,⇑z,⇑s,⇑goal,v8,v9,v10,none,none] H:=by
 unfold fX;rw[az,aC];generalize hW:fW K=W at*;generalize hV:E6 K=V' at*;symm;rw[show tx [114,101,97,99,104]=tx (tkC .reach) from rfl,IH t .reach];by_cases e:t=.reach
 . refine cg (NP e) ?_;subst hV;exact II e X q rfl
 . refine cj (NL e) ?_;symm;subst hW;exact Ca X q
def Cd{v8 v9 v10:Option V}(X:Mr40 H p A C h w g n z goal cs ms t)(q:MrP Q H):
  fY K (eD9 Q) [some (.str (tx (tkC t))),⇑n,↑p,↑A,↑C,⇑z,⇑s,⇑goal,v8,v9,v10,none,none] H:=by
 unfold fY;rw[az,aC];generalize hW:fX K=W at*;symm;by_cases e:tx (tkC t)=tx [115,113,117,97,114,101]
 . refine cg (NP e) ?_;symm;refine ixT X.p (v:=V.int w) rfl ?_;refine ixT X.p (v:=V.int w) rfl ?_;symm;refine⟨lnR rfl,fun U hU=>?_⟩;obtain⟨H1,z9,s1,eU⟩:∃ z,upd H U (.lst [V.int 0,V.int 1,V.int w,V.int (w+1)])=z/\Same H z/\z U=↥(([0,1,w,w+1]:∅).map V.int):=a9 _ hU;rw[z9];have j0:=Oz n (show(4:Int)≠0 by decide);have j1:=Ow n (show(0:Int)<4 by decide);refine⟨by decide,?_⟩;refine ixI eU j0 (by show n%4<4;exact j1) ?_;symm;exact A0 (q.of s1)
 . refine cj (NL e) ?_;symm;subst hW;exact Cb X q
def Ce{i j:Int}{v11:Option V}(X:Mr40 H p A C h w g n z goal cs ms t)(eO:H O=↥(os.map V.int))(i0:0<=i)(i1:i<os.length)(j0:0<=j)(j1:j<os.length)(q:MrP Q H):
  fZ K (eD9 Q) [some (.str (tx (tkC t))),⇑n,↑p,↑A,↑C,⇑z,⇑s,⇑goal,⇑i,↑O,⇑j,none,none] H:=by
 have g0:=X.F.g0;unfold fZ;rw[az,aC];generalize hW:iZ K=W at*;symm;by_cases e:tx (tkC t)=tx [111,110,108,121]
 . refine cg (NP e) ?_;symm;refine ixI eO i0 i1 ?_;exact A0 q
 refine cj (NL e) ?_;symm;subst hW;unfold iZ;rw[az,aC];generalize hW:iY K=W at*;symm;by_cases e2:tx (tkC t)=tx [112,108,97,99,101]
 . refine cg (NP e2) ?_;symm;refine ixT X.p (v:=V.int g) rfl ?_;symm;exact⟨by omega,A0 q⟩
 refine cj (NL e2) ?_;symm;subst hW;unfold iY;rw[az,aC];generalize hW:fY K=W at*;symm;by_cases e3:tx (tkC t)=tx [112,97,105,114]
 . refine cg (NP e3) ?_;symm;refine ixI eO i0 i1 ?_;refine ixI eO j0 j1 ?_;exact⟨lnR rfl,fun l hl=>q l [_,_] _ ((NK H).laid hl) hl ao (by show(2:Nat)<=100;decide)⟩
 refine cj (NL e3) ?_;symm;subst hW;exact Cd X q
def zi{vs:List V}{E:XK}(h:ly K vs H Q E):lz K (eD9 Q) (start ["_law_kind","_law_number","_law_floor_here","_law_masks","_law_cells","_law_cell","_law_sign","_law_goal","_law_one","_law_others","_law_other","_law_must","_law_near_here"] vs) H:=by
 obtain⟨p,A,C,h,w,g,n,z,s,goal,cs,ms,t,rfl,X,q⟩:=h;have cn:=X.cn;have n0:=X.n0;ac_nf;unfold lz;rw[az];generalize hW:i5 K=W at*;symm;refine⟨⟨_,N5 X.C⟩,?_⟩;refine aT (xs:=cs) (fun x=>!decide (x=z)) (fun x=>x) #[0] (N5 X.C) ?_ ?_ ?_
 . intro x H4 R4 hx s4 k4;show tTest _ [none,⇑x,⇑z] H4 R4;symm;exact k4 _ (NK _)
 . intro x H4 Q4 hx hb4 s4 k4;show tVar 1 [none,⇑x,⇑z] H4 Q4;symm;exact k4 _ (NK _)
 . intro N H1 hN s1 eN
   have ul:((cs.filter fun x=>!decide (x=z)).map fun x=>x).length<=16:=by
    rw[NI];exact NS (NX _ _) cn
   generalize (cs.filter fun x=>!decide (x=z)).map (fun x=>x)=us at*;symm;refine⟨lnR rfl,fun Z hZ=>?_⟩;obtain⟨H2,z9,s2,eZ⟩:∃ z8,upd H1 Z (.lst [V.int z])=z8/\Same H1 z8/\z8 Z=↥(([z]:∅).map V.int):=a9 _ hZ;rw[z9];refine ja (s2 _ _ eN) eZ (by rw[NI,NI];simp;omega) fun Y hY=>?_;have s3:Same H2 (upd H2 Y (.lst (us.map V.int++([z]:∅).map V.int))):=(NK H2).laid hY;have eY:(upd H2 Y (.lst (us.map V.int++([z]:∅).map V.int))) Y=↥((us++[z]).map V.int):=by rw[ao,OB]
   generalize upd H2 Y (.lst (us.map V.int++([z]:∅).map V.int))=H3 at*;have s13:=s1.trans (s2.trans s3);have yl:0 < (us++[z]).length:=by simp
   generalize us++[z]=ys at*;have b1:=rz (x:=n) yl;have b2:=rz (x:=n/16) yl;subst hW;unfold i5;generalize hW:fZ K=W at*;symm;rw[aS eY,NI];symm;refine⟨by omega,?_⟩;symm;rw[aS eY,NI];symm;refine⟨⟨by decide,by decide⟩,by omega,?_⟩;symm;rw[aS eY,NI];symm;subst hW;exact Ce (v11:=none) (X.same s13) eY b1.1 b1.2 (by split <;> omega) (by split <;> omega) (q.of s13)
end
def GC{i j k o:Nat}{x y z u:V}{σ:St}{q:St->Hp->Prop}(h:q ((((σ.set i (some x)).set j (some y)).set k (some z)).set o (some u)) H):gCons (gName i) (gCons (gName j) (gCons (gName k) (gCons (gName o) gNil))) [x,y,z,u] σ H q:=⟨x,_,rfl,y,_,rfl,z,_,rfl,u,_,rfl,rfl,h⟩
structure Rs40(H:Hp)(Rl:Addr)(ts Cs:List Addr)(NA:List RR):Prop where
 top:H Rl=↥(ts.map V.ref)
 len:ts.length=NA.length
 lnC:Cs.length=NA.length
 at_:∀(i:Nat) (T C:Addr) (r:RR),ts[i]? =some T->Cs[i]? =some C->NA[i]? =some r->IsRl H T C r
variable{ts Cs:List Addr}{NA:List RR}
def Rs40.same{Rl:Addr}(x:Rs40 H Rl ts Cs NA)(s:Same H H'):Rs40 H' Rl ts Cs NA:=⟨s _ _ x.top,x.len,x.lnC,fun i T C r a b c=>(x.at_ i T C r a b c).same s⟩
structure Th40(H:Hp)(p Rl A:Addr)(ts Cs:List Addr)(h w g n:Int)(NA:List RR)(Ny:∅):Prop where
 p:IsFl H p h w g
 F:FlOk h w g
 m9:h*w<=9
 R:Rs40 H Rl ts Cs NA
 ok:∀ r∈NA,r.Ok h w g
 r1:1<=NA.length
 r2:NA.length<=12
 A:H A=↥(Ny.map V.int)
 ml:Ny.length=(h*w).toNat
 mm:∀ m∈Ny,0<=m/\m<64
 n0:0<=n
def Th40.same{p Rl A:Addr}{n:Int}{Ny:∅}(x:Th40 H p Rl A ts Cs h w g n NA Ny)(s:Same H H'):Th40 H' p Rl A ts Cs h w g n NA Ny:=⟨s _ _ x.p,x.F,x.m9,x.R.same s,x.ok,x.r1,x.r2,s _ _ x.A,x.ml,x.mm,x.n0⟩
def ThP40(Q:VK)(H:Hp)(h w:Int):Prop:=∀(T M:Addr) (th:Tho) (H':Hp),Same H H'->H T=none->H M=none->IsTh H' T M th.t th.r th.z th.s th.ms->0<=th.z->th.z<h*w->1<=th.s->th.s<=4->Q (.ref T) H'
def dD(K:Frag):Sp:=fun vs H Q _=>∃ p Rl A ts Cs h w g n NA Ny,vs=[.int n,.ref p,.ref Rl,.ref A]/\Th40 H p Rl A ts Cs h w g n NA Ny/\ThP40 Q H h w
def dZ(K:Frag):TS:=#[":gl,}Qca5eh#12 glbi|cbCbP0df#5000 pya|ceh#13 jTa|da4a9a|ba,}Rca|dabP0df#40000 a1a3a6a9a|ba7ee"]
def d3(K:Frag):TS:=#[":gnmbscbC0df#7 df#6 jTadqr`0adf#0 a9a|baveeo}Sc",[99,108,117,101]]
def gy(K:Frag):TS:=#[":glbi6bCbP0df#42 pya6eh#9 glbt,}Tcabi39evadf#1 eh#10 glbi|abCbP0df#672 pya|aeh#11 }Uc"]
def i7(K:Frag):TS:=#[":glbCbP0df#7 pya2eh#4 glbi24~Hc#4 +h#5 +h#6 +h#7 +h#8 ~I}Vc"]
def Kt(O:r.Ok h w g)(F:FlOk h w g){t:TK}(ht:t∈lx r.k):t=.reach->1<=(r.m:Int)/\(r.m:Int)<=6:=fun e=>by
 have hs:sgnK r.k=true:=by
  subst e
  revert ht
  cases r.k <;> decide
 have:=O.m0 hs;have:=F.g1;omega
theorem uP(O:r.Ok h w g)(F:FlOk h w g):0<r.cs.length/\r.cs.length<=16:=by
 have mp:1<=h*w:=by have:=F.h0;have:=F.w0;exact Rb #[0] #[0]
 have m16:=F.m
 cases ha:allK r.k with
 | true=>
  rw[(O.cl.all ha).2,kZ];omega
 | false=>
  obtain⟨n1,n2,_,_,ec⟩:=O.cl.told ha;rw[ec,NI];exact⟨List.length_pos_iff.mpr n1,n2⟩
section
variable{K:Frag}{H:Hp}{Q:VK}{p Rl A:Addr}{ts Cs:List Addr}{h w g n:Int}{NA:List RR}{Ny:∅}
def ThP40.of{H1:Hp}(q:ThP40 Q H h w)(s:Same H H1):ThP40 Q H1 h w:=fun T M th H' s' hT hM x a b c d=>q T M th H' (s.trans s') (s.free hT) (s.free hM) x a b c d
def xT{C:Addr}{r:RR}{i z s:Int}{v8 v10:Option V}(X:Th40 H p Rl A ts Cs h w g n NA Ny)(O:r.Ok h w g)(k0:r.k≠.Rule)(eC:H C=↥(r.cs.map V.int))(z0:0<=z)(z1:z<h*w)(s0:1<=s)(s4:s<=4)(q:ThP40 Q H h w):
  dZ K (eD9 Q) [⇑n,↑p,↑Rl,↑A,⇑i,some (.str (tx (nmC r.k))),↑C,⇑r.m,v8,⇑z,v10,⇑s,none,none] H:=by
 have n0:=X.n0;have ml:=X.ml;have m9:=X.m9;unfold dZ;symm;refine⟨r.k,rfl,k0,fun l H1 s1 hl el=>?_⟩;have kl:0 < (lx r.k).length:=by revert k0;cases r.k <;> decide
 have j0:=Oz (n/5000) (show(((lx r.k).length:Nat):Int)≠0 by omega);have j1:=Ow (n/5000) (show 0 < (((lx r.k).length:Nat):Int) by omega);symm;rw[aS el,NI,NI];symm;refine⟨⟨by decide,by decide⟩,by omega,?_⟩;generalize ej:n/5000 % (((lx r.k).length:Nat):Int)=j at*;have hj:j.toNat < (lx r.k).length:=by omega
 have ev:atI (((lx r.k).map txk).map V.str) ((j.toNat:Nat):Int)=some (V.str (tx (tkC (lx r.k)[j.toNat]))):=f7 (by rw[NN,NN,NJ hj];rfl);rw[show((j.toNat:Nat):Int)=j by omega] at ev;have ht:=Ot hj;generalize (lx r.k)[j.toNat]=t at*;refine ixL el ev ?_;symm;refine⟨⟨by decide,by decide⟩,?_⟩;refine⟨p,A,C,h,w,g,n/40000,z,s,r.m,r.cs,Ny,t,rfl,⟨s1 _ _ X.p,X.F,s1 _ _ X.A,by omega,s1 _ _ eC,(uP O X.F).2,Int.ediv_nonneg n0 #[1],z0,z1,Kt O X.F ht⟩,fun M xs H2 s2 hM eM xl=>?_⟩;refine⟨lnR rfl,fun T hT=>?_⟩;have s3:Same H2 (upd H2 T (.tup [V.str (tx (tkC t)),V.int i,V.int z,V.int s,V.ref M])):=(NK H2).laid hT;exact q T M ⟨t,i,z,s,xs⟩ _ ((s1.trans s2).trans s3) ((s1.trans s2).free hT) (s1.free hM) ⟨ao,s3 _ _ eM,xl⟩ z0 z1 s0 s4
def xU{C:Addr}{r:RR}{i z s:Int}{v8 v10:Option V}(X:Th40 H p Rl A ts Cs h w g n NA Ny)(O:r.Ok h w g)(k0:r.k≠.Rule)(eC:H C=↥(r.cs.map V.int))(z0:0<=z)(z1:z<h*w)(s0:1<=s)(s4:s<=4)(q:ThP40 Q H h w):
  d3 K (eD9 Q) [⇑n,↑p,↑Rl,↑A,⇑i,some (.str (tx (nmC r.k))),↑C,⇑r.m,v8,⇑z,v10,⇑s,none,none] H:=by
 unfold d3;rw[az,aC];generalize hW:dZ K=W at*;symm;refine⟨by decide,?_⟩;by_cases e:n%7=6
 . refine cg (NP e) ?_;symm;refine⟨aW #[1],fun M hM=>?_⟩;obtain⟨H1,z9,s1,eM⟩:∃ z,upd H M (.lst [])=z/\Same H z/\z M=↥(([]:∅).map V.int):=a9 _ hM;rw[z9];refine⟨lnR rfl,fun T hT=>?_⟩;have s3:Same H1 (upd H1 T (.tup [V.str (tx (tkC .clue)),V.int 0,V.int z,V.int s,V.ref M])):=(NK H1).laid hT;exact q T M ⟨.clue,0,z,s,[]⟩ _ (s1.trans s3) (s1.free hT) hM ⟨ao,s3 _ _ eM,Ox _⟩ z0 z1 s0 s4
 . refine cj (NL e) ?_;symm;subst hW;exact xT X O k0 eC z0 z1 s0 s4 q
def uZ{vs:List V}{E:XK}(h:dD K vs H Q E):i7 K (eD9 Q) (start ["_law_number","_law_floor_here","_law_rules","_law_masks","_law_rule_here","_law_word","_law_cells","_law_goal","_law_line","_law_cell","_law_signs_here","_law_sign","_law_kinds_here","_law_kind"] vs) H:=by
 obtain⟨p,Rl,A,ts,Cs,h,w,g,n,NA,Ny,rfl,X,q⟩:=h;have r1:=X.r1;have rl:=X.R.len;have rc:=X.R.lnC;have ml:=X.ml;have n0:=X.n0;ac_nf;unfold i7;generalize hW:gy K=W at*;symm;rw[aS X.R.top,NI];have j0:=Oz (n/7) (show((ts.length:Nat):Int)≠0 by omega);have j1:=Ow (n/7) (show 0 < ((ts.length:Nat):Int) by omega);symm;refine⟨⟨by decide,by decide⟩,by omega,?_⟩;generalize n/7 % ((ts.length:Nat):Int)=i at*;have e1:ts[i.toNat]? =some (ts[i.toNat]'#[0]):=NJ #[0];have e2:Cs[i.toNat]? =some (Cs[i.toNat]'#[0]):=NJ #[0];have e3:NA[i.toNat]? =some (NA[i.toNat]'#[0]):=NJ #[0];generalize (ts[i.toNat]'#[0])=T at*;generalize (Cs[i.toNat]'#[0])=C at*;generalize (NA[i.toNat]'#[0])=r at*;have hr:=NV e3;have O:=X.ok r hr;have Y:=X.R.at_ i.toNat T C r e1 e2 e3;symm;refine ixL X.R.top (v:=V.ref T) (by rw[show i=((i.toNat:Nat):Int) by omega];exact f7 (by rw[NN,e1];rfl)) ?_;refine Br Y.top rfl ?_;refine GC ?_;dsimp only[List.set_cons_succ,List.set_cons_zero];subst hW;unfold gy;generalize hW:d3 K=W at*;have cl:=uP O X.F;have b:=rz (x:=n/42) cl.1;symm;rw[aS Y.C,NI];symm;refine⟨⟨by decide,by decide⟩,by omega,?_⟩;refine ixI Y.C b.1 b.2 ?_;have cin:=Rq O X.F;have cz:=cin.2 _ (fJ (ms:=r.cs) (k:=(n/42 % ((r.cs.length:Nat):Int)).toNat) #[0]);generalize r.cs.getD (n/42 % ((r.cs.length:Nat):Int)).toNat 0=z at*;have bz:0<=z/\z<h*w:=by omega
 symm;refine ixI X.A bz.1 #[0] ?_;have bm:=X.mm _ (fJ (ms:=Ny) (k:=z.toNat) #[0]);refine⟨_,rfl,bm.1,bm.2,fun S ss H1 s1 hS eS sl sb=>?_⟩;symm;refine⟨lnR rfl,fun Z hZ=>?_⟩;obtain⟨H2,z9,s2,eZ⟩:∃ z,upd H1 Z (.lst [V.int 1])=z/\Same H1 z/\z Z=↥(([1]:∅).map V.int):=a9 _ hZ;rw[z9];refine ja (s2 _ _ eS) eZ (by rw[NI,NI];simp;omega) fun Y2 hY=>?_;have s3:Same H2 (upd H2 Y2 (.lst (ss.map V.int++([1]:∅).map V.int))):=(NK H2).laid hY;have eY:(upd H2 Y2 (.lst (ss.map V.int++([1]:∅).map V.int))) Y2=↥((ss++[1]).map V.int):=by rw[ao,OB]
 generalize upd H2 Y2 (.lst (ss.map V.int++([1]:∅).map V.int))=H3 at*;have s13:=s1.trans (s2.trans s3);have yl:0 < (ss++[1]).length:=by simp
 have yb:∀ x∈ss++[1],1<=x/\x<=4:=fun x hx=>by
  rcases Oj.mp hx with hx | hx
  . have:=sb x hx;omega
  . rw[Oa.mp hx];decide
 generalize ss++[1]=ys at*;have b1:=rz (x:=n/672) yl;symm;rw[aS eY,NI];symm;refine⟨⟨by decide,by decide⟩,by omega,?_⟩;refine ixI eY b1.1 b1.2 ?_;have bs:=yb _ (fJ (ms:=ys) (k:=(n/672 % ((ys.length:Nat):Int)).toNat) #[0]);generalize ys.getD (n/672 % ((ys.length:Nat):Int)).toNat 0=s at*;subst hW;exact xU (X.same s13) O O.k0 (s13 _ _ Y.C) bz.1 bz.2 bs.1 bs.2 (q.of s13)
end
structure Wd40(K:Frag)(H:Hp)(c:RCl RK)(d:RCl PzK)(a P L G p Rl:Addr)(ts Cs:List Addr)(ns:∅)(h w g:Int)(NA:List RR)(cl:∅):Prop where
 S:SqL K H a (ns.map V.int)
 n:ns.length<=63
 P:IsPz H c d P L G h w g NA cl
 p:IsFl H p h w g
 m9:h*w<=9
 g4:g<=4
 R:Rs40 H Rl ts Cs NA
 r1:1<=NA.length
variable{c:RCl RK}{d:RCl PzK}{cl:∅}
def Wd40.same{a P L G p Rl:Addr}{ns:∅}(x:Wd40 K H c d a P L G p Rl ts Cs ns h w g NA cl)(s:Same H H'):Wd40 K H' c d a P L G p Rl ts Cs ns h w g NA cl:=⟨s.seq x.S,x.n,x.P.same s,s _ _ x.p,x.m9,x.g4,x.R.same s,x.r1⟩
def csA(NA:List RR)(r:Int):∅:=match NA[r.toNat]? with
 | none=>[]
 | some y=>y.cs
def tI{r:Int}{y:RR}(e:NA[r.toNat]? =some y):csA NA r=y.cs:=by unfold csA;rw[e]
def restA(h w:Int)(NA:List RR)(t:TK)(r z:Int)(ms:∅):∅:=match t with
 | .clue=>[]
 | .only=>ms
 | .pair=>ms
 | .square=>rosL h w (ms.getD 0 0) z
 | .reach=>allL h w z
 | .turn=>if ms=[] then besL h w z else arL h w (ms.getD 0 0) z++[ms.getD 0 0]
 | .step=>ahdL (csA NA r) z++behL (csA NA r) z
 | _=>othL (csA NA r) z
structure zj(h w:Int)(NA:List RR)(t:TK)(r z:Int)(ms:∅):Prop where
 row:t≠.clue->0<=r/\∃ y,NA[r.toNat]? =some y/\z∈y.cs
 m1:t=.square->ms.length=1
 mt:t=.turn->ms=[]\/∃ x,ms=[x]
 mo:t=.only\/t=.pair->ms.length<=2
 bd:∀ x∈restA h w NA t r z ms,0<=x/\x<h*w
 z0:0<=z
 z1:z<h*w
def JV{cs:∅}{z x:Int}(h:x∈ahdL cs z++behL cs z):x∈cs:=by
 rcases Oj.mp h with h | h
 . unfold ahdL at h
   split at h
   . rename_i e
     rw[Oa.mp h];refine fJ (ms:=cs) ?_;have:jy cs z<=cs.length:=List.idxOf_le_length (a:=z) (l:=cs);omega
   . cases h
 . unfold behL at h
   split at h
   . rename_i e
     rw[Oa.mp h];exact fJ (ms:=cs) e
   . cases h
theorem xV(F:FlOk h w g)(ok:∀ r∈NA,r.Ok h w g){r x:Int}(hx:x∈csA NA r):0<=x/\x<h*w:=by
 unfold csA at hx
 cases e:NA[r.toNat]? with
 | none=>rw[e] at hx;cases hx
 | some y=>
  rw[e] at hx;have:=(Rq (ok y (NV e)) F).2 x hx;omega
theorem IJ{Ny ms:∅}{t:TK}{r z s:Int}(F:FlOk h w g)(ok:∀ r∈NA,r.Ok h w g)(a:alwA h w g NA cl Ny t r z s ms=true):zj h w NA t r z ms:=by
 unfold alwA at a;rw[Om] at a;obtain⟨f,a⟩:=a;obtain⟨z0,z1,s0,s1,NH⟩:=oG f
 have row:t≠.clue->0<=r/\∃ y,NA[r.toNat]? =some y/\z∈y.cs:=fun ht=>by
  obtain⟨r0,y,e,_,hz⟩:=uM ht NH;exact⟨r0,y,e,hz⟩
 have oth:∀ x∈othL (csA NA r) z,0<=x/\x<h*w:=fun x hx=>xV F ok (Of.mp hx).1
 have bes:∀ o,0<=o->o<h*w->∀ x∈besL h w o,0<=x/\x<h*w:=fun o o0 o1 x hx=>by
  have:=(wp (n:=(h*w).toNat) F o0 o1 rfl).2 x hx;omega
 unfold strA at a
 cases t with
 | clue=>exact⟨fun q=>absurd rfl q,nofun,nofun,(fun q=>by rcases q with q | q <;> cases q),fun x hx=>(by cases hx),z0,z1⟩
 | only=>
  obtain⟨r0,y,e,hz⟩:=row #[1];have a:nM g NA cl Ny .only r z s ms=true:=a;unfold nM at a;simp only[e] at a;have a:onlyB y.cs Ny z s ms=true:=a;unfold onlyB at a;simp only[Om,NO] at a;refine⟨row,nofun,nofun,fun _=>#[0],fun x hx=>?_,z0,z1⟩;have hx:x∈ms:=hx;obtain⟨u,rfl⟩:∃ u,ms=[u]:=Qr.mp a.1;rw[Oa.mp hx];exact xV (r:=r) F ok (by rw[tI e];exact(Of.mp a.2.1).1)
 | pair=>
  obtain⟨r0,y,e,hz⟩:=row #[1];have a:nM g NA cl Ny .pair r z s ms=true:=a;unfold nM at a;simp only[e] at a;have a:pairB y.cs Ny z s ms=true:=a;unfold pairB ordB at a;simp only[Om,NO] at a;obtain⟨⟨l2,p1,p2,_⟩,_⟩:=a;refine⟨row,nofun,nofun,fun _=>#[0],fun x hx=>?_,z0,z1⟩;have hx:x∈ms:=hx
  obtain⟨u,v,rfl⟩:∃ u v,ms=[u,v]:=by
   match ms,l2 with
   | [u,v],_=>exact⟨u,v,rfl⟩
  refine xV (r:=r) F ok ?_;rw[tI e];rcases N4.mp hx with rfl | hx
  . exact(Of.mp p1).1
  . rw[Oa.mp hx];exact(Of.mp p2).1
 | place=>exact⟨row,nofun,nofun,(fun q=>by rcases q with q | q <;> cases q),oth,z0,z1⟩
 | count=>exact⟨row,nofun,nofun,(fun q=>by rcases q with q | q <;> cases q),oth,z0,z1⟩
 | sum=>exact⟨row,nofun,nofun,(fun q=>by rcases q with q | q <;> cases q),oth,z0,z1⟩
 | ways=>exact⟨row,nofun,nofun,(fun q=>by rcases q with q | q <;> cases q),oth,z0,z1⟩
 | step=>exact⟨row,nofun,nofun,(fun q=>by rcases q with q | q <;> cases q),fun x hx=>xV F ok (JV hx),z0,z1⟩
 | square=>
  obtain⟨r0,y,e,hz⟩:=row #[1];have a:nN h w NA Ny .square r z s ms=true:=a;unfold nN at a;rw[e] at a;have a:squB h w y.m Ny z s ms=true:=a;unfold squB at a;simp only[Om,NO] at a;refine⟨row,fun _=>a.2.1,nofun,(fun q=>by rcases q with q | q <;> cases q),fun x hx=>?_,z0,z1⟩;have:=(Gi (n:=(h*w).toNat) F rfl).2 x hx;omega
 | reach=>
  refine⟨row,nofun,nofun,(fun q=>by rcases q with q | q <;> cases q),fun x hx=>?_,z0,z1⟩;obtain⟨i,hi,rfl⟩:=N9.mp hx;have:=N8.mp (Of.mp hi).1;omega
 | turn=>
  obtain⟨r0,y,e,hz⟩:=row #[1];have a:nN h w NA Ny .turn r z s ms=true:=a;unfold nN at a;rw[e] at a;have a:turnB h w y.m Ny z s ms=true:=a;unfold turnB at a;by_cases em:ms=[]
  . refine⟨row,nofun,fun _=>.inl em,(fun q=>by rcases q with q | q <;> cases q),fun x hx=>?_,z0,z1⟩;have hx:x∈(if ms=[] then besL h w z else arL h w (ms.getD 0 0) z++[ms.getD 0 0]):=hx;rw[Oh em] at hx;exact bes z z0 z1 x hx
  . rw[Ob em] at a;simp only[Om,NO] at a;obtain⟨l1,ho,_⟩:=a;obtain⟨u,rfl⟩:∃ u,ms=[u]:=Qr.mp l1;have ho:u∈besL h w z:=ho;have ub:=bes z z0 z1 u ho;refine⟨row,nofun,fun _=>.inr ⟨u,rfl⟩,(fun q=>by rcases q with q | q <;> cases q),fun x hx=>?_,z0,z1⟩;have hx:x∈arL h w u z++[u]:=hx;rcases Oj.mp hx with hx | hx
    . exact bes u ub.1 ub.2 x (Of.mp hx).1
    . rw[Oa.mp hx];exact ub
def iB(K:Frag)(c:RCl RK)(d:RCl PzK):Sp:=fun vs H Q _=>∃ P L G T M h w g NA cl t r z s ms,vs=[.ref P,.ref T]/\IsPz H c d P L G h w g NA cl/\IsTh H T M t r z s ms/\lineK t=true/\zj h w NA t r z ms/\RestP Q H (restA h w NA t r z ms)
def iC(K:Frag)(c:RCl RK)(d:RCl PzK):TS:=#[":glbi1df#0 h#2 gnmbsc2dqr`0jveognQmbsc2dqr`1mbsc2dqr`2jp?abi1df#4 eoglbiDu*~p~qcku0ebi1df#1 h#3 gnmbsc2dqr`3jp?a,;cka3abi1df#2 eeojp?abt,'acka3abi1df#2 e,'bcka3abi1df#2 ee",[99,108,117,101],[111,110,108,121],[112,97,105,114],[112,108,97,99,101]]
def tJ(h:iB K c d vs H Q E):iC K c d (eD9 Q) (start ["puzzle","thought","kind","rule"] vs) H:=by
 obtain⟨P,L,G,T,M,h,w,g,NA,cl,t,r,z,s,ms,rfl,X,Th,ht,S,q⟩:=h;obtain⟨dx,p,rs,h1,h2,h3⟩:=X.ex;by_cases e7:t=.step
 . subst e7;obtain⟨r0,y,ey,hz⟩:=S.row #[1];have q':RestP Q H (ahdL (csA NA r) z++behL (csA NA r) z):=q;rw[tI ey] at q';exact tG (E:=E) ⟨P,L,G,T,M,h,w,g,NA,cl,r,z,s,ms,y,rfl,X,Th,r0,ey,hz,q'⟩
 ac_nf;unfold iC;symm;refine ixT Th.T (v:=V.str (tx (tkC t))) rfl ?_;symm;rw[aC];symm;rw[ba,uL];by_cases e1:t=.clue
 . subst e1;rw[NP rfl];refine iteT ?_;symm;refine⟨aW #[1],fun l hl=>?_⟩;exact q l _ [] ((NK H).laid hl) hl (by rw[ao];rfl) (.refl _) .nil
 rw[NL e1];refine iteF ?_;symm;rw[aC];symm;rw[ba,y7];by_cases e2:t=.only
 . subst e2;rw[NP rfl];symm;refine ixT Th.T (v:=V.ref M) rfl ?_;symm;exact ip (NK H) Th.M (by have:=S.mo (.inl rfl);omega) (.refl _) q
 rw[NL e2];symm;rw[ba,DZ];by_cases e3:t=.pair
 . subst e3;rw[NP rfl];symm;refine ixT Th.T (v:=V.ref M) rfl ?_;symm;exact ip (NK H) Th.M (by have:=S.mo (.inr rfl);omega) (.refl _) q
 rw[NL e3];have e4:t=.place:=by revert ht e1 e2 e3 e7;cases t <;> decide
 subst e4;obtain⟨r0,y,ey,hz⟩:=S.row #[1];symm;refine methE (k:=.Puzzle) rfl X.ok h1 (by rfl) ?_;symm;refine⟨P,L,G,h,w,g,_,cl,rfl,X,fun l p2 rs2 hl hp2 Y=>?_⟩;have s2:Same H (upd H l (.lst (rs2.map V.ref))):=(NK H).laid hl;generalize upd H l (.lst (rs2.map V.ref))=H1 at*;have hlt:=(NR.mp ey).1;have NF:=Y.len;have ea:rs2[r.toNat]? =some rs2[r.toNat]:=NJ #[0];have O:=X.R.ok _ (NV ey);dsimp only;refine ixT (s2 _ _ Th.T) (v:=V.int r) rfl ?_;refine ixL Y.top (jk r0 ea) ?_;symm;rw[aC];symm;rw[ba,BN,NP rfl];refine iteT ?_;symm;refine ixT (s2 _ _ Th.T) (v:=V.int z) rfl ?_;symm;have l60:=RR.len26 O X.R.F;refine⟨_,_,p2,_,y.cs,_,_,z,rfl,Y.at_ _ _ _ ea ey,NS l60 #[1],fun l2 H2 s3 hl2 el2=>?_⟩;symm;have q':RestP Q H (othL (csA NA r) z):=q;rw[tI ey] at q';exact ip (s2.trans s3) el2 (OA (NS (NX _ _) l60) #[1]) (.refl _) q'
def gz(K:Frag)(c:RCl RK)(d:RCl PzK):Sp:=fun vs H Q _=>∃ P L G T M h w g NA cl t r z s ms,vs=[.ref P,.ref T]/\IsPz H c d P L G h w g NA cl/\IsTh H T M t r z s ms/\ER t/\zj h w NA t r z ms/\RestP Q H (restA h w NA t r z ms)
def ff(K:Frag)(c:RCl RK)(d:RCl PzK):TS:=#[":gnmbsc4vej,~uca2a3eojp?abt,'Kca2abi4df#0 a3evabi4df#0 ee"]
def gB(K:Frag)(c:RCl RK)(d:RCl PzK):TS:=#[":glDu*~R~Scku0eh#2 glbi1df#2 h#3 glbi1df#4 h#4 gnmbscbi1df#0 dqr`0jp?a,'Dca2abi4df#0 a3eeognmbscbi1df#0 dqr`1jx&--3 Ua,~tca2eeh#1 mbAc121o}Wcku",[115,113,117,97,114,101],[114,101,97,99,104]]
def oo{P L G T M p3:Addr}{ms:∅}{r z s:Int}(X:IsPz H c d P L G h w g NA cl)(Th:IsTh H T M .turn r z s ms)(hp3:IsFl H p3 h w g)(z0:0<=z)(z1:z<h*w)(fm:ms=[]\/∃ x,ms=[x])(q:RestP Q H (restA h w NA .turn r z ms)):
  ff K c d (eD9 Q) [↑P,↑T,↑p3,⇑z,↑M] H:=by
 obtain⟨h0,h1,w0,w1,m16,g0,g1⟩:=id X.R.F;unfold ff;rw[az,aC];symm;refine⟨aW #[1],fun Z hZ=>?_⟩;obtain⟨H1,z9,s1,eZ⟩:∃ z,upd H Z (.lst [])=z/\Same H z/\z Z=↥(([]:∅).map V.int):=a9 _ hZ;rw[z9];refine lL (s1 _ _ Th.M) eZ ?_;rcases fm with rfl | ⟨x,rfl⟩
 . rw[NP rfl];refine⟨true,rfl,?_⟩;symm;exact⟨p3,h,w,g,z,rfl,s1 _ _ hp3,by omega,by omega,fun l H2 s2 hl el=>q l H2 _ (s1.trans s2) (s1.free hl) el (.refl _) (ET w0)⟩
 . rw[NL (by simp)];refine⟨false,rfl,?_⟩;symm;refine ixI (s1 _ _ Th.M) #[1] (by show(0:Int)<1;decide) ?_;symm;refine⟨p3,h,w,g,_,z,rfl,s1 _ _ hp3,X.R.F,fun l H2 s2 hl el=>?_⟩;have s12:=s1.trans s2;symm;refine ixI (s12 _ _ Th.M) #[1] (by show(0:Int)<1;decide) ?_;symm;refine⟨lnR rfl,fun W hW=>?_⟩;have s3:Same H2 (upd H2 W (.lst [V.int x])):=(NK H2).laid hW;have eW:(upd H2 W (.lst [V.int x])) W=some (.lst [V.int x]):=ao;generalize hHw:upd H2 W (.lst [V.int x])=H3 at*;have hHw':upd H2 W (.lst [V.int (([x]:∅).getD (0:Int).toNat 0)])=H3:=hHw;rw[hHw'];have al:(arL h w x z).length<=4:=NS (NX _ _) (tD h w x);have el':H2 l=↥((arL h w x z).map V.int):=el;refine ja (s3 _ _ el') eW (by rw[NI];show(arL h w x z).length+1<=1000;omega) fun Y hY=>?_;have s4:Same H3 (upd H3 Y (.lst ((arL h w x z).map V.int++[V.int x]))):=(NK H3).laid hY;have eY:(upd H3 Y (.lst ((arL h w x z).map V.int++[V.int x]))) Y=↥((arL h w x z++[x]).map V.int):=by rw[ao,OB];rfl
   generalize upd H3 Y (.lst ((arL h w x z).map V.int++[V.int x]))=H4 at*;symm;have q':RestP Q H (arL h w x z++[x]):=q;exact ip ((s12.trans s3).trans s4) eY (by rw[N0];show(arL h w x z).length+1<64;omega) (.refl _) q'
def rA(h:gz K c d vs H Q E):gB K c d (eD9 Q) (start ["puzzle","thought","floor","cell","more"] vs) H:=by
 obtain⟨P,L,G,T,M,h,w,g,NA,cl,t,r,z,s,ms,rfl,X,Th,ht,S,q⟩:=h;obtain⟨dx,p,rs,h1,h2,h3⟩:=X.ex;obtain⟨h0,h6,w0,w1,m16,g0,g1⟩:=id X.R.F;have mpos:1<=h*w:=Int.le_trans #[0] (Int.mul_le_mul h0 w0 #[0] #[0]);ac_nf;unfold gB;rw[az,bK];refine methE (k:=.Puzzle) rfl X.ok h1 (by rfl) ?_;symm;refine⟨P,L,G,h,w,g,_,cl,rfl,X,fun p3 hp3=>?_⟩;symm;refine ixT Th.T (v:=V.int z) rfl ?_;symm;refine ixT Th.T (v:=V.ref M) rfl ?_;symm;rw[aC];symm;refine ixT Th.T (v:=V.str (tx (tkC t))) rfl ?_;symm;rw[ba,zV];rcases ht with rfl | rfl | rfl
 . obtain⟨x,rfl⟩:∃ x,ms=[x]:=Qr.mp (S.m1 rfl);rw[NP rfl];refine iteT ?_;symm;refine ixI Th.M #[1] (by show(0:Int)<1;decide) ?_;symm;refine⟨p3,h,w,g,_,z,rfl,hp3,X.R.F,fun l H2 s2 hl el=>?_⟩;symm;exact ip s2 el (OA (z4 _ _ _ _) #[1]) (.refl _) q
 . rw[NL #[1]];refine iteF ?_;symm;rw[aC];symm;refine ixT Th.T (v:=V.str (tx (tkC .reach))) rfl ?_;symm;rw[ba,rm,NP rfl];refine iteT ?_;symm;refine⟨p3,h,w,g,rfl,hp3,h0,h6,?_⟩;symm;refine⟨h*w,rfl,by omega,by omega,?_⟩;refine d4 (fun i=>!decide ((i:Int)=z)) (fun i=>(i:Int)) #[0] ?_ ?_ ?_
   . intro i H2 R hi s2 k2;rw[OU];show tTest _ [none,⇑(i:Int),⇑z] H2 R;symm;exact k2 _ (NK _)
   . intro i H2 Q2 hi _ s2 k2;rw[OU];show tVar 1 [none,⇑(i:Int),⇑z] H2 Q2;symm;exact k2 _ (NK _)
   . intro l H2 hl s2 el;exact q l H2 _ s2 hl el (.refl _) (EU h w z)
 . rw[NL #[1]];refine iteF ?_;symm;rw[aC];symm;refine ixT Th.T (v:=V.str (tx (tkC .turn))) rfl ?_;symm;rw[ba,rm,NL #[1]];refine iteF ?_;symm;exact oo X Th hp3 S.z0 S.z1 (S.mt rfl) q
def bN(K:Frag)(c:RCl RK)(d:RCl PzK):Sp:=fun vs H Q _=>∃ P L G T M h w g NA cl t r z s ms,vs=[.ref P,.ref T]/\IsPz H c d P L G h w g NA cl/\IsTh H T M t r z s ms/\zj h w NA t r z ms/\RestP Q H (restA h w NA t r z ms)
def mr(K:Frag)(c:RCl RK)(d:RCl PzK):TS:=#[":gnz~h'MBbi1df#0 j,}Xckua0a1eognz~h'NBbi1df#0 j,}Yckua0a1eoj,}Zckua0a1e"]
theorem AB(h:bN K c d vs H Q E):mr K c d (eD9 Q) (start ["puzzle","thought"] vs) H:=by
 obtain⟨P,L,G,T,M,h,w,g,NA,cl,t,r,z,s,ms,rfl,X,Th,S,q⟩:=h;ac_nf;unfold mr;rw[az,aC];symm;refine ixT Th.T (v:=V.str (tx (tkC t))) rfl ?_;symm;rw[DT]
 cases hl:lineK t with
 | true=>
  symm;exact⟨P,L,G,T,M,h,w,g,NA,cl,t,r,z,s,ms,rfl,X,Th,hl,S,q⟩
 | false=>
  symm;rw[aC];symm;refine ixT Th.T (v:=V.str (tx (tkC t))) rfl ?_;symm;rw[Ge]
  cases hb:nbrK t with
  | true=>
   symm;have hc:t≠.clue:=by revert hb;cases t <;> decide
   obtain⟨r0,y,ey,hz⟩:=S.row hc
   have e:restA h w NA t r z ms=othL y.cs z:=by
    rw[← tI ey]
    revert hb;cases t <;> first | (intro q;cases q;done) | (intro _;rfl)
   rw[e] at q;exact⟨P,L,G,T,M,h,w,g,NA,cl,t,r,z,s,ms,y,rfl,X,Th,r0,ey,q⟩
  | false=>
   symm;have hk:ER t:=by revert hl hb;cases t <;> decide
   exact⟨P,L,G,T,M,h,w,g,NA,cl,t,r,z,s,ms,rfl,X,Th,hk,S,q⟩
end L2
namespace L2
open PySem
def Ri(xs:Array Nat):Prop:=∀ i j a b:Nat,i<j->xs[i]? =some a->xs[j]? =some b->a<b
def Ri.nil:Ri #[]:=fun i j a b _ h=>by simp at h
structure Bel(xs:Array Nat)(j k:Nat):Prop where
 le:k<=xs.size
 lo:∀ i a,i<k->xs[i]? =some a->a<j
 hi:∀ i a,k<=i->xs[i]? =some a->j<=a
variable{xs:Array Nat}
theorem JW{j:Nat}(R:Ri xs):∀(f lo hi:Nat),hi-lo<=f->lo<=hi->hi<=xs.size->(∀ i a,i<lo->xs[i]? =some a->a<j)->(∀ i a,hi<=i->xs[i]? =some a->j<=a)->Bel xs j (SetTable.below.go xs j f lo hi):=by
 intro f
 induction f with
 | zero=>
  intro lo hi h0 h1 h2 hl hh;have:lo=hi:=by omega
  subst this;exact⟨h2,hl,hh⟩
 | succ f ih=>
  intro lo hi h0 h1 h2 hl hh;unfold SetTable.below.go;by_cases c:lo<hi
  . rw[Oh c];have hm:(lo+hi)/2<xs.size:=by omega
    have hget:xs[(lo+hi)/2]? =some xs[(lo+hi)/2]:=OC hm;have hgd:xs.getD ((lo+hi)/2) j=xs[(lo+hi)/2]:=by simp[Array.getD,hm]
    dsimp only;by_cases d:xs.getD ((lo+hi)/2) j<j
    . rw[Oh d];refine ih _ _ #[0] #[0] h2 (fun i a hi' e=>?_) hh;rw[hgd] at d;by_cases q:i=(lo+hi)/2
      . subst q;rw[hget] at e;cases e;exact d
      . exact Pq (R i _ a _ #[0] e hget) d
    . rw[Ob d];rw[hgd] at d;refine ih _ _ #[0] #[0] #[0] hl (fun i a hi' e=>?_);by_cases q:i=(lo+hi)/2
      . subst q;rw[hget] at e;cases e;exact Nat.le_of_not_lt d
      . exact NS (Nat.le_of_not_lt d) (Ou (R _ i _ a #[0] hget e))
  . rw[Ob c];have:lo=hi:=by omega
    subst this;exact⟨h2,hl,hh⟩
def xW(R:Ri xs)(j:Nat):Bel xs j (SetTable.below xs j):=
 JW R _ _ _ #[0] (Ox _) (NU _) (fun i a h=>absurd h (RI _)) (fun i a h e=>by
  rw[Pb h] at e;cases e)
def Bel.uniq{j k k':Nat}(h:Bel xs j k)(h':Bel xs j k'):k=k':=by
 have key:∀{k k'},Bel xs j k->Bel xs j k'->¬ k<k':=fun{k k'} h h' c=>by
  have hl:k<xs.size:=Ol c h'.le;have e:=OC hl;exact absurd (h'.lo k _ c e) (Nat.not_lt.mpr (h.hi k _ (NU _) e))
 have:=key h h';have:=key h' h;omega
def E7(R:Ri xs):SetTable.below xs 0=0:=
 (xW R 0).uniq ⟨Ox _,fun i a h=>absurd h (RI _),fun _ _ _ _=>Ox _⟩
def E8(R:Ri xs){k a:Nat}(e:xs[k]? =some a):SetTable.below xs (a+1)=k+1:=by
 have hk:k<xs.size:=by
  rcases Qd k xs.size with h | h
  . exact h
  . rw[Pb h] at e;cases e
 refine(xW R (a+1)).uniq ⟨hk,fun i b h eb=>?_,fun i b h eb=>R k i a b #[0] e eb⟩;rcases Qd i k with q | q
 . exact OJ (R i k b a q eb e)
 . have:i=k:=by omega
   subst this;rw[e] at eb;cases eb;exact O1 _
def Ht{p x:Nat}(hp:p<=xs.size)(i:Nat):(SetTable.insertAt xs p x)[i]? =if i<p then xs[i]? else if i=p then some x else xs[i-1]? :=by
 have e:(SetTable.insertAt xs p x)[i]? =(xs.toList.take p++x::xs.toList.drop p)[i]? :=by
  rw[← OM,SetTable.toList_insertAt]
 rw[e,List.getElem?_append];have NF:(xs.toList.take p).length=p:=by rw[OP,Ov];omega
 rw[NF];by_cases c:i<p
 . rw[Oh c,Oh c,List.getElem?_take,Oh c,OM]
 . rw[Ob c,Ob c];by_cases d:i=p
   . subst d;rw[Oh rfl,Nat.sub_self];rfl
   . rw[Ob d];have:i-p=(i-p-1)+1:=by omega
     rw[this,List.getElem?_cons_succ,List.getElem?_drop,OM]
     congr 1;omega
def Ri.ins(R:Ri xs){j:Nat}(hn:∀ i:Nat,xs[i]? ≠some j):Ri (SetTable.insertAt xs (SetTable.below xs j) j):=by
 have B:=xW R j
 have hlt:∀ i a,SetTable.below xs j<=i->xs[i]? =some a->j<a:=fun i a h e=>by
  rcases Qd j a with q | q
  . exact q
  . have:a=j:=Nat.le_antisymm q (B.hi i a h e);subst this;exact absurd e (hn i)
 intro i k a b hik ea eb;rw[Ht B.le] at ea eb
 split at ea
 . rename_i c1
   split at eb
   . exact R i k a b hik ea eb
   . split at eb
     . cases eb;exact B.lo i a c1 ea
     . exact R i (k-1) a b #[0] ea eb
 . split at ea
   . rename_i c1 c2
     cases ea;rw[Ob #[0],Ob #[0]] at eb;exact hlt _ b #[0] eb
   . rw[Ob #[0],Ob #[0]] at eb;exact R (i-1) (k-1) a b #[0] ea eb
structure TbI(L:Bool)(t:SetTable):Prop where
 ri:Ri t.place
 du:t.dummies=#[]
 led:t.led=L
def TbI.fresh(L:Bool)(a b:Nat):TbI L (SetTable.fresh a b L):=⟨Ri.nil,rfl,rfl⟩
def Ri.range(n:Nat):Ri (Array.range n):=by
 intro i j a b h ea eb;simp only[Array.getElem?_range] at ea eb
 split at ea <;> split at eb <;> simp_all
variable{L:Bool}{t:SetTable}
def TbI.standIn(h:TbI L t)(n:Nat):TbI L (t.standIn n):=⟨Ri.range n,rfl,h.led⟩
def TbI.orStandIn(h:TbI L t)(n:Nat):TbI L (t.orStandIn n):=by
 unfold SetTable.orStandIn;split
 . exact h
 . exact h.standIn n
def Eb(j:Nat):SetTable.has #[] j=false:=by simp[SetTable.has]
def E9(h:TbI L t){j:Nat}(e:t.slot j=.empty):∀ i:Nat,t.place[i]? ≠some j:=by
 intro i ei;have B:=xW h.ri j
 have:SetTable.below t.place j=i:=B.uniq ⟨(by
   rcases Qd i t.place.size with q | q
   . exact Ou q
   . rw[Pb q] at ei;exact absurd ei (by simp)),(fun k a hk ea=>h.ri k i a j hk ea ei),(fun k a hk ea=>by
   rcases Qd i k with q | q
   . exact Ou (h.ri i k j a q ei ea)
   . have:k=i:=by omega
     subst this;rw[ei] at ea;cases ea;exact NU _)⟩
 unfold SetTable.slot at e;dsimp only at e;rw[this,ei] at e;simp at e
theorem Dm(h:TbI L t)(ha:Nat->Int)(x:Int):∀(f:Nat) (p:SetTable.Probe) (j:Nat) (d:Option Nat),p.dummy=none->SetTable.probe.go t ha x f p=some (.empty j d)->d=none/\t.slot j=.empty:=by
 intro f
 induction f with
 | zero=>intro p j d _ e;unfold SetTable.probe.go at e;cases e
 | succ f ih=>
  intro p j d hp e;unfold SetTable.probe.go at e;have ad:(t.advance p).dummy=none:=by unfold SetTable.advance;split <;> exact hp
  split at e
  . rename_i hs
    injection e with e;injection e with e1 e2;subst e1;subst e2;exact⟨hp,hs⟩
  . rename_i hs
    unfold SetTable.slot at hs;dsimp only at hs;rw[h.du,Eb] at hs
    split at hs <;> simp at hs
  . split at e
    . cases e
    . exact ih _ j d ad e
theorem TbI.layNew(h:TbI L t)(es:Array (Int × Value))(x:Int)(v:Value):TbI L (layNew t es x v).2.1:=by
 unfold PySem.layNew
 split
 . rename_i slot wd hf
   unfold SetTable.freeSlot at hf
   split at hf
   . rename_i j d hpr
     obtain⟨rfl,hs⟩:=Dm h _ _ _ _ _ _ rfl hpr;injection hf with hf;injection hf with h1 h2;subst h1;dsimp only[SetTable.put,Option.getD];refine TbI.orStandIn (t:={t with place:=SetTable.insertAt t.place (SetTable.below t.place j) j,dummies:=_}) ⟨h.ri.ins (E9 h hs),?_,h.led⟩ _;show(if SetTable.has t.dummies j=true then _ else t.dummies)=#[];rw[h.du,Eb];rfl
   . cases hf
 . exact h.standIn _
def Ri.filt(g:Nat->Option Nat)(n:Nat):Ri ((((List.range n).filterMap fun j=>(g j).map (j,·)).map (·.1)).toArray):=by
 have hp:(((List.range n).filterMap fun j=>(g j).map (j,·)).map (·.1)).Pairwise (· < ·):=by
  rw[Ra];refine List.Pairwise.filterMap _ (R:=(· < ·)) ?_ Qq;intro a b hab c hc d hd;cases ha:g a <;> cases hb:g b <;> simp_all
  subst hc;subst hd;exact hab
 intro i j a b hij ea eb;simp only[Qt] at ea eb;obtain⟨hi,ea⟩:=NR.mp ea;obtain⟨hj,eb⟩:=NR.mp eb;have:=List.pairwise_iff_getElem.mp hp i j hi hj hij;rw[ea,eb] at this;exact this
theorem TbI.relayAll(h:TbI L t)(es:Array (Int × Value))(n:Nat):TbI L (relayAll t es n).2.1:=by
 unfold PySem.relayAll
 split
 . rename_i t' order hr
   dsimp only
   split
   . unfold SetTable.relaid SetTable.laid at hr;simp only[Option.bind_eq_bind,Option.bind_eq_some_iff,Option.pure_def] at hr;obtain⟨owner,_,hr⟩:=hr;injection hr with hr;injection hr with h1 h2;subst h1;exact⟨Ri.filt _ _,rfl,h.led⟩
   . exact h.standIn _
 . exact h.standIn _
end L2
namespace L2
open PySem PyProof.Rows
theorem tK{l l':List Value}(p:l'.Perm l):∀{ns:∅},IntsAre l ns->∃ ns',IntsAre l' ns'/\ns'.Perm ns:=by
 induction p with
 | nil=>intro ns h;exact⟨ns,h,.refl _⟩
 | cons x _ ih=>
  intro ns h
  cases h with
  | cons n t h'=>obtain⟨m,a,b⟩:=ih h';exact⟨n::m,.cons n t a,b.cons n⟩
 | swap x y l=>
  intro ns h
  cases h with
  | cons n t h'=>
   cases h' with
   | cons n2 t2 h2=>exact⟨n2::n::_,.cons n2 t2 (.cons n t h2),.swap n n2 _⟩
 | trans _ _ ih1 ih2=>
  intro ns h;obtain⟨m,a,b⟩:=ih2 h;obtain⟨m2,a2,b2⟩:=ih1 a;exact⟨m2,a2,b2.trans b⟩
theorem Hu{l l2:List Value}{ns n2:∅}(h:IntsAre l ns)(h2:IntsAre l2 n2):IntsAre (l++l2) (ns++n2):=by
 induction h with
 | nil=>exact h2
 | cons n t _ ih=>exact .cons n t ih
theorem Cf{prog:Program}{w:World}:∀{l:List (Int × Value)} {ns:∅} {k:Int},IntsAre (l.map (·.2)) ns->((∃ e∈l,(intKind prog w).is k e.2=true)↔k∈ns)
 | [],_,k,h=>by cases h;simp
 | (a,v)::l,_,k,h=>by
  cases h with
  | cons n t h'=>
   have ih:=Cf (prog:=prog) (w:=w) (k:=k) h';rw[N4,← ih];constructor
   . rintro⟨e,he,hp⟩;rcases N4.mp he with rfl | he
     . exact .inl (by rw[KeyKind.is_eq_decide (RW prog w n t) k,NO] at hp;exact hp)
     . exact .inr ⟨e,he,hp⟩
   . rintro(rfl | ⟨e,he,hp⟩)
     . exact⟨(a,.int k t),.head _,RW prog w k t⟩
     . exact⟨e,.tail _ he,hp⟩
section
variable{prog:Program}{w:World}{A:Around}{E:Value->Shared->Prop}{s:Shared}
def SetD(prog:Program)(w:World)(L:Bool)(σ:∅)(o:Obj)(es:Array (Int × Value))(ep:Nat)(t:SetTable):Prop:=
 o.ExactSet/\o.data=.set es ep t/\ElemsOf (intKind prog w) es.toList/\(∃ ks,IntsAre (es.toList.map (·.2)) ks/\ks.Perm σ)/\es.size<scanBound/\t.fits es.size=true/\TbI L t
def SetK(prog:Program)(w:World)(h:Heap)(a:Addr)(L:Bool)(σ:∅):Prop:=
 ∃ o es ep t,h.get? a=some o/\SetD prog w L σ o es ep t
def SetK.kept{h h':Heap}{a:Addr}{L:Bool}{σ:∅}(S:SetK prog w h a L σ)(k:∀ o,h.get? a=some o->h'.get? a=some o):SetK prog w h' a L σ:=
 let ⟨o,es,ep,t,ho,r⟩:=S;⟨o,es,ep,t,k o ho,r⟩
def SetK.fresh{h:Heap}{a:Addr}{L:Bool}(e:h.get? a=some {cls:=.type "set",dict:=none,data:=.set #[] 0 (.fresh 0 0 L)}):SetK prog w h a L []:=
 ⟨_,#[],0,_,e,⟨rfl,rfl,rfl⟩,rfl,fun e he=>absurd he (by simp),⟨[],.nil,.refl _⟩,by decide,by rfl,TbI.fresh L 0 0⟩
def Cg{L:Bool}{σ:∅}{o:Obj}{es:Array (Int × Value)}{ep:Nat}{t:SetTable}(S:SetD prog w L σ o es ep t):es.size=σ.length:=by
 obtain⟨_,_,_,⟨ks,hk,p⟩,_⟩:=S;have:=IntsAre.length hk;rw[NI,Ov] at this;rw[this,p.length_eq]
def GD{σ:∅}{v:Int}(h:v∉σ):step_dedup σ v=σ++[v]:=by
 unfold step_dedup;rw[Ob];intro e;obtain⟨x,hx,hy⟩:=O8.mp e;exact h (Pe.mp hy ▸ hx)
def IK{σ:∅}{v:Int}(h:v∈σ):step_dedup σ v=σ:=by
 unfold step_dedup;have:(σ.any fun x=>x==v)=true:=O8.mpr ⟨v,h,Pe.mpr rfl⟩;exact Oh this
def xX {h:Heap} {a:Addr} {o:Obj} {es es':Array (Int × Value)} {ep:Nat} {t t':SetTable} {L:Bool} {σ':∅} (ho:h.get? a=some o) (hx:o.ExactSet) (hd:o.data=.set es ep t)
  (h1:ElemsOf (intKind prog w) es'.toList) (h2:∃ ks,IntsAre (es'.toList.map (·.2)) ks/\ks.Perm σ') (h3:es'.size<scanBound) (h4:t'.fits es'.size=true) (h5:TbI L t'):
  (h.update a (Obj.putSet es' t')).get? a=some {o with data:=.set es' (ep+1) t'}/\SetD prog w L σ' {o with data:=.set es' (ep+1) t'} es' (ep+1) t':=by
 have e:=putSet_of es' t' hd;have g:=O6 (Obj.putSet es' t') ho (by rw[e];rfl);rw[e] at g;exact⟨g,hx,rfl,h1,h2,h3,h4,h5⟩
theorem IL {a:Addr} {L:Bool} {σ:∅} {k:Int} {tk:Tok} {Q:Bool->Shared->Prop} (S:SetK prog w s.heap a L σ) (room:σ.length+1<scanBound)
  (q:∀ b h',Heap.SameBut a s.heap h'->SetK prog w h' a L (step_dedup σ k)->Q b {s with heap:=h'}):
  wpAny (model prog w) A (setAddHashed a (.int k tk) ((intKind prog w).hash k)) Q E s:=by
 obtain⟨o,es,ep,t,ho,D⟩:=S;have NF:=Cg D;obtain⟨hx,hd,hel,⟨ks,hks,pk⟩,hb,hf,ti⟩:=id D;have hkey:(intKind prog w).is k (.int k tk)=true:=RW prog w k tk;have hb1:es.size+1<scanBound:=NF ▸ room;unfold setAddHashed setAddHashedIn;refine Pr (NM (PH ho hd hf ?_));dsimp only;rw[byScan_of (x:=.int k tk) rfl hb hel];simp only[↓reduceIte];unfold setAddByScan;refine NM (NM (wpAny_rule (NM (wpAny_setScan_of hkey ho hd hf hel ?_))));have mem:=Cf (prog:=prog) (w:=w) (k:=k) hks
 cases hr:List.findIdx? (fun e=>(intKind prog w).is k e.2) es.toList with
 | some j=>
  dsimp only;obtain⟨hj,hpj,_⟩:=Qk.mp hr;have hin:k∈σ:=pk.mem_iff.mp (mem.mp ⟨_,Ot hj,hpj⟩);refine NT (NT ?_);have:=q false s.heap (Heap.SameBut.refl a s.heap) ⟨o,es,ep,t,ho,by rw[IK hin];exact D⟩;cases s;exact this
 | none=>
  dsimp only
  have hin:k∉σ:=fun h=>by
   obtain⟨e,he,hp⟩:=mem.mpr (pk.mem_iff.mpr h);rw[List.findIdx?_eq_none_iff.mp hr e he] at hp;exact Bool.noConfusion hp
  have gw:∀(b:Bool) {s₁:Shared} {Q':Unit->Shared->Prop},Q' () s₁->wpAny (model prog w) A (match b with | true=>rule "set.scan.the-table-gave-way" | false=>pure ()) Q' E s₁:=by
   intro b s₁ Q' hq;cases b
   . exact NT hq
   . exact wpAny_rule hq
  have p1:=layNew_perm t es ((intKind prog w).hash k) (.int k tk);have f1:=layNew_fits t es ((intKind prog w).hash k) (.int k tk);have t1':=ti.layNew es ((intKind prog w).hash k) (.int k tk);generalize layNew t es ((intKind prog w).hash k) (.int k tk)=T at p1 f1 t1' ⊢;obtain⟨es1,t1,wd,gv⟩:=T;dsimp only at p1 f1 t1' ⊢;rw[Array.toList_push] at p1;have el1:ElemsOf (intKind prog w) es1.toList:=(hel.push hkey rfl).perm p1
  have in1:∃ ks,IntsAre (es1.toList.map (·.2)) ks/\ks.Perm (step_dedup σ k):=by
   have h0:IntsAre ((es.toList++[((intKind prog w).hash k,Value.int k tk)]).map (·.2)) (ks++[k]):=by
    rw[OB];exact Hu hks (.cons k tk .nil)
   obtain⟨ks',a1,a2⟩:=tK (p1.map (·.2)) h0;exact⟨ks',a1,by rw[GD hin];exact a2.trans (pk.append_right [k])⟩
  have sz1:es1.size=es.size+1:=by rw[← Ov,p1.length_eq,N0,Ov];rfl
  have b1:es1.size<scanBound:=by rw[sz1];exact hb1
  have tail:∀(t2:SetTable) (R:Option Bool->Shared->Prop),t2.fits es1.size=true->TbI L t2->(∀ b h',Heap.SameBut a s.heap h'->SetK prog w h' a L (step_dedup σ k)->R (some b) {s with heap:=h'})->wpAny (model prog w) A (do
    storeSet a es1 t2
    if (!wd&&t2.tooFull)=true then do
      (match (relayAll t2 es1 (SetTable.grown es1.size)).2.2 with | true=>rule "set.scan.the-table-gave-way" | false=>pure ())
      storeSet a (relayAll t2 es1 (SetTable.grown es1.size)).1 (relayAll t2 es1 (SetTable.grown es1.size)).2.1
      pure (some true)
     else pure (some true)) R E s:=by
   intro t2 R f2 ti2 hq;refine NM (wpAny_storeSet_of ho hd ?_ (Qs b1));obtain⟨g1,D1⟩:=xX (prog:=prog) (w:=w) ho hx hd el1 in1 b1 f2 ti2;have sb:=O3 s.heap a (Obj.putSet es1 t2)
   split
   . have p2:=relayAll_perm t2 es1 (SetTable.grown es1.size);have f3:=relayAll_fits t2 es1 (SetTable.grown es1.size);have ti3:=ti2.relayAll es1 (SetTable.grown es1.size);generalize relayAll t2 es1 (SetTable.grown es1.size)=T at p2 f3 ti3 ⊢;obtain⟨es2,t3,g2⟩:=T;dsimp only at p2 f3 ti3 ⊢;obtain⟨k1,i1,i2⟩:=in1;obtain⟨k2,j1,j2⟩:=tK (p2.map (·.2)) i1;have sz:es2.size=es1.size:=by rw[← Ov,p2.length_eq,Ov]
     refine NM (gw _ (NM (wpAny_storeSet_of g1 rfl ?_ (Qs (sz ▸ b1)))));obtain⟨g3,D3⟩:=xX (prog:=prog) (w:=w) (σ':=step_dedup σ k) g1 hx rfl (el1.perm p2) ⟨k2,j1,j2.trans i2⟩ (sz ▸ b1) f3 ti3;exact NT (hq true _ (sb.trans (O3 _ a _)) ⟨_,_,_,_,g3,D3⟩)
   . exact NT (hq true _ sb ⟨_,_,_,_,g1,D1⟩)
  refine NM (gw _ ?_)
  split
  . refine NM ?_;rw[hashByValue_scannable 8 (x:=.int k tk) rfl];refine NT ?_;exact tail t1 _ f1 t1' fun b h' sb S'=>NT (q b h' sb S')
  . refine NM (NT ?_);simp only[↓reduceIte];exact tail t1 _ f1 t1' fun b h' sb S'=>NT (q b h' sb S')
end
end L2
namespace L2
open PySem PyProof.Rows
def setLx(w:World):Bool:=!w.params.followText "set-order"
section
variable{prog:Program}{w:World}{A:Around}{E:Value->Shared->Prop}{s:Shared}{R:Result->Shared->Prop}{I:Addr}{fp wr:List Addr}{G:Array GenState->Array GenState->Prop}{n:Nat}{P:Nat->Value->Prop}{St:Nat->Shared->Prop}
theorem Hv(W:WalksS prog w A.in1 I fp wr G n P St)(S:Addr)(hSf:S∉fp)(L:Bool)(val:Nat->Int)(hval:∀ i v,P i v->∃ t,v=.int (val i) t)(hb:n+1<scanBound):
  ∀(k i:Nat) (s:Shared),n-i=k->i<=n->St i s->SetK prog w s.heap S L (firstMet val i)->
   (∀ s',Moved (S::wr) G s s'->SetK prog w s'.heap S L (firstMet val n)->R (.ok (.ret .none)) s')->
   codeAny (model prog w) A (.builtin "set.update.loop" ⟨[.ref S,.ref I],[]⟩) R s:=by
 have hSw:S∉wr:=fun h=>hSf (W.sub _ h);have up:∀ b∈wr,b∈S::wr:=fun b h=>N3 _ h;intro k
 induction k with
 | zero=>
  intro i s hk hi hst hS hR;obtain rfl:i=n:=by omega
  refine P4 Rr ?_;rw[PJ Qj _];show wpAny _ A.in1 (pyNext (.ref I) >>= _) _ _ s;refine NM (W.done s _ _ hst fun s' hm=>?_);show wpAny _ A.in1 (ret Value.none) _ _ s';exact NT (hR s' (hm.mono up) (hS.kept fun o e=>hm.heap S o hSw e))
 | succ k ih=>
  intro i s hk hi hst hS hR;have hlt:i<n:=by omega
  refine P4 Rr ?_;rw[PJ Qj _];show wpAny _ A.in1 (pyNext (.ref I) >>= _) _ _ s;refine NM (W.item i s _ _ hlt hst fun v s' hP hst' hm=>?_);obtain⟨t,rfl⟩:=hval i v hP;have hS':=hS.kept fun o e=>hm.heap S o hSw e;show wpAny _ A.in1 (holding [Value.int (val i) t] (setAdd S (.int (val i) t)) >>= _) _ _ s';refine NM (Pr ?_);unfold setAdd;refine Pr (NM ((intKind prog w).pyHash (k:=val i) (RW _ _ _ _) ?_));have room:(firstMet val i).length+1<scanBound:=by have:=firstMet_length_le val i;omega
  refine IL (s:={s' with toks:=s'.toks+1}) hS' room fun b h' sb S2=>?_;rw[← firstMet_succ] at S2;refine NT ⟨Rg Qj _,ih (i+1) _ #[0] hlt (W.frame _ s' _ _ hst' (Ps _) fun b hb o e=>?_) S2 fun s'' hm'' hS''=>?_⟩
  . rw[sb.2 b (fun h:b=S=>hSf (h ▸ hb))];exact e
  . refine hR s'' (Moved.trans W.gtrans ((hm.mono up).then_heap (Ps _) fun b o hb e=>?_) hm'') hS'';rw[sb.2 b (fun h:b=S=>hb (h ▸ Oc))];exact e
abbrev nset(L:Bool):Obj:={cls:=.type "set",dict:=none,data:=.set #[] 0 (.fresh 0 0 L)}
def IM(a:Value){Q₁:Value->Shared->Prop}(h:Q₁ (.ref s.heap.objs.size) {s with heap:=s.heap.push (nset (setLx w))}):
  codeAny (model prog w) A (.call (.builtin "set.__new__") ⟨[.type "set",a],[]⟩) (wants Q₁ E) s:=by
 refine codeAny_of_tree ?_;show wpAny _ A.in1 (do checkBuiltinCall "set.__new__" ⟨[.type "set",a],[]⟩;again (.builtin "set.__new__" ⟨[.type "set",a],[]⟩)) _ _ s;refine NM (Q8 (F.newCall_set_1 a) (NT ⟨Rg F.plain_set_new _,P4 F.entry_set_new ?_⟩));rw[PJ F.plain_set_new _];unfold Builtin.«set.__new__» Builtin.Frozenset.newClass;have hsub:=sub_set_self;obtain⟨hp,g,d,tk,os⟩:=s;dsimp only
 wp_walk
 refine PX (NT ?_);dsimp only;simp only[newObj];exact NM (wpAny_alloc (NT (NT h)))
theorem Dn {l:Addr} {items:Array Value} {ns:∅} {Q:Value->Shared->Prop} (hh:A.handled=none) (hl:s.heap.IsList l items) (hi:IntsAre items.toList ns) (hb:items.size+1<scanBound)
  (h:∀(h':Heap) (tk:Nat),SetK prog w h' s.heap.objs.size (setLx w) (firstMet (fun i=>ns.getD i 0) items.size)->(∀ b o,b<s.heap.objs.size->s.heap.get? b=some o->h'.get? b=some o)->Q (.ref s.heap.objs.size) {s with heap:=h',toks:=tk}):
  wpAny (model prog w) A (call (.type "set") [.ref l]) Q E s:=by
 obtain⟨c,tl,hmro⟩:=P0.mro;have hmade:=P0.made;have hsub:=P0.sub;refine wpAny_call (codeAny_of_tree ?_);show wpAny _ _ (callAny (.type "set") _) _ _ _;refine NT ⟨Code.quiet_builtin _ (by decide+kernel),P4 F.entry_type_call ?_⟩;rw[Around.under_plain (weight_type_call_type "set" [.ref l] []) rfl];have h1:=P0.notType;have h2:=P0.canCreate;have hct:=F.typeCall_set_1 (.ref l)
 repeat (any_goals (first | assumption | wp_step))
 refine QN (IM (.ref l) (E:=E) (Q₁:=fun obj s₁=>obj=.ref s.heap.objs.size/\s₁={s with heap:=s.heap.push (nset (setLx w))}) ⟨rfl,rfl⟩) fun r s₁ hr=>?_
 cases r with
 | error e=>exact hr
 | ok fl=>
  cases fl with
  | ret obj=>
   obtain⟨rfl,rfl⟩:=hr;have hS:(s.heap.push (nset (setLx w))).get? s.heap.objs.size=some (nset (setLx w)):=N7 _ rfl;have hT:Shared.TypeIs {s with heap:=s.heap.push (nset (setLx w))} (.ref s.heap.objs.size) "set":=⟨_,hS,rfl⟩;have hli:=P0.init.lookup;have hbi:=P0.init.bind (.ref s.heap.objs.size)
   repeat (any_goals (first | assumption | wp_step))
   refine QN (codeAny_call_builtin (R:=wants (fun r s₂=>r=.none/\∃ h' tk,s₂={s with heap:=h',toks:=tk}/\SetK prog w h' s.heap.objs.size (setLx w) (firstMet (fun i=>ns.getD i 0) items.size)/\
     (∀ b o,b<s.heap.objs.size->s.heap.get? b=some o->h'.get? b=some o)) E) P0.init.plain F.entry_set_init (check_set_init_1 hT ?_)) fun r₂ s₂ hr₂=>?_
   . obtain⟨ol,hol,hcl,nl,hdl⟩:=hl;obtain⟨ocls,odict,odata,oslots⟩:=ol;simp only at hcl hdl;subst hcl;subst hdl;have hol':(s.heap.push (nset (setLx w))).get? l=some {cls:=.type "list",dict:=odict,data:=.seq items nl,slots:=oslots}:=NQ _ hol;have hsls:=F.sub_list_set;have hslf:=F.sub_list_frozenset;have hne:(Value.type "list"==Value.type "dict")=false:=by decide
     have hl1:(s.heap.push (nset (setLx w))).IsList l items:=⟨_,hol',rfl,nl,rfl⟩;unfold Builtin.«set.__init__» noKeywords Builtin.Frozenset.updateFrom;generalize hPI:pyIter=PI
     wp_walk
     subst hPI;refine P6 hl1 (NM (wpAny_runValue ?_));have hlS:l<s.heap.objs.size:=N6 hol;have hneI:l≠(s.heap.push (nset (setLx w))).objs.size:=by rw[OR];exact Op (OJ hlS)
     have hSf:s.heap.objs.size∉[(s.heap.push (nset (setLx w))).objs.size,l]:=by
      rw[OR];simp only[N4,Pf,QT,not_or];exact⟨Op (O1 _),PY hlS⟩
     refine Hv ((RV (by simp[hh]) _ l hneI items).toS) s.heap.objs.size hSf (setLx w) (fun i=>ns.getD i 0) (fun i v hv=>IntsAre.int_at hi i v (by rw[OM];exact hv)) hb (items.size-0) 0 _ #[0] (Ox _)
      ⟨⟨_,N7 _ rfl,rfl,rfl⟩,(hl1.push _)⟩ (SetK.fresh (NQ _ hS)) fun s' hm hS'=>?_
     obtain⟨h',g',d',tk',os'⟩:=s';obtain rfl:g'=s.gens:=hm.gens;obtain rfl:d'=s.drawn:=hm.drawn;obtain rfl:os'=s.os:=hm.os;show wpAny _ _ _ _ _ _;refine NT ?_;show wpAny _ _ (ret Value.none) _ _ _;refine NT ⟨rfl,h',tk',rfl,hS',fun b o hb e=>?_⟩;exact hm.heap b o (by rw[OR];simp only[N4,Pf,QT,not_or];exact⟨Op hb,Op (OJ hb)⟩) (NQ _ (NQ _ e))
   . cases r₂ with
     | error e=>exact hr₂
     | ok fl₂=>
      cases fl₂ with
      | ret r=>
       obtain⟨rfl,h',tk,rfl,hS',hk'⟩:=hr₂
       repeat (any_goals (first | assumption | wp_step))
       exact h _ _ hS' hk'
      | _=>exact hr₂.elim
  | _=>exact hr.elim
end
end L2
namespace L2
open PySem PyProof.Rows
def si_slot:Slot "set_iterator" "__next__" "set_iterator.__next__":=
 .of (owner:="set_iterator") (n:="__next__") (by rw[Qh,Px];kernel_rfl) (by decide+kernel) (by decide+kernel) (by decide+kernel)
  (by first | exact .inl (by decide+kernel) | exact .inr (by decide+kernel)) (by rw[RO];kernel_rfl)
def rB:entryFor table "set_iterator.__next__"=some Builtin.«set_iterator.__next__»:=entryFor_of_tree (by kernel_rfl)
def uQ(a:Value):argsOk "set_iterator.__next__" ⟨[a],[]⟩:=by unfold argsOk;kernel_rfl
def IN:entryFor table "set.__iter__"=some Builtin.«frozenset.__iter__»:=entryFor_alias (id':="frozenset.__iter__") (by kernel_rfl) rfl (by decide+kernel) (by kernel_rfl)
def Ch:Slot "set_iterator" "__iter__" "set_iterator.__iter__":=
 .of (owner:="set_iterator") (n:="__iter__") (by rw[Qh,Px];kernel_rfl) (by decide+kernel) (by decide+kernel) (by decide+kernel)
  (by first | exact .inl (by decide+kernel) | exact .inr (by decide+kernel)) (by rw[RO];kernel_rfl)
def GE:entryFor table "set_iterator.__iter__"=some Builtin.«dict_keyiterator.__iter__»:=entryFor_alias (id':="dict_keyiterator.__iter__") (by kernel_rfl) rfl (by decide+kernel) (by kernel_rfl)
def Hw(a:Value):argsOk "set_iterator.__iter__" ⟨[a],[]⟩:=by unfold argsOk;kernel_rfl
theorem rC{α:Type}:∀{l:List α} {i:Nat} (h:i<l.length),(l[i]::l.eraseIdx i).Perm l
 | x::l,0,h=>.refl _
 | x::l,i+1,h=>by
  have h':i<l.length:=by simpa using h
  rw[List.getElem_cons_succ,List.eraseIdx_cons_succ];exact(List.Perm.swap _ _ _).trans ((rC h').cons x)
theorem GF{α:Type}(nx:Nat->Nat):∀(f k:Nat) (left:List α) (out:Array α),left.length<=f->(pickOrder.go nx f k left out).toList.Perm (out.toList++left):=by
 intro f
 induction f with
 | zero=>intro k left out h;unfold pickOrder.go;rw[Rs.mp (by omega:left.length=0),QF]
 | succ f ih=>
  intro k left out h;unfold pickOrder.go
  split
  . rename_i x hx
    obtain⟨hi,rfl⟩:=NR.mp hx;refine(ih (k+1) _ _ (by rw[List.length_eraseIdx];split <;> omega)).trans ?_;rw[Array.toList_push,P7];exact RM _ (rC hi)
  . rename_i hx
    have:left=[]:=by
     cases left with
     | nil=>rfl
     | cons y ys=>
      rw[List.getElem?_eq_none_iff] at hx;exact absurd (Nat.mod_lt _ (by simp)) (Nat.not_lt.mpr hx)
    rw[this,QF]
section
variable{prog:Program}{w:World}{A:Around}{E:Value->Shared->Prop}{s:Shared}
theorem z5{α:Type}:∀(n:Nat) (xs:List α) (s:Shared) {Q:List α->Shared->Prop},xs.length<=n->(∀ ys d,ys.Perm xs->Q ys {s with drawn:=d})->wpAny (model prog w) A (drawOrder n xs) Q E s
 | 0,xs,s,Q,h,q=>by
  have:xs=[]:=Rs.mp #[0];subst this;exact NT (q [] s.drawn (.refl _))
 | n+1,[],s,Q,h,q=>NT (q [] s.drawn (.refl _))
 | n+1,x::xs,s,Q,h,q=>by
  unfold drawOrder;refine NM (fun Γ p hΓ=>?_);refine⟨by simp,?_⟩;have hlt:w.draws .order (s.drawn.get .order) % (x::xs).length < (x::xs).length:=Nat.mod_lt _ (by simp);have hl:((x::xs).eraseIdx (w.draws .order (s.drawn.get .order) % (x::xs).length)).length<=n:=by rw[List.length_eraseIdx,Oh hlt];simp at h ⊢;exact h
  refine(?_ :wpAny (model prog w) A _ _ E {s with drawn:=s.drawn.bump .order}) Γ p hΓ;refine NT ?_;show wpAny (model prog w) A (match (x::xs)[w.draws .order (s.drawn.get .order) % (x::xs).length]? with | some y=>_ | none=>_) Q E _;rw[NJ hlt];refine NM (z5 n _ _ hl fun ys d hp=>NT ?_);exact q _ d ((hp.cons _).trans (rC hlt))
abbrev itO(f:Value)(i:Nat)(a:Addr)(n ep:Nat):Obj:={cls:=.type "set_iterator",data:=.fields #[f,.int i 0,.ref a,.int n 0,.int ep 0]}
def Ci {I a:Addr} {o:Obj} {es:Array (Int × Value)} {ep i slot nx:Nat} {t:SetTable} {x:Value} {Q:Option Value->Shared->Prop} (hI:s.heap.get? I=some (itO (.int slot 0) i a es.size ep)) (ho:s.heap.get? a=some o) (hd:o.data=.set es ep t) (hf:t.fits es.size=true)
  (hn:∀{A:Around} {E:Value->Shared->Prop} {Q':Option (Value × Nat)->Shared->Prop},Q' (some (x,nx)) s->wpAny (model prog w) A (setNext a slot i ep) Q' E s)
  (q:∀ h',h'.get? I=some (itO (.int nx 0) (i+1) a es.size ep)->Heap.SameBut I s.heap h'->Q (some x) {s with heap:=h'}):wpAny (model prog w) A (pyNext (.ref I)) Q E s:=by
 have hT:s.TypeIs (.ref I) "set_iterator":=⟨_,hI,rfl⟩;unfold pyNext;refine NM (Rh (Pj (name:=Str.ofString "__next__") hT si_slot (Pg si_slot hT rB ?_ (uQ _))));unfold Builtin.«set_iterator.__next__»;refine NM (NT ?_);refine NM (QX hI rfl ?_);dsimp only;refine NM (PQ ho hd hf ?_);rw[Ob (by simp)];refine NM ?_;show wpAny _ _ (setNext a (Int.toNat (slot:Int)) (Int.toNat (i:Int)) (Int.toNat (ep:Int))) _ _ s;simp only[OF];refine hn ?_;refine NM (Qc hI rfl (by simp) ?_);have g1:=O6 (Obj.mapFields (·.setIfInBounds 0 (rawInt nx))) hI rfl;refine NM (Qc (s:={s with heap:=s.heap.update I (Obj.mapFields (·.setIfInBounds 0 (rawInt nx)))}) g1 rfl (by simp) ?_);have g2:=O6 (Obj.mapFields (·.setIfInBounds 1 (rawInt ((i:Int)+1)))) g1 rfl;refine NT ⟨_,rfl,NT (q _ ?_ ((O3 ..).trans (O3 ..)))⟩;rw[g2];simp[Obj.mapFields,rawInt,itO]
def Ec {I a:Addr} {o:Obj} {es:Array (Int × Value)} {ep i slot:Nat} {t:SetTable} {Q:Option Value->Shared->Prop} (hh:A.handled=none) (hI:s.heap.get? I=some (itO (.int slot 0) i a es.size ep)) (ho:s.heap.get? a=some o) (hd:o.data=.set es ep t) (hf:t.fits es.size=true)
  (hn:∀{A:Around} {E:Value->Shared->Prop} {Q':Option (Value × Nat)->Shared->Prop},Q' none s->wpAny (model prog w) A (setNext a slot i ep) Q' E s)
  (q:∀ h',Heap.ExtBut I s.heap h'->Q none {s with heap:=h'}):wpAny (model prog w) A (pyNext (.ref I)) Q E s:=by
 have hT:s.TypeIs (.ref I) "set_iterator":=⟨_,hI,rfl⟩;unfold pyNext;refine NM (Rh (Pj (name:=Str.ofString "__next__") hT si_slot (Pg si_slot hT rB ?_ (uQ _))));unfold Builtin.«set_iterator.__next__»;refine NM (NT ?_);refine NM (QX hI rfl ?_);dsimp only;refine NM (PQ ho hd hf ?_);rw[Ob (by simp)];refine NM ?_;show wpAny _ _ (setNext a (Int.toNat (slot:Int)) (Int.toNat (i:Int)) (Int.toNat (ep:Int))) _ _ s;simp only[OF];refine hn ?_;refine NM (Qc hI rfl (by simp) ?_);refine NM ?_;simp only[newExc,newTuple];refine NM (Pc ?_ (by size_fits));refine NM (m:=firstArgMember _ _) (Q8 (a:=Value.none) (by first | rfl | (simp only[firstArgMember];rfl)) ?_);refine Pc ?_ (by size_fits);simp only[raiseNew];refine NM (wpAny_handled ?_);rw[show A.in1.handled=none from hh];refine NM (NT (wpAny_throw ?_));refine NM (Rt (T:="StopIteration") (b:=true) ⟨_,N7 _ rfl,rfl⟩ isSubtype_stop ?_);exact NT (q _ (((O3 ..).extBut.push _).push _))
end
end L2
namespace L2
open PySem PyProof.Rows
section
variable{prog:Program}{w:World}{A:Around}{E:Value->Shared->Prop}{s:Shared}
def Hx {I a T:Addr} {o oT:Obj} {es:Array (Int × Value)} {ep i p nT:Nat} {t:SetTable} {x:Value} {hs:Int} {pl:List Nat} {Q:Option Value->Shared->Prop} (hI:s.heap.get? I=some (itO (.ref T) i a es.size ep)) (ho:s.heap.get? a=some o) (hd:o.data=.set es ep t) (hf:t.fits es.size=true)
  (hT:s.heap.get? T=some oT) (hTd:oT.data=.seq (pl.map fun p:Nat=>rawInt p).toArray nT) (hp:pl[i]? =some p) (hx:es[p]? =some (hs,x))
  (q:∀ h',h'.get? I=some (itO (.ref T) (i+1) a es.size ep)->Heap.SameBut I s.heap h'->Q (some x) {s with heap:=h'}):wpAny (model prog w) A (pyNext (.ref I)) Q E s:=by
 have hTy:s.TypeIs (.ref I) "set_iterator":=⟨_,hI,rfl⟩;unfold pyNext;refine NM (Rh (Pj (name:=Str.ofString "__next__") hTy si_slot (Pg si_slot hTy rB ?_ (uQ _))));unfold Builtin.«set_iterator.__next__»;refine NM (NT ?_);refine NM (QX hI rfl ?_);dsimp only;refine NM (PQ ho hd hf ?_);rw[Ob (by simp)];unfold seqItems?;dsimp only;refine NM (NM (RU hT ?_));rw[hTd];dsimp only;refine NT ?_;dsimp only
 have hg:(pl.map fun p:Nat=>rawInt p).toArray[Int.toNat (i:Int)]? =some (.int (p:Int) 0):=by
  rw[OF,Qt,NN,hp];rfl
 rw[hg];dsimp only;unfold setNextDrawn;simp only[OF];refine NM (NM (PH ho hd hf ?_));dsimp only;rw[Ob (by simp),hx];refine NT ?_;refine NM (Qc hI rfl (by simp) ?_);have g2:=O6 (Obj.mapFields (·.setIfInBounds 1 (rawInt ((i:Int)+1)))) hI rfl;refine NT ⟨_,rfl,NT (q _ ?_ (O3 ..))⟩;rw[g2];simp[Obj.mapFields,rawInt,itO]
def IO {I a T:Addr} {o oT:Obj} {es:Array (Int × Value)} {ep i nT:Nat} {t:SetTable} {pl:List Nat} {Q:Option Value->Shared->Prop} (hh:A.handled=none) (hI:s.heap.get? I=some (itO (.ref T) i a es.size ep)) (ho:s.heap.get? a=some o) (hd:o.data=.set es ep t) (hf:t.fits es.size=true)
  (hT:s.heap.get? T=some oT) (hTd:oT.data=.seq (pl.map fun p:Nat=>rawInt p).toArray nT) (hp:pl[i]? =none)
  (q:∀ h',Heap.ExtBut I s.heap h'->Q none {s with heap:=h'}):wpAny (model prog w) A (pyNext (.ref I)) Q E s:=by
 have hTy:s.TypeIs (.ref I) "set_iterator":=⟨_,hI,rfl⟩;unfold pyNext;refine NM (Rh (Pj (name:=Str.ofString "__next__") hTy si_slot (Pg si_slot hTy rB ?_ (uQ _))));unfold Builtin.«set_iterator.__next__»;refine NM (NT ?_);refine NM (QX hI rfl ?_);dsimp only;refine NM (PQ ho hd hf ?_);rw[Ob (by simp)];unfold seqItems?;dsimp only;refine NM (NM (RU hT ?_));rw[hTd];dsimp only;refine NT ?_;dsimp only
 have hg:(pl.map fun p:Nat=>rawInt p).toArray[Int.toNat (i:Int)]? =none:=by
  rw[OF,Qt,NN,hp];rfl
 rw[hg];dsimp only;refine NM (Qc hI rfl (by simp) ?_);have g1:=O6 (Obj.mapFields (·.setIfInBounds 0 (rawInt 0))) hI rfl;refine NM (Qc (s:={s with heap:=s.heap.update I (Obj.mapFields (·.setIfInBounds 0 (rawInt 0)))}) g1 rfl (by simp) ?_);refine NM ?_;simp only[newExc,newTuple];refine NM (Pc ?_ (by size_fits));refine NM (m:=firstArgMember _ _) (Q8 (a:=Value.none) (by first | rfl | (simp only[firstArgMember];rfl)) ?_);refine Pc ?_ (by size_fits);simp only[raiseNew];refine NM (wpAny_handled ?_);rw[show A.in1.handled=none from hh];refine NM (NT (wpAny_throw ?_));refine NM (Rt (T:="StopIteration") (b:=true) ⟨_,N7 _ rfl,rfl⟩ isSubtype_stop ?_);exact NT (q _ ((((O3 ..).trans (O3 ..)).extBut.push _).push _))
def tL{I a:Addr}{f:Value}{i n ep:Nat}{Q:Value->Shared->Prop}(hI:s.heap.get? I=some (itO f i a n ep))(h:Q (.ref I) s):wpAny (model prog w) A (pyIter (.ref I)) Q E s:=by
 have hTy:s.TypeIs (.ref I) "set_iterator":=⟨_,hI,rfl⟩;refine wpAny_pyIter_slot hTy Ch (Pg Ch hTy GE ?_ (Hw _));show wpAny _ _ (ret (.ref I)) _ _ s;exact NT ⟨_,rfl,"set_iterator",_,hTy,si_slot.lookup,h⟩
def Ed {a:Addr} {o:Obj} {es:Array (Int × Value)} {ep i slot:Nat} {t:SetTable} (bt:w.params.followText "set-order"=true) (ho:s.heap.get? a=some o) (hd:o.data=.set es ep t) (hf:t.fits es.size=true)
  {Q':Option (Value × Nat)->Shared->Prop} (q:Q' (((pickOrder (w.params.setOrder a ep) es)[i]?).map fun e=>(e.2,slot)) s):wpAny (model prog w) A (setNext a slot i ep) Q' E s:=by
 unfold setNext setsByText;refine NM (PH ho hd hf ?_);dsimp only;refine NM (NM (PX (NT ?_)));show wpAny _ _ (if w.params.followText "set-order"=true then _ else _) _ _ s;rw[Oh bt,Ob (by simp)];unfold setWalk setsByText;refine NM (NM (PH ho hd hf ?_));dsimp only;refine NM (NM (PX (NT ?_)));show wpAny _ _ (if w.params.followText "set-order"=true then _ else _) _ _ s;rw[Oh bt];exact NM (PX (NT (NT q)))
def GG {a:Addr} {o:Obj} {es:Array (Int × Value)} {ep i slot:Nat} {t:SetTable} (bt:w.params.followText "set-order"=false) (dr:(!t.plain&&decide (es.size>1))=false) (ld:t.led=true) (ho:s.heap.get? a=some o) (hd:o.data=.set es ep t) (hf:t.fits es.size=true)
  {Q':Option (Value × Nat)->Shared->Prop} (q:Q' (match es[SetTable.below t.place slot]?,t.place[SetTable.below t.place slot]? with | some (_,x),some j=>some (x,j+1) | _,_=>none) s):wpAny (model prog w) A (setNext a slot i ep) Q' E s:=by
 unfold setNext setsByText;refine NM (PH ho hd hf ?_);dsimp only;refine NM (NM (PX (NT ?_)));show wpAny _ _ (if w.params.followText "set-order"=true then _ else _) _ _ s;rw[Ob (by rw[bt];decide)];show wpAny _ _ (if (!t.plain&&decide (es.size>1))=true then _ else _) _ _ s;rw[Ob (by rw[dr];decide)];refine NM ?_;show wpAny _ _ (if (!t.led&&!es.isEmpty)=true then _ else pure ()) _ _ s;rw[Ob (by rw[ld];simp)];exact NT (NT q)
end
end L2
namespace L2
open PySem PyProof.Rows
variable{p:Addr->Prop}
def Cj{x y:Addr}(h1:p x)(h2:p y):∀ b∈[x,y],p b:=fun b hb=>by
 rcases N4.mp hb with rfl | hb
 . exact h1
 . rcases N4.mp hb with rfl | hb
   . exact h2
   . cases hb
def JX{x y z:Addr}(h1:p x)(h2:p y)(h3:p z):∀ b∈[x,y,z],p b:=fun b hb=>by
 rcases N4.mp hb with rfl | hb
 . exact h1
 . exact Cj h2 h3 b hb
theorem Ck{es:Array (Int × Value)}:∀{pl:List Nat},(∀ p∈pl,∃ e,es[p]? =some e)->(pl.filterMap fun p=>es[p]?.map (·.2))=pl.map fun p=>(es[p]?.map (·.2)).getD .none
 | [],_=>rfl
 | p::pl,al=>by
  obtain⟨e,he⟩:=al p (.head _);rw[Qe,he,Os,he];exact congrArg _ (Ck fun p h=>al p (.tail _ h))
def Hy{ord:List Value}{n:Nat}{acc:Array Value}(hn:ord.length=n)(h:ItemsOf (fun i v=>ord[i]? =some v) acc n):acc.toList=ord:=by
 refine O5 fun i=>?_;rcases Qd i acc.size with c | c
 . have e:acc[i]? =some acc[i]:=OC c;rw[OM,e,h.2 i _ e]
 . rw[OM,Pb c,Od (by rw[hn,← h.1];exact c)]
structure GoSet(prog:Program)(w:World)(es:Array (Int × Value))(a:Addr)(sz:Nat)(I:Addr)(h':Heap):Prop where
 new:sz<=I
 ty:∃ o,h'.get? I=some o/\o.cls=.type "set_iterator"
 ex:∃(fp:List Addr) (ord:List Value) (St:Nat->Heap->Prop),(∀ A,A.handled=none->Walks prog w A I fp [I] es.size (fun i v=>ord[i]? =some v) St)/\St 0 h'/\(∀ b∈fp,b=a\/sz<=b)/\(∀ b∈fp,b<h'.objs.size)/\ord.Perm (es.toList.map (·.2))
section
variable{prog:Program}{w:World}{A:Around}{E:Value->Shared->Prop}{s:Shared}
def uR{I b:Addr}{h h':Heap}{o:Obj}(x:Heap.ExtBut I h h')(ne:b≠I)(e:h.get? b=some o):h'.get? b=some o:=x b o ne e
def Cm(t:SetTable)(i:Nat):Nat:=match i with | 0=>0 | k+1=>t.place.getD k 0+1
theorem xY{t:SetTable}(R:Ri t.place){i:Nat}(h:i<=t.place.size):SetTable.below t.place (Cm t i)=i:=by
 cases i with
 | zero=>exact E7 R
 | succ k=>
  have e:t.place[k]? =some t.place[k]:=OC h;show SetTable.below t.place (t.place.getD k 0+1)=k+1;have:t.place.getD k 0=t.place[k]:=by simp[Array.getD,Nat.lt_of_succ_le h]
  rw[this];exact E8 R e
theorem Hz {a:Addr} {L:Bool} {σ:∅} {o:Obj} {es:Array (Int × Value)} {ep:Nat} {t:SetTable} {Q:Value->Shared->Prop} (ho:s.heap.get? a=some o) (D:SetD prog w (setLx w) σ o es ep t)
  (q:∀ h' d I,(∀ b o,s.heap.get? b=some o->h'.get? b=some o)->GoSet prog w es a s.heap.objs.size I h'->Q (.ref I) {s with heap:=h',drawn:=d}):wpAny (model prog w) A (pyIter (.ref a)) Q E s:=by
 obtain⟨hx,hd,hel,_,hb,hf,ti⟩:=id D;have hT:s.TypeIs (.ref a) "set":=⟨o,ho,hx.1⟩;have ha:a<s.heap.objs.size:=N6 ho;have hps:t.place.size=es.size:=by simp only[SetTable.fits,Om,Pe] at hf;exact hf.1
 refine wpAny_pyIter_slot hT F.slot_set_iter (Pg F.slot_set_iter hT IN ?_ (F.args_set_iter_1 _));unfold Builtin.«frozenset.__iter__» Builtin.Frozenset.slot0 slotArgs Builtin.Frozenset.sizeOf Builtin.Frozenset.addrOf;simp only[List.isEmpty_nil,PL,Bool.false_eq_true,↓reduceIte,bind_assoc,RE,bne_self_eq_false];refine NM (NT ?_)
 try dsimp only
 refine NM (NT ?_)
 try dsimp only
 refine NM (PQ ho hd hf ?_)
 try dsimp only
 refine NM (NT ?_);unfold setDrawn setsByText;simp only[bind_assoc];refine NM (PH ho hd hf ?_);dsimp only;refine NM (PX ?_);refine NM (NT ?_);refine NM (NT ?_);show wpAny _ _ (if (!w.params.followText "set-order"&&(!t.plain&&decide (es.size>1)))=true then _ else _) _ _ s;have lt1:s.heap.objs.size < (s.heap.push (itO (.int 0 0) 0 a es.size ep)).objs.size:=by rw[OR];exact O1 _
 cases hdr:(!w.params.followText "set-order"&&(!t.plain&&decide (es.size>1))) with
 | false=>
  rw[Ob #[1]];refine NM (NT ?_);refine NM (wpAny_setEpoch_of ho hd hf ?_);refine NM (Pc (NT ⟨_,rfl,"set_iterator",_,⟨_,N7 _ rfl,rfl⟩,si_slot.lookup,?_⟩));have gI:(s.heap.push (itO (.int 0 0) 0 a es.size ep)).get? s.heap.objs.size=some (itO (.int 0 0) 0 a es.size ep):=N7 _ rfl;have gA:(s.heap.push (itO (.int 0 0) 0 a es.size ep)).get? a=some o:=NQ _ ho;refine q (s.heap.push (itO (.int 0 0) 0 a es.size ep)) s.drawn s.heap.objs.size (fun b o e=>NQ _ e) ⟨NU _,⟨_,gI,rfl⟩,?_⟩;have hne:a≠s.heap.objs.size:=Op ha
  cases bt:w.params.followText "set-order" with
  | true=>
   have pp:=GF (w.params.setOrder a ep) es.size 0 es.toList #[] (by simp);have psz:(pickOrder (w.params.setOrder a ep) es).toList.Perm es.toList:=by simpa [pickOrder] using pp
   refine⟨[s.heap.objs.size,a],(pickOrder (w.params.setOrder a ep) es).toList.map (·.2),fun i h=>h.get? s.heap.objs.size=some (itO (.int 0 0) i a es.size ep)/\h.get? a=some o,fun A hh=>⟨fun b hb=>by simp at hb;simp[hb],fun i h h' st hk=>⟨hk _ (by simp) _ st.1,hk _ (by simp) _ st.2⟩,fun i s' Q E hi st hQ=>?_,fun s' Q E st hQ=>?_,fun i s' Q E st hQ=>tL st.1 hQ⟩,⟨gI,gA⟩,Cj (.inr (NU _)) (.inl rfl),Cj lt1 (Pq ha lt1),psz.map _⟩
   . have hi':i < (pickOrder (w.params.setOrder a ep) es).size:=by rw[← Ov,psz.length_eq,Ov];exact hi
     have e:(pickOrder (w.params.setOrder a ep) es)[i]? =some (pickOrder (w.params.setOrder a ep) es)[i]:=OC hi';refine Ci (nx:=0) (x:=(pickOrder (w.params.setOrder a ep) es)[i].2) st.1 st.2 hd hf (fun{A E Q'} hq=>Ed bt st.2 hd hf (by rw[e];exact hq)) fun h' g sb=>?_;exact hQ _ h' s'.toks (by rw[NN,OM,e];rfl) ⟨g,uR sb.extBut hne st.2⟩ fun b o hb e=>sb.extBut b o (fun h=>hb (by simp[h])) e
   . have e:(pickOrder (w.params.setOrder a ep) es)[es.size]? =none:=Pb (by rw[← Ov,psz.length_eq,Ov];exact NU _);exact Ec hh st.1 st.2 hd hf (fun{A E Q'} hq=>Ed bt st.2 hd hf (by rw[e];exact hq)) fun h' he'=>hQ h' s'.toks fun b o hb e=>he' b o (fun h=>hb (by simp[h])) e
  | false=>
   rw[bt] at hdr;have dr:(!t.plain&&decide (es.size>1))=false:=by simpa using hdr
   have ld:t.led=true:=by rw[ti.led];simp[setLx,bt]
   refine⟨[s.heap.objs.size,a],es.toList.map (·.2),fun i h=>h.get? s.heap.objs.size=some (itO (.int (Cm t i) 0) i a es.size ep)/\h.get? a=some o,fun A hh=>⟨fun b hb=>by simp at hb;simp[hb],fun i h h' st hk=>⟨hk _ (by simp) _ st.1,hk _ (by simp) _ st.2⟩,fun i s' Q E hi st hQ=>?_,fun s' Q E st hQ=>?_,fun i s' Q E st hQ=>tL st.1 hQ⟩,⟨gI,gA⟩,Cj (.inr (NU _)) (.inl rfl),Cj lt1 (Pq ha lt1),.refl _⟩
   . have hb':=xY ti.ri (i:=i) #[0];have e:es[i]? =some es[i]:=OC hi
     have e2:t.place[i]? =some (t.place.getD i 0):=by
      have:i<t.place.size:=by omega
      simp[Array.getD,this]
     refine Ci (nx:=Cm t (i+1)) (x:=es[i].2) st.1 st.2 hd hf (fun{A E Q'} hq=>GG bt dr ld st.2 hd hf (by rw[hb',e,e2];exact hq)) fun h' g sb=>?_;exact hQ _ h' s'.toks (by rw[NN,OM,e];rfl) ⟨g,uR sb.extBut hne st.2⟩ fun b o hb e=>sb.extBut b o (fun h=>hb (by simp[h])) e
   . have hb':=xY ti.ri (i:=es.size) #[0];have e:es[es.size]? =none:=Pb (NU _);exact Ec hh st.1 st.2 hd hf (fun{A E Q'} hq=>GG bt dr ld st.2 hd hf (by rw[hb',e];exact hq)) fun h' he'=>hQ h' s'.toks fun b o hb e=>he' b o (fun h=>hb (by simp[h])) e
 | true=>
  rw[Oh rfl];refine NM (z5 es.size (List.range es.size) _ (by simp) fun pl d hp=>?_);have hpl:pl.length=es.size:=by rw[hp.length_eq,OK]
  refine NM ?_;unfold newTuple;refine Pc ?_ (by show(pl.map fun i:Nat=>rawInt i).toArray.size<=sizeLine;simp only[N1,NI,hpl];exact Qs hb);have gA1:(s.heap.push {cls:=.type "tuple",data:=.seq (pl.map fun i:Nat=>rawInt i).toArray}).get? a=some o:=NQ _ ho;refine NM (wpAny_setEpoch_of (s:={s with heap:=s.heap.push {cls:=.type "tuple",data:=.seq (pl.map fun i:Nat=>rawInt i).toArray},drawn:=d}) gA1 hd hf ?_);refine NM (Pc (NT ⟨_,rfl,"set_iterator",_,⟨_,N7 _ rfl,rfl⟩,si_slot.lookup,?_⟩));have gT1:(s.heap.push {cls:=.type "tuple",data:=.seq (pl.map fun i:Nat=>rawInt i).toArray}).get? s.heap.objs.size=some {cls:=.type "tuple",data:=.seq (pl.map fun i:Nat=>rawInt i).toArray}:=N7 _ rfl;have sz1:(s.heap.push {cls:=.type "tuple",data:=.seq (pl.map fun i:Nat=>rawInt i).toArray}).objs.size=s.heap.objs.size+1:=by rw[OR]
  generalize hh1:s.heap.push {cls:=.type "tuple",data:=.seq (pl.map fun i:Nat=>rawInt i).toArray}=h1 at gA1 gT1 sz1 ⊢;have old1:∀ b o,s.heap.get? b=some o->h1.get? b=some o:=fun b o e=>hh1 ▸ NQ _ e;have gI:(h1.push (itO (.ref s.heap.objs.size) 0 a es.size ep)).get? h1.objs.size=some (itO (.ref s.heap.objs.size) 0 a es.size ep):=N7 _ rfl;have lt2:h1.objs.size < (h1.push (itO (.ref s.heap.objs.size) 0 a es.size ep)).objs.size:=by rw[OR];exact O1 _
  have neA:a≠h1.objs.size:=by rw[sz1];exact Op (OJ ha)
  have neT:s.heap.objs.size≠h1.objs.size:=by rw[sz1];exact Op (O1 _)
  have inS:∀{i p:Nat},pl[i]? =some p->∃ e,es[p]? =some e:=fun{i p} e=>by
   have:p∈List.range es.size:=hp.mem_iff.mp (NV e);exact⟨_,OC (N8.mp this)⟩
  refine q (h1.push (itO (.ref s.heap.objs.size) 0 a es.size ep)) d h1.objs.size (fun b o e=>NQ _ (old1 b o e)) ⟨by rw[sz1];exact Ps _,⟨_,gI,rfl⟩,?_⟩
  refine⟨[h1.objs.size,a,s.heap.objs.size],pl.filterMap fun p=>es[p]?.map (·.2),fun i h=>h.get? h1.objs.size=some (itO (.ref s.heap.objs.size) i a es.size ep)/\h.get? a=some o/\h.get? s.heap.objs.size=some {cls:=.type "tuple",data:=.seq (pl.map fun i:Nat=>rawInt i).toArray},fun A hh=>⟨fun b hb=>by simp at hb;simp[hb],fun i h h' st hk=>⟨hk _ (by simp) _ st.1,hk _ (by simp) _ st.2.1,hk _ (by simp) _ st.2.2⟩,fun i s' Q E hi st hQ=>?_,fun s' Q E st hQ=>?_,fun i s' Q E st hQ=>tL st.1 hQ⟩,⟨gI,NQ _ gA1,NQ _ gT1⟩,
   JX (.inr (by rw[sz1];exact Ps _)) (.inl rfl) (.inr (NU _)),JX lt2 (Pq (N6 gA1) lt2) (Pq (N6 gT1) lt2),?_⟩
  . have hi':i<pl.length:=by rw[hpl];exact hi
    have e:=NJ hi';obtain⟨⟨hs,x⟩,ex⟩:=inS e;refine Hx (hs:=hs) (x:=x) st.1 st.2.1 hd hf st.2.2 rfl e ex fun h' g sb=>?_;refine hQ x h' s'.toks ?_ ⟨g,uR sb.extBut neA st.2.1,uR sb.extBut neT st.2.2⟩ fun b o hb e=>sb.extBut b o (fun h=>hb (by simp[h])) e;rw[Ck fun p hp'=>⟨_,OC (N8.mp (hp.mem_iff.mp hp'))⟩,NN,e];show some ((es[pl[i]]?.map (·.2)).getD .none)=some x;rw[ex];rfl
  . exact IO hh st.1 st.2.1 hd hf st.2.2 rfl (Od (by rw[hpl];exact NU _)) fun h' he'=>hQ h' s'.toks fun b o hb e=>he' b o (fun h=>hb (by simp[h])) e
  . refine(hp.filterMap _).trans ?_;have h0:=filterMap_getElem?_range es
    have:((List.range es.size).filterMap fun p=>es[p]?.map (·.2))=((List.range es.size).filterMap fun i=>es[i]?).map (·.2):=by
     rw[List.map_filterMap]
    rw[this,h0]
def HA{a:Addr}{Q:Bool->Shared->Prop}(hT:s.TypeIs (.ref a) "set")(q:Q false s):wpAny (model prog w) A (Builtin.List.listLengthHint (.ref a)) Q E s:=by
 unfold Builtin.List.listLengthHint;refine NM (wpAny_specialOf hT F.slot_set_len.lookup ?_)
 (generalize hid:("set.__len__":String)=id0;(fail_if_success (clear hid id0));wp_delta;rw[show splitId id0=some ("set","__len__") from by subst hid;decide+kernel];subst hid)
 refine NM (Rt (b:=true) hT (by rw[RO];kernel_rfl) ?_);show wpAny _ _ (typeOf (Value.ref a) >>= _) _ _ s;exact NM (wpAny_typeOf hT (NT q))
def Do {a:Addr} {σ:∅} {o:Obj} {es:Array (Int × Value)} {ep:Nat} {t:SetTable} {Q:List Value->Shared->Prop} (hh:A.handled=none) (ho:s.heap.get? a=some o) (D:SetD prog w (setLx w) σ o es ep t)
  (q:∀ vs h' tk d,vs.Perm (es.toList.map (·.2))->(∀ b o,s.heap.get? b=some o->h'.get? b=some o)->s.heap.objs.size<h'.objs.size->Q vs {s with heap:=h',toks:=tk,drawn:=d}):wpAny (model prog w) A (collect (.ref a)) Q E s:=by
 have ha:a<s.heap.objs.size:=N6 ho;have hb:es.size<scanBound:=D.2.2.2.2.1;unfold collect;refine NM (wpAny_runValue (P4 F.entry_proto_collect ?_));rw[PJ F.plain_proto_collect _];show wpAny _ A.in1 (newList [] >>= fun l=>again (.builtin "list.__iadd__" ⟨[l,.ref a],[]⟩)) _ _ s;refine NM (Pc ?_);refine NT ⟨Rg F.plain_list_iadd _,P4 F.entry_list_iadd ?_⟩;rw[PJ F.plain_list_iadd _];have gS:(s.heap.push {cls:=.type "list",data:=.seq ([]:List Value).toArray}).get? s.heap.objs.size=some {cls:=.type "list",data:=.seq ([]:List Value).toArray}:=N7 _ rfl;have gA:(s.heap.push {cls:=.type "list",data:=.seq ([]:List Value).toArray}).get? a=some o:=NQ _ ho;have sz:(s.heap.push {cls:=.type "list",data:=.seq ([]:List Value).toArray}).objs.size=s.heap.objs.size+1:=by rw[OR]
 have old:∀ b o,s.heap.get? b=some o->(s.heap.push {cls:=.type "list",data:=.seq ([]:List Value).toArray}).get? b=some o:=fun b o e=>NQ _ e;generalize s.heap.push {cls:=.type "list",data:=.seq ([]:List Value).toArray}=h1 at gS gA sz old ⊢;show wpAny _ A.in1 (Builtin.List.listExtendWith (.ref s.heap.objs.size) (.ref a) (.ref s.heap.objs.size)) _ _ {s with heap:=h1};unfold Builtin.List.listExtendWith;have hT:Shared.TypeIs {s with heap:=h1} (.ref a) "set":=⟨o,gA,D.1.1⟩;refine NM (wpAny_typeOf hT ?_)
 have n1:Builtin.List.listSameRef (.ref s.heap.objs.size) (.ref a)=false:=by
  show(s.heap.objs.size==a)=false;exact Po.mpr (PY ha)
 rw[Ob (by rw[n1];decide)];refine NM (Hz (s:={s with heap:=h1}) (L:=true) gA D fun h2 d I k2 ⟨new,⟨oI,gI,cI⟩,fp,ord,St,W,st,f1,f2,pm⟩=>?_);refine NM (Pr (HA (s:={s with heap:=h2,drawn:=d}) ⟨o,k2 _ _ gA,D.1.1⟩ ?_));rw[Oh #[1]];refine NM (wpAny_rule ?_);have g0:=k2 _ _ gS
 have hSf:s.heap.objs.size∉fp:=fun hm=>by
  rcases f1 _ hm with e | e
  . exact absurd e (PY ha)
  . have e':h1.objs.size<=s.heap.objs.size:=e;rw[sz] at e';exact absurd e' (Nat.not_le_of_lt (O1 _))
 refine NM ?_;show wpAny _ A.in1 (updateSeq s.heap.objs.size (·.push .none) >>= fun _=>updateSeq s.heap.objs.size (·.pop)) _ _ {s with heap:=h2,drawn:=d};refine NM (wpAny_updateSeq g0 rfl ?_);have g1:=O6 (Obj.mapSeq (·.push Value.none)) g0 rfl;refine wpAny_updateSeq g1 rfl ?_;have g3:=O6 (Obj.mapSeq (·.pop)) g1 rfl
 have oth:∀ b o,b≠s.heap.objs.size->h2.get? b=some o->((h2.update s.heap.objs.size (Obj.mapSeq (·.push Value.none))).update s.heap.objs.size (Obj.mapSeq (·.pop))).get? b=some o:=
  fun b o hb e=>(Qm _ _ (Qz hb)).trans ((Qm _ _ (Qz hb)).trans e)
 have W':=W A.in1 (by simp[hh]);have hol:ord.length=es.size:=by rw[pm.length_eq,NI,Ov]
 refine NT ⟨Rg F.plain_extend_loop _,codeAny_extend_loopS W'.toS (Qs hb) _ hSf _ es.size 0 _ _ _ rfl (Ox _) (W'.frame 0 h2 _ st fun b hb o e=>oth b o (fun h=>hSf (h ▸ hb)) e) g3 (ItemsOf.nil _) fun s' acc' c' hm hS' hacc=>?_⟩;show wpAny _ A (load s.heap.objs.size >>= _) _ _ s';refine NM (RU hS' (NT ?_));rw[Hy hol hacc];obtain⟨h',g',d',tk',os'⟩:=s';obtain rfl:g'=s.gens:=hm.gens;obtain rfl:d'=d:=hm.drawn;obtain rfl:os'=s.os:=hm.os;refine q ord h' tk' _ pm (fun b ob e=>?_) (N6 hS');have hbl:b<s.heap.objs.size:=N6 e;refine hm.heap b ob ?_ (oth b ob (Op hbl) (k2 _ _ (old b ob e)));intro hmem;rcases N4.mp hmem with e' | e'
 . exact absurd e' (Op hbl)
 . rcases N4.mp e' with e' | e'
   . have n':h1.objs.size<=I:=new;rw[sz,← e'] at n';exact absurd n' (Nat.not_le_of_lt (OJ hbl))
   . cases e'
def Fa {a:Addr} {σ:∅} {Q:Value->Shared->Prop} (hh:A.handled=none) (S:SetK prog w s.heap a (setLx w) σ) (h64:σ.length<64)
  (q:∀(h':Heap) (tk:Nat) d (l:Addr) (out:Array Value) (ns':∅) n,s.heap.objs.size<=l->IntsAre out.toList ns'->ns'.Perm σ->ns'.Pairwise (· <=·)->(∀ b o,s.heap.get? b=some o->h'.get? b=some o)->h'.get? l=some (seqObj "list" out n)->Q (.ref l) {s with heap:=h',toks:=tk,drawn:=d}):
  wpAny (model prog w) A (call (.builtin "sorted") [.ref a]) Q E s:=by
 obtain⟨o,es,ep,t,ho,D⟩:=S;have NF:=Cg D;obtain⟨ks,hks,pk⟩:=D.2.2.2.1;refine Calls.call_function_entry kind_sorted plain_sorted entry_sorted (args_sorted1 _) ?_;unfold Builtin.«sorted»;refine NM (m:=checkCount "sorted" 1 1 _) (NT ?_);refine NM (Do (by simp[hh]) ho D fun vs h' tk d pm old big=>?_);obtain⟨ns,hI,pn⟩:=tK pm hks;have hvl:vs.length<64:=by rw[pm.length_eq,NI,Ov,NF];exact h64
 refine NM (wpAny_newList ?_);have gL:(h'.push (seqObj "list" vs.toArray 0)).get? h'.objs.size=some (seqObj "list" vs.toArray 0):=N7 _ rfl;refine NM (Pr (Pg slot_list_sort ⟨_,gL,rfl⟩ entry_list_sort (list_sort_tree gL hI hvl fun out ns' a1 a2 a3=>⟨_,rfl,?_⟩) (args_list_sort _)));obtain⟨n,at_⟩:=sortedHeap_at (out:=out) gL;refine NT ⟨_,rfl,q _ tk d h'.objs.size out ns' n (Ou big) a1 (a2.trans (pn.trans pk)) a3 (fun b o e=>?_) at_⟩;have lt:b<h'.objs.size:=Pq (N6 e) big;show(sortedHeap (h'.push (seqObj "list" vs.toArray 0)) h'.objs.size vs out).get? b=some o;rw[sortedHeap_old (Op lt) (by rw[OR];exact OJ lt)];exact NQ _ (old b o e)
end
end L2
namespace L2
open PySem PySem.Spec PyProof.Rows
def ddI(ns:∅):∅:=firstMet (fun i=>ns.getD i 0) ns.length
def Inv.drw{X:Cx}{Nz:List (Addr × Obj)}{σ:St}{H:Hp}{s:Shared}(I:Inv X Nz σ H s)(d:Drawn):Inv X Nz σ H {s with drawn:=d}:=
 ⟨I.ok,I.os,I.bare,I.base,I.loc,I.cell,I.free,I.freeC,I.pin,I.hok,I.len⟩
def HB{σ:∅}{v:Int}(n:σ.Nodup):(step_dedup σ v).Nodup:=by
 unfold step_dedup
 split
 . exact n
 . rename_i h
   refine Pk.mpr ⟨n,by simp,fun a ha b hb e=>h (O8.mpr ⟨a,ha,?_⟩)⟩;rw[e,Oa.mp hb];exact beq_self_eq_true _
theorem tM(val:Nat->Int):∀ i,(firstMet val i).Nodup
 | 0=>Qp
 | i+1=>by rw[firstMet_succ];exact HB (tM val i)
variable{ns:∅}
def dd_mem2{x:Int}:x∈ddI ns↔x∈ns:=by
 have h:=firstMet_any (fun i=>ns.getD i 0) ns.length x
 have e:(List.range ns.length).map (fun i=>ns.getD i 0)=ns:=by
  refine O5 fun i=>?_;rw[NN];by_cases h:i<ns.length
  . rw[OX h,NJ h];simp[List.getD,h]
  . rw[Od (by simpa using h),Od #[0]];rfl
 rw[e] at h
 have a:∀ l:∅,l.any (fun y=>y==x)=true↔x∈l:=fun l=>by
  rw[O8];exact⟨fun⟨y,hy,e⟩=>Pe.mp e ▸ hy,fun hx=>⟨x,hx,Pe.mpr rfl⟩⟩
 exact(a (ddI ns)).symm.trans ((iff_of_eq (congrArg (· =true) h)).trans (a ns))
def IP(h:∀ x∈ns,0<=x/\x<60):(ddI ns).length<64:=by
 have:=iG (ys:=(List.range 60).map fun(i:Nat)=>(i:Int)) (tM (fun i=>ns.getD i 0) ns.length) fun x hx=>by
  have b:=h x (dd_mem2.mp hx);exact N9.mpr ⟨x.toNat,N8.mpr #[0],by omega⟩
 rw[NI,OK] at this;exact OA this #[1]
def JY{ns':∅}(pm:ns'.Perm (ddI ns))(so:ns'.Pairwise (· <=·)):ns'.Pairwise (· < ·):=by
 have nd:ns'.Nodup:=pm.nodup_iff.mpr (tM (fun i=>ns.getD i 0) ns.length);exact(so.and nd).imp fun{a b} h=>by omega
def jR(te:TE):TE:=fun σ H Q=>te σ H fun x H1=>∃(p:Addr) (ns:∅),x=.ref p/\H1 p=↥(ns.map V.int)/\ns.length<1000/\(∀ x∈ns,0<=x/\x<60)/\∀(ns':∅) l,H1 l=none->ns'.Pairwise (· < ·)->(∀ x,x∈ns'↔x∈ns)->Q (.ref l) (upd H1 l (.lst (ns'.map V.int)))
def Fb{te:TE}{σ:St}{H:Hp}{Q:VK}:jR te σ H Q=te σ H fun x H1=>∃(p:Addr) (ns:∅),x=.ref p/\H1 p=↥(ns.map V.int)/\ns.length<1000/\(∀ x∈ns,0<=x/\x<60)/\∀(ns':∅) l,H1 l=none->ns'.Pairwise (· < ·)->(∀ x,x∈ns'↔x∈ns)->Q (.ref l) (upd H1 l (.lst (ns'.map V.int))):=rfl
def pO {X:Cx} {e:Expr} {te:TE} {p p2 pos pos2:Pos} (hc:X.calm=true) (hgl:Gl X "sorted") (hgs:Gl X "set") (hl:X.mg "sorted"=none) (hs:X.mg "set"=none) (he:PE X e te)
  (hs1:starEach [.Call (.Name "set" p2) [e] [] pos2] X.env=[(false,eval (.Call (.Name "set" p2) [e] [] pos2) X.env)]:=by rfl) (hs2:starEach [e] X.env=[(false,eval e X.env)]:=by rfl):
  PE X (.Call (.Name "sorted" p) [.Call (.Name "set" p2) [e] [] pos2] [] pos) (jR te):=by
 intro Nz s σ H Q I h;refine OZ (gF I hgl hl gd ?_ #[1] #[1]);refine PR ?_ hs1 rfl;rw[hs1];show wpAny _ _ (spliced [(false,eval (.Call (.Name "set" p2) [e] [] pos2) X.env)]) _ _ s;refine Pt ?_;refine OZ (gF I hgs hs DN ?_ #[1] #[1]);refine OH ?_ hs2 rfl;rw[hs2];show wpAny _ _ (spliced [(false,eval e X.env)]) _ _ s;refine Pt (thn (he Nz s σ H _ I h) fun u s1 ⟨x,H1,I1,r1,q1⟩=>?_);refine PB ?_;obtain⟨l,ns,rfl,hys,hn,hb,q⟩:=q1;have hd:=IP hb;cases r1;obtain⟨ND,n,rv,ho,hz⟩:=I1.lst hys;have hL:s1.heap.IsList l ND.toArray:=⟨_,ho,rfl,n,rfl⟩;have hI:IntsAre ND ns:=qG rv;have NF:=rv.length;rw[NI] at NF;refine Dn (ns:=ns) (I.ok.hd hc) hL (by simpa using hI) (by rw[N1,← NF];exact Ol (Nat.succ_lt_succ hn) #[1]) fun h' tk hS old=>?_;refine PB ?_;have I2:Inv X Nz σ H1 {s1 with heap:=h',toks:=tk}:=I1.kept fun b o' e=>old b o' (N6 e) e;have hdl:(firstMet (fun i=>ns.getD i 0) ND.toArray.size).length<64:=by rw[N1,← NF];exact hd
 refine Fa (I.ok.hd hc) hS hdl fun h2 tk2 d l2 out ns' n2 new hI2 pm so old2 at2=>?_;rw[N1,← NF] at pm;have old3:∀ b o,s1.heap.get? b=some o->h2.get? b=some o:=fun b o e=>old2 b o (old b o (N6 e) e)
 have new':s1.heap.objs.size<=l2:=by
  obtain⟨o0,es0,ep0,t0,g0,_⟩:=hS;exact NS (Ou (N6 g0)) new
 have hz2:(ns'.map V.int).length<=sizeLine:=by
  rw[NI,pm.length_eq];exact Ou (Pq hd #[1])
 refine⟨.ref l2,_,(I1.laid (t':=tk2) (h':=h2) (o:=.lst (ns'.map V.int)) old3 new' ⟨hz2,out.toList,n2,ot hI2,?_⟩).drw d,rfl,q ns' _ (I1.hok.fresh new') (JY pm so) fun x=>(pm.mem_iff).trans dd_mem2⟩;rw[at2]
local macro_rules|`(tactic|walk_at "w")=>wk9 ws4
local macro_rules|`(tactic|symm)=>`(tactic|walk_at "w")
def mw(K:Frag)(c:RCl RK)(d:RCl PzK):Sp:=fun vs H Q _=>∃ P L G A T M h w g NA cl Ny t r z s ms,vs=[.ref P,.ref A,.ref T]/\Asks H c d P L G A T M h w g NA cl Ny t r z s ms/\(∀ m∈Ny,0<=m/\m<64)/\(alwA h w g NA cl Ny t r z s ms=true->∀ H',Same H H'->Q .non H')/\(alwA h w g NA cl Ny t r z s ms=false->∀ l H',Same H H'->Q (.ref l) H')
def wu(K:Frag)(c:RCl RK)(d:RCl PzK):TS:=#[":gnRz[jveogl[h#3 gI'Icabi2df#4 e~Hc#2 +h#4 +h#5 ~Ignz[jd~gonRz[gl[h#6 gnmb}*6d~gjbtva4e6ol[h#3 oj~Bz[d~gve"]
def mx(K:Frag)(c:RCl RK)(d:RCl PzK):TS:=#[":gnRz,}+ca2ej~Bz,}-ckua0a1a2ed~gveo}/cku"]
variable{K:Frag}{c:RCl RK}{d:RCl PzK}{vs:List V}{H:Hp}{Q:VK}{E:XK}
theorem AC(h:mw K c d vs H Q E):mx K c d (eD9 Q) (start ["puzzle","masks","thought","now","place","inner","fault"] vs) H:=by
 obtain⟨P,L,G,A,T,M,h,w,g,NA,cl,Ny,t,r,z,s,ms,rfl,X,mm,q,q'⟩:=h;ac_nf;unfold mx;rw[az,aC];symm;refine⟨T,M,t,r,z,s,ms,rfl,X.T,?_⟩;symm;refine⟨P,L,G,A,T,M,h,w,g,NA,cl,Ny,t,r,z,s,ms,rfl,X,mm,fun H1 s1=>?_⟩
 cases al:alwA h w g NA cl Ny t r z s ms with
 | true=>exact⟨true,rfl,iteT (q al H1 s1)⟩
 | false=>
  refine⟨false,rfl,iteF ?_⟩;symm;exact⟨aW #[1],fun l hl=>q' al l _ (s1.trans ((NK H1).laid hl))⟩
def je(K:Frag)(c:RCl RK)(d:RCl PzK):Sp:=fun vs H Q _=>∃ P L G A T M h w g NA cl Ny t r z s ms,vs=[.ref P,.ref A,.ref T]/\Asks H c d P L G A T M h w g NA cl Ny t r z s ms/\(∀ m∈Ny,0<=m/\m<64)/\∀ H',Same H H'->Q (.bl (alwA h w g NA cl Ny t r z s ms)) H'
def pP(K:Frag)(c:RCl RK)(d:RCl PzK):TS:=#[":jb'p,}:ckua0a1a2ed~g"]
def Dp(h:je K c d vs H Q E):pP K c d (eD9 Q) (start ["puzzle","masks","thought"] vs) H:=by
 obtain⟨P,L,G,A,T,M,h,w,g,NA,cl,Ny,t,r,z,s,ms,rfl,X,mm,q⟩:=h;ac_nf;unfold pP;symm;refine⟨P,L,G,A,T,M,h,w,g,NA,cl,Ny,t,r,z,s,ms,rfl,X,mm,fun al H1 s1=>?_,fun al l H1 s1=>?_⟩
 . rw[al] at q;exact q H1 s1
 . rw[al] at q;exact q H1 s1
def rngF(z:Int)(ys:∅):∅:=((List.range 9).map fun(i:Nat)=>(i:Int)).filter fun x=>decide (x∈ys)&&!decide (x=z)
def JZ(z:Int)(ys:∅):(rngF z ys).Pairwise (· < ·):=by
 refine List.Pairwise.filter _ ?_;rw[Ra];exact Qq.imp fun{a b} h=>by omega
def IQ(z:Int)(ys:∅):(rngF z ys).length<=9:=NS (NX _ _) (by rw[NI,OK];exact NU _)
def mem_rngF{z x:Int}{ys:∅}:x∈rngF z ys↔(0<=x/\x<9)/\x∈ys/\x≠z:=by
 unfold rngF;rw[Of,N9];simp only[Om,NO,P8,Pl,N8];refine and_congr_left fun _=>⟨?_,fun h=>⟨x.toNat,by omega,by omega⟩⟩;rintro⟨i,hi,rfl⟩;omega
def IR{xs ys:∅}(h1:xs.Pairwise (· < ·))(h2:ys.Pairwise (· < ·))(e:∀ x,x∈xs↔x∈ys):xs=ys:=by
 have n1:xs.Nodup:=h1.imp fun{a b} h=>by omega
 have n2:ys.Nodup:=h2.imp fun{a b} h=>by omega
 exact Rj (fun a b _ _ (h:a<b) (h':b<a)=>absurd h #[0]) h1 h2 ((List.perm_ext_iff_of_nodup n1 n2).mpr e)
abbrev jF:=Addr × Int × ∅
abbrev bq(ps:List jF):∅:=ps.flatMap fun p=>p.2.1::p.2.2
inductive Tr45(F:Addr->Prop)(h w:Int)(NA:List RR)(H:Hp):Nat->Addr->Int->∅->Prop
 | plain {n:Nat} {T M:Addr} {t:TK} {r z s:Int} {ms bl:∅}:IsTh H T M t r z s ms->F M->zj h w NA t r z ms->bl.length<=40->bl.Perm (restA h w NA t r z ms)->bl.Pairwise (· <=·)->Tr45 F h w NA H n T z bl
 | sup {n:Nat} {T B:Addr} {z s:Int} {ps:List jF}:H T=some (.tup [.str (tx [115,117,112,112,111,115,101]),.int 0,.int z,.int s,.ref B])->H B=↥(ps.map fun p=>V.ref p.1)->F B->ps.length<=15->(∀ p∈ps,Tr45 F h w NA H n p.1 p.2.1 p.2.2)->0<=z->z<h*w->Tr45 F h w NA H (n+1) T z (rngF z (bq ps))
section
variable{F F':Addr->Prop}{h w g:Int}{NA:List RR}{H H':Hp}{n:Nat}{T:Addr}{z:Int}{bl:∅}
theorem Tr45.keep(k:∀ b xs,F b->H b=↥xs->H' b=↥xs)(kt:∀ b xs,H b=some (.tup xs)->H' b=some (.tup xs))(x:Tr45 F h w NA H n T z bl):Tr45 F h w NA H' n T z bl:=by
 induction x with
 | plain Y f S l p o=>exact .plain ⟨kt _ _ Y.T,k _ _ f Y.M,Y.n⟩ f S l p o
 | sup e1 e2 f l _ z0 z1 ih=>exact .sup (kt _ _ e1) (k _ _ f e2) f l ih z0 z1
def Tr45.same(s:Same H H')(x:Tr45 F h w NA H n T z bl):Tr45 F h w NA H' n T z bl:=x.keep (fun _ _ _ e=>s _ _ e) fun _ _ e=>s _ _ e
theorem Tr45.weak(k:∀ b,F b->F' b)(x:Tr45 F h w NA H n T z bl):Tr45 F' h w NA H n T z bl:=by
 induction x with
 | plain Y f S l p o=>exact .plain Y (k _ f) S l p o
 | sup e1 e2 f l _ z0 z1 ih=>exact .sup e1 e2 (k _ f) l ih z0 z1
theorem Tr45.lift(x:Tr45 F h w NA H n T z bl):Tr45 F h w NA H (n+1) T z bl:=by
 induction x with
 | plain Y f S l p o=>exact .plain Y f S l p o
 | sup e1 e2 f l _ z0 z1 ih=>exact .sup e1 e2 f l ih z0 z1
def Tr45.put{A:Addr}{xs ys:List V}(x:Tr45 F h w NA H n T z bl)(e:H A=↥xs)(f:¬ F A):Tr45 F h w NA (upd H A (.lst ys)) n T z bl:=
 x.keep (fun b zs fb q=>by rw[ar fun(i:b=A)=>f (i ▸ fb)];exact q) fun b zs q=>by
  rw[ar fun(i:b=A)=>?_];exact q;rw[i,e] at q;cases q
theorem Tr45.zb(x:Tr45 F h w NA H n T z bl):0<=z/\z<h*w:=by
 cases x with
 | plain Y f S l p o=>exact⟨S.z0,S.z1⟩
 | sup e1 e2 f l _ z0 z1=>exact⟨z0,z1⟩
theorem Tr45.bd(m9:h*w<=9)(x:Tr45 F h w NA H n T z bl):bl.length<=40/\∀ y∈bl,0<=y/\y<9:=by
 cases x with
 | plain Y f S l p o=>exact⟨l,fun y hy=>by have:=S.bd y (p.mem_iff.mp hy);omega⟩
 | sup e1 e2 f l _ z0 z1=>exact⟨NS (IQ _ _) #[1],fun y hy=>(mem_rngF.mp hy).1⟩
theorem Tr45.cell(x:Tr45 F h w NA H n T z bl):∃ a b c d,H T=some (.tup [a,b,.int z,c,d]):=by
 cases x with
 | plain Y f S l p o=>exact⟨_,_,_,_,Y.T⟩
 | sup e1 e2 f l _ z0 z1=>exact⟨_,_,_,_,e1⟩
end
def spBO(n:Nat)(K:Frag)(c:RCl RK)(d:RCl PzK):Sp:=fun vs H Q _=>∃(P L G T:Addr) (h w g:Int) (NA:List RR) (cl:∅) (z:Int) (bl:∅) (F:Addr->Prop),vs=[.ref P,.ref T]/\IsPz H c d P L G h w g NA cl/\h*w<=9/\Tr45 F h w NA H n T z bl/\∀ l H',Same H H'->H l=none->H' l=↥(bl.map V.int)->Q (.ref l) H'
def nV(K:Frag)(c:RCl RK)(d:RCl PzK):Sp:=spBO 0 K c d
def nX(K:Frag)(c:RCl RK)(d:RCl PzK):Sp:=spBO 1 K c d
def kK(K:Frag)(c:RCl RK)(d:RCl PzK):Sp:=spBO 2 K c d
def lA(K:Frag)(c:RCl RK)(d:RCl PzK):Sp:=spBO 0 K c d
def lB(K:Frag)(c:RCl RK)(d:RCl PzK):Sp:=spBO 1 K c d
def lC(K:Frag)(c:RCl RK)(d:RCl PzK):Sp:=spBO 2 K c d
def nY(K:Frag)(c:RCl RK)(d:RCl PzK):TS:=#[":gnmbAcbi1df#0 dqr`0j,~mckua0a1eoglveh#2 gIwcbi1df#4 h#3 gNEcGW2abi3df#2 eNEcG~J2a[ej~:x&--1 wc2h#1 mbAc1bi2df#2 1",[115,117,112,112,111,115,101]]
def Cn(K:Frag)(c:RCl RK)(d:RCl PzK):TS:=#[":gnmbAcbi1df#0 dqr`0j,~mckua0a1eoglveh#2 gIwcbi1df#4 h#3 gNEcGW2abi3df#2 eNEcG~J2a,};ckua0a3eej~:x&--1 wc2h#1 mbAc1bi2df#2 1",[115,117,112,112,111,115,101]]
def Co(K:Frag)(c:RCl RK)(d:RCl PzK):TS:=#[":gnmbAcbi1df#0 dqr`0j,~mckua0a1eoglveh#2 gIwcbi1df#4 h#3 gNEcGW2abi3df#2 eNEcG~J2a,}?ckua0a3eej~:x&--1 wc2h#1 mbAc1bi2df#2 1",[115,117,112,112,111,115,101]]
def lD(K:Frag)(c:RCl RK)(d:RCl PzK):TS:=#[":gnmbAcbi1df#0 dqr`0j,~mckua0a1eogl~;h#2 gIwcbi1df#4 h#3 Iwcbt[vabi3df#2 eh#4 ldFM]24^jx&--21 Uadf#9 eh#1 SmbKcB12mbAc1bi3df#2 1",[115,117,112,112,111,115,101]]
def zk(K:Frag)(c:RCl RK)(d:RCl PzK):TS:=#[":gnmbAcbi1df#0 dqr`0j,~mckua0a1eogl~;h#2 gIwcbi1df#4 h#3 Iwcbt,}[ckua0a3evabi3df#2 eh#4 ldFM]24^jx&--21 Uadf#9 eh#1 SmbKcB12mbAc1bi3df#2 1",[115,117,112,112,111,115,101]]
def zm(K:Frag)(c:RCl RK)(d:RCl PzK):TS:=#[":gnmbAcbi1df#0 dqr`0j,~mckua0a1eogl~;h#2 gIwcbi1df#4 h#3 Iwcbt,}]ckua0a3evabi3df#2 eh#4 ldFM]24^jx&--21 Uadf#9 eh#1 SmbKcB12mbAc1bi3df#2 1",[115,117,112,112,111,115,101]]
def xZ(t:TK):decide (tkC t=[115,117,112,112,111,115,101])=false:=by cases t <;> decide
def x9{rl bl:∅}(pm:bl.Perm rl)(so:bl.Pairwise (· <=·))(q:∀ l H',Same H H'->H l=none->H' l=↥(bl.map V.int)->Q (.ref l) H'):RestP Q H rl:=fun l H' xs s hl el p o=>by
 have e:xs=bl:=Rj (fun _ _ _ _ h1 h2=>Int.le_antisymm h1 h2) o so (p.trans pm.symm);rw[e] at el;exact q l H' s hl el
def rdBO(sp:Sp)(K:Frag)(c:RCl RK)(d:RCl PzK):TS:=#[":gnmbAcbi1df#0 dqr`0j,~mckua0a1eoglveh#2 gIwcbi1df#4 h#3 gNEcGW2abi3df#2 eNEcG~J2a,'ga0a3eej~:x&--1 wc2h#1 mbAc1bi2df#2 1",[115,117,112,112,111,115,101]]
def rdDU(sp:Sp)(K:Frag)(c:RCl RK)(d:RCl PzK):TS:=#[":gnmbAcbi1df#0 dqr`0j,~mckua0a1eogl~;h#2 gIwcbi1df#4 h#3 Iwcbt,'ga0a3evabi3df#2 eh#4 ldFM]24^jx&--21 Uadf#9 eh#1 SmbKcB12mbAc1bi3df#2 1",[115,117,112,112,111,115,101]]
theorem Cp(h:nV K c d vs H Q E):nY K c d (eD9 Q) (start ["puzzle","thought","cells","inner"] vs) H:=by
 obtain⟨P,L,G,T,h,w,g,NA,cl,z,bl,F,rfl,X,m9,Y,q⟩:=h;ac_nf;unfold nY;rw[az,aC];symm
 cases Y with
 | plain Y f S l p o=>
  refine ixT Y.T (v:=V.str (tx (tkC _))) rfl ?_;symm;rw[ba,xZ];symm;exact⟨P,L,G,T,_,h,w,g,NA,cl,_,_,z,_,_,rfl,X,Y,S,x9 p o q⟩
theorem zn(h:lA K c d vs H Q E):lD K c d (eD9 Q) (start ["_law_puzzle","_law_thought_here","_law_found","_law_inner","_law_cell"] vs) H:=by
 obtain⟨P,L,G,T,h,w,g,NA,cl,z,bl,F,rfl,X,m9,Y,q⟩:=h;ac_nf;unfold lD;rw[az,aC];symm
 cases Y with
 | plain Y f S l p o=>
  refine ixT Y.T (v:=V.str (tx (tkC _))) rfl ?_;symm;rw[ba,xZ];symm;exact⟨P,L,G,T,_,h,w,g,NA,cl,_,_,z,_,_,rfl,X,Y,S,x9 p o q⟩
variable{ps:List jF}
def z6{i:Nat}{p:jF}(h:ps[i]? =some p):bq (ps.take (i+1))=bq (ps.take i)++(p.2.1::p.2.2):=by
 unfold bq;rw[Pu,h,QM];simp
theorem ya:∀{ps:List jF},(∀ p∈ps,p.2.2.length<=40)->(bq ps).length<=ps.length*41
 | [],_=>NU 0
 | p::ps,h=>by
  have a:=ya (ps:=ps) fun q hq=>h q (N3 _ hq);have b:=h p Oc;show((p.2.1::p.2.2)++bq ps).length<=(ps.length+1)*41;rw[N0,Oq];omega
section
variable{F:Addr->Prop}{h w g:Int}{NA:List RR}{H:Hp}{n:Nat}{ps:List jF}
def z7(m9:h*w<=9)(l:ps.length<=15)(tr:∀ p∈ps,Tr45 F h w NA H n p.1 p.2.1 p.2.2)(i:Nat):(bq (ps.take i)).length<=615:=by
 have a:=ya (ps:=ps.take i) fun p hp=>((tr p (Pi hp)).bd m9).1;have b:(ps.take i).length<=ps.length:=by rw[OP];omega
 omega
def Ee(m9:h*w<=9)(tr:∀ p∈ps,Tr45 F h w NA H n p.1 p.2.1 p.2.2){x:Int}(hx:x∈bq ps):0<=x/\x<9:=by
 obtain⟨p,hp,hx⟩:=List.mem_flatMap.mp hx;have T:=tr p hp;rcases N4.mp hx with rfl | hx
 . have:=T.zb;omega
 . exact(T.bd m9).2 x hx
end
theorem zo{i:Nat}{x:V}(h:(ps.map fun p=>V.ref p.1)[i]? =some x):∃ p,ps[i]? =some p/\x=V.ref p.1:=by
 rw[NN] at h
 cases e:ps[i]? with
 | none=>rw[e] at h;cases h
 | some p=>rw[e] at h;exact⟨p,rfl,(Pd h).symm⟩
variable{n:Nat}
theorem rkBO(h:spBO (n+1) K c d vs H Q E):rdBO (spBO n K c d) K c d (eD9 Q) (start ["puzzle","thought","cells","inner"] vs) H:=by
 obtain⟨P,L,G,T,h,w,g,NA,cl,z,bl,F,rfl,X,m9,Y,q⟩:=h;show rdBO (spBO n K c d) K c d _ [↑P,↑T,none,none] H;unfold rdBO;rw[az,aC];symm
 cases Y with
 | plain Y f S l p o=>
  refine ixT Y.T (v:=V.str (tx (tkC _))) rfl ?_;symm;rw[ba,xZ];symm;exact⟨P,L,G,T,_,h,w,g,NA,cl,_,_,z,_,_,rfl,X,Y,S,x9 p o q⟩
 | sup e1 e2 f l tr z0 z1=>
  rename_i B s ps
  refine ixT e1 (v:=V.str (tx [115,117,112,112,111,115,101])) rfl ?_;symm;refine⟨aW #[1],fun C hC=>?_⟩;obtain⟨H1,z9,s1,eC⟩:∃ z,upd H C (.lst [])=z/\Same H z/\z C=↥(([]:∅).map V.int):=a9 _ hC;rw[z9];refine ixT (s1 _ _ e1) (v:=V.ref B) rfl ?_;refine⟨B,rfl,⟨_,N5 (s1 _ _ e2)⟩,?_⟩;refine b7 (K:=K) (xs:=ps.map fun p=>V.ref p.1) (fun i σ H2=>∃ v3,σ=[↑P,↑T,↑C,v3]/\Same H H2/\H2 C=↥((bq (ps.take i)).map V.int)) ⟨none,rfl,s1,eC⟩ (fun i σ H2 _ ⟨_,_,s2,_⟩=>N5 (s2 _ _ e2)) ?_ ?_
  . rintro i x σ H2 hx ⟨v3,rfl,s2,eC2⟩;obtain⟨p,hp,rfl⟩:=zo hx;have Yp:=tr p (NV hp);obtain⟨a1,a2,a3,a4,ep⟩:=Yp.cell;have fl:=z7 m9 l tr i;have bl:=(Yp.bd m9).1;symm;refine⟨bL eC2,?_⟩;refine ixT (s2 _ _ ep) (v:=V.int p.2.1) rfl ?_;rw[ia eC2];refine⟨OA (by rw[NI];exact fl) #[1],?_⟩;have s3:Same H (upd H2 C (.lst ((bq (ps.take i)).map V.int++[V.int p.2.1]))):=s2.own hC;have eC3:(upd H2 C (.lst ((bq (ps.take i)).map V.int++[V.int p.2.1]))) C=↥((bq (ps.take i)).map V.int++[V.int p.2.1]):=ao;generalize upd H2 C (.lst ((bq (ps.take i)).map V.int++[V.int p.2.1]))=H3 at*;refine⟨bL eC3,?_⟩;refine⟨P,L,G,p.1,h,w,g,NA,cl,p.2.1,p.2.2,F,rfl,X.same s3,m9,Yp.same s3,fun r H4 s4 hr er=>?_⟩;symm;refine G9 (s4 _ _ eC3) er (by rw[N0,NI,NI];show _+1+_<=1000;omega) ?_;refine⟨_,rfl,(s3.trans s4).own hC,?_⟩;rw[ao,z6 hp,OB,Os,P7];rfl
  . rintro σ H2 ⟨v3,rfl,s2,eC2⟩;rw[NI,O2] at eC2;have fl:=z7 m9 l tr ps.length;rw[O2] at fl;dsimp only;rw[b5,Fb];symm;refine⟨⟨_,N5 eC2⟩,?_⟩;refine aT (xs:=bq ps) (fun x=>!decide (x=z)) (fun x=>x) #[0] (N5 eC2) ?_ ?_ ?_
    . intro y H3 R hy s3 k3;show tTest _ [none,⇑y,↑T] H3 R;symm;refine ixT ((s2.trans s3) _ _ e1) (v:=V.int z) rfl ?_;symm;exact k3 _ (NK _)
    . intro y H3 Q3 hy hb s3 k3;show tVar 1 [none,⇑y,↑T] H3 Q3;symm;exact k3 _ (NK _)
    . intro l3 H3 hl3 s3 el3;rw[Pa] at el3;refine⟨l3,_,rfl,el3,OA (NX _ _) #[0],fun x hx=>?_,fun ns' l4 hl4 lt mm=>?_⟩
      . have:=Ee m9 tr (Of.mp hx).1;omega
      . have s4:=s2.trans s3;refine q l4 _ (s4.laid hl4) (s4.free hl4) ?_;rw[ao]
        have e:ns'=rngF z (bq ps):=IR lt (JZ _ _) fun x=>by
         rw[mm x,Of,mem_rngF];simp only[P8,Pl];exact⟨fun a=>⟨Ee m9 tr a.1,a⟩,fun a=>a.2⟩
        rw[e]
def Cq(h:nX K c d vs H Q E):Cn K c d (eD9 Q) (start ["puzzle","thought","cells","inner"] vs) H:=rkBO (n:=0) h
def Cr(h:kK K c d vs H Q E):Co K c d (eD9 Q) (start ["puzzle","thought","cells","inner"] vs) H:=rkBO (n:=1) h
def DS(H:Hp)(D:Addr)(P:Int->Prop)(n:Nat):Prop:=∃ NC,H D=some (.dK NC)/\NC.length<=n/\∀ x:Int,(valV NC (.inl x)).isSome=true↔P x
def Fc(NC:List (Key × V))(k:Key)(v:V):(putK NC k v).length<=NC.length+1:=by
 unfold putK
 split <;> simp
variable{D:Addr}{P:Int->Prop}
def DS.put{x:Int}{v:V}{R:Hp->Prop}(d:DS H D P n)(hn:n<1000)(q:∀ H',(∀ b,b≠D->H' b=H b)->DS H' D (fun y=>P y\/y=x) (n+1)->R H'):cPut (.ref D) (.int x) v H R:=by
 obtain⟨NC,eD,hk,hv⟩:=d;refine Jw eD (OA hk (Pq hn #[1])) ?_;refine q _ (fun b hb=>by rw[ar hb]) ⟨_,ao,NS (Fc _ _ _) #[0],fun y=>?_⟩;rw[G1];by_cases e:y=x
 . rw[Oh (by rw[e])];exact⟨fun _=>.inr e,fun _=>rfl⟩
 . rw[Ob (fun z=>e (by cases z;rfl)),hv];exact⟨.inl,fun z=>z.resolve_right e⟩
def DS.congr{P':Int->Prop}(d:DS H D P n)(e:∀ x,P x↔P' x){n':Nat}(l:n<=n'):DS H D P' n':=by
 obtain⟨NC,eD,hk,hv⟩:=d;exact⟨NC,eD,NS hk l,fun x=>(hv x).trans (e x)⟩
def DS.same{H':Hp}(d:DS H D P n)(s:Same H H'):DS H' D P n:=by
 obtain⟨NC,eD,r⟩:=d;exact⟨NC,s _ _ eD,r⟩
def HC{H1 H2:Hp}(s:Same H H1)(hD:H D=none)(k:∀ b,b≠D->H2 b=H1 b):Same H H2:=fun b o e=>by
 rw[k b (fun z=>by rw[z,hD] at e;cases e)];exact s b o e
theorem rkDU(h:spBO (n+1) K c d vs H Q E):rdDU (spBO n K c d) K c d (eD9 Q) (start ["_law_puzzle","_law_thought_here","_law_found","_law_inner","_law_cell"] vs) H:=by
 obtain⟨P,L,G,T,h,w,g,NA,cl,z,bl,F,rfl,X,m9,Y,q⟩:=h;show rdDU (spBO n K c d) K c d _ [↑P,↑T,none,none,none] H;unfold rdDU;rw[az,aC];symm
 cases Y with
 | plain Y f S l p o=>
  refine ixT Y.T (v:=V.str (tx (tkC _))) rfl ?_;symm;rw[ba,xZ];symm;exact⟨P,L,G,T,_,h,w,g,NA,cl,_,_,z,_,_,rfl,X,Y,S,x9 p o q⟩
 | sup e1 e2 f l tr z0 z1=>
  rename_i B s ps
  refine ixT e1 (v:=V.str (tx [115,117,112,112,111,115,101])) rfl ?_;symm;intro D hD;have s1:Same H (upd H D (.dK [])):=(NK H).laid hD;have d1:DS (upd H D (.dK [])) D (fun x=>x∈bq (ps.take 0)) 0:=⟨[],ao,NU 0,fun x=>⟨nofun,nofun⟩⟩;generalize upd H D (.dK [])=H1 at*;refine ixT (s1 _ _ e1) (v:=V.ref B) rfl ?_;refine⟨B,rfl,⟨_,N5 (s1 _ _ e2)⟩,?_⟩;refine b7 (K:=K) (xs:=ps.map fun p=>V.ref p.1) (fun i σ H2=>∃ v3 v4,σ=[↑P,↑T,↑D,v3,v4]/\Same H H2/\DS H2 D (fun x=>x∈bq (ps.take i)) (i*41)) ⟨none,none,rfl,s1,d1⟩ (fun i σ H2 _ ⟨_,_,_,s2,_⟩=>N5 (s2 _ _ e2)) ?_ ?_
  . rintro i x σ H2 hx ⟨v3,v4,rfl,s2,d2⟩;obtain⟨p,hp,rfl⟩:=zo hx;have hi:=(NR.mp hp).1;have Yp:=tr p (NV hp);obtain⟨a1,a2,a3,a4,ep⟩:=Yp.cell;have bl:=(Yp.bd m9).1;symm;refine⟨P,L,G,p.1,h,w,g,NA,cl,p.2.1,p.2.2,F,rfl,X.same s2,m9,Yp.same s2,fun r H3 s3 hr er=>?_⟩;symm;refine ixT ((s2.trans s3) _ _ ep) (v:=V.int p.2.1) rfl ?_;refine⟨lnR rfl,fun Z hZ=>?_⟩;obtain⟨H4,z9,s4,eZ⟩:=a9 (.lst [V.int p.2.1]) hZ;rw[z9];refine ja (s4 _ _ er) eZ (by rw[NI];show _+1<=1000;omega) fun R hR=>?_;have s5:Same H4 (upd H4 R (.lst (p.2.2.map V.int++[V.int p.2.1]))):=(NK H4).laid hR;have eR:(upd H4 R (.lst (p.2.2.map V.int++[V.int p.2.1]))) R=↥((p.2.2++[p.2.1]).map V.int):=by rw[ao,OB];rfl
    have s25:=s3.trans (s4.trans s5)
    have nR:R≠D:=fun e=>by
     obtain⟨NC,eD,_⟩:=d2.same (s3.trans s4);rw[← e,hR] at eD;cases eD
    have d5:=d2.same s25;generalize upd H4 R (.lst (p.2.2.map V.int++[V.int p.2.1]))=H5 at*;refine⟨R,rfl,⟨_,N5 eR⟩,?_⟩;have l2:(p.2.2++[p.2.1]).length<=41:=by rw[N0];show _+1<=41;omega
    refine b7 (K:=K) (xs:=(p.2.2++[p.2.1]).map V.int) (fun j σ H6=>∃ v4,σ=[↑P,↑T,↑D,↑p.1,v4]/\Same H H6/\H6 R=↥((p.2.2++[p.2.1]).map V.int)/\DS H6 D (fun x=>x∈bq (ps.take i)\/x∈(p.2.2++[p.2.1]).take j) (i*41+j)) ⟨_,rfl,s2.trans s25,eR,d5.congr (fun x=>⟨.inl,fun z=>z.elim id fun z=>by cases z⟩) (NU _)⟩ (fun i σ H2 _ ⟨_,_,_,e,_⟩=>N5 e) ?_ ?_
    . rintro j y σ H6 hy ⟨v4,rfl,s6,eR6,d6⟩;obtain⟨y,hy',rfl⟩:=bi hy;have hj:=(NR.mp hy').1;symm;refine d6.put #[0] fun H7 k7 d7=>?_;refine⟨_,rfl,HC s6 hD k7,by rw[k7 R nR];exact eR6,d7.congr (fun x=>?_) (NU _)⟩;rw[Pu,hy',Oj,or_assoc];simp
    . rintro σ H6 ⟨v4,rfl,s6,eR6,d6⟩;rw[NI] at d6;refine⟨_,_,rfl,s6,d6.congr (fun x=>?_) #[0]⟩;rw[O2,z6 hp,Oj,Oj,Oa,N4 (l:=p.2.2)];exact or_congr_right or_comm
  . rintro σ H2 ⟨v3,v4,rfl,s2,d2⟩;rw[NI,O2] at d2;obtain⟨NC,eD,_,hv⟩:=d2;dsimp only;symm;refine⟨9,rfl,by decide,by decide,?_⟩;refine d4 (fun i=>decide ((i:Int)∈bq ps)&&!decide ((i:Int)=z)) (fun i=>(i:Int)) #[1] ?_ ?_ ?_
    . intro i H3 R hi s3 k3;rw[OU];show tAnd _ _ [none,⇑(i:Int),↑D,↑T] H3 R;symm;rw[Kf (s3 _ _ eD)]
      have e:(valV NC (.inl (i:Int))).isSome=decide ((i:Int)∈bq ps):=by
       rw[Oi,hv,NO]
      rw[e];refine⟨_,rfl,?_⟩
      cases hb:decide ((i:Int)∈bq ps) with
      | false=>
       rw[hb,NZ] at k3;exact iteF (k3 _ (NK _))
      | true=>
       rw[hb,N2] at k3;refine iteT ?_;symm;refine ixT ((s2.trans s3) _ _ e1) (v:=V.int z) rfl ?_;symm;exact k3 _ (NK _)
    . intro i H3 Q3 hi hb s3 k3;rw[OU];show tVar 1 [none,⇑(i:Int),↑D,↑T] H3 Q3;symm;exact k3 _ (NK _)
    . intro l3 H3 hl3 s3 el3;refine q l3 H3 (s2.trans s3) (s2.free hl3) ?_;rw[el3];unfold rngF;rw[List.filter_map];rfl
def zp(h:lB K c d vs H Q E):zk K c d (eD9 Q) (start ["_law_puzzle","_law_thought_here","_law_found","_law_inner","_law_cell"] vs) H:=rkDU (n:=0) h
def zq(h:lC K c d vs H Q E):zm K c d (eD9 Q) (start ["_law_puzzle","_law_thought_here","_law_found","_law_inner","_law_cell"] vs) H:=rkDU (n:=1) h
section
variable{X:Cx}
def mW:V->List V->Hp->VK->Prop
 | .ref l,[.int i,y],H,Q=>bnd (unM (H l)) fun xs=>0<=i/\i<=xs.length/\xs.length+1<=sizeLine/\Q .non (upd H l (.lst (xs.take i.toNat++y::xs.drop i.toNat)))
 | _,_,_,_=>False
theorem Ct:∀{xs:List V} {ND:List Value} (k:Nat) {y:V} {v:Value},Vals xs ND->RelV y v->Vals (xs.take k++y::xs.drop k) (ND.take k++v::ND.drop k)
 | _,_,0,_,_,r,ry=>.cons ry r
 | [],_,k+1,_,_,.nil,ry=>.cons ry .nil
 | x::xs,_,k+1,_,_,.cons r rs,ry=>.cons r (Ct k rs ry)
def yc:MtR X "list.insert" mW:=by
 intro Nz s σ H x vs v us Q I rx rv h;unfold mW at h
 split at h
 . rename_i l i y
   obtain⟨xs,e,h0,h1,h2,q⟩:=bg h;cases rx;obtain⟨u,w',rfl,ru,ry⟩:=wR rv;obtain⟨t,rfl⟩:=ru;have hH:=hX e;obtain⟨z,ND,n,r,hl,e⟩:=I.lstM hH;have hs:(sizeLine:Int)<2^63:=by decide
   have hf:Builtin.List.listFitsIndex i=true:=by
    unfold Builtin.List.listFitsIndex;simp;omega
   refine PK Qg ⟨_,e,rfl⟩ PySem.F.entry_list_insert (PySem.F.args_list_insert_3 _ _ _) (PySem.AutoSeq1.list_insert_list_int_val_1 l ND.toArray n i t w' (by simp[hf]) (by rw[N1];omega)) ⟨e,?_⟩;refine⟨.non,_,I.lset (its':=ND.take i.toNat++w'::ND.drop i.toNat) hH e ?_ (Ct _ r ry) ?_,rfl,q⟩
   . show(ND.toArray.extract 0 (if i<0 then(i+(ND.toArray.size:Int)).toNat else min i.toNat ND.toArray.size)).push w'++ND.toArray.extract (if i<0 then(i+(ND.toArray.size:Int)).toNat else min i.toNat ND.toArray.size)=_;rw[PySem.W.kl_ins_eq,N1,Ob #[0],QI #[0]]
   . rw[N0,Oq,OP,Rn];omega
 . exact h.elim
end
variable{H:Hp}{Q:VK}
def Fd{l:Addr}{i:Int}{xs:List V}{y:V}(hl:H l=↥xs)(h0:0<=i)(h1:i<=xs.length)(hz:xs.length<=900)(q:Q .non (upd H l (.lst (xs.take i.toNat++y::xs.drop i.toNat)))):mW (.ref l) [.int i,y] H Q:=by
 show bnd (unM (H l)) _;rw[hl];exact bf (a:=xs) rfl ⟨h0,h1,aW #[0],q⟩
variable{NA:List RR}
theorem Fe{h w g:Int}{t:TK}{r z:Int}{ms:∅}(F:FlOk h w g)(ok:∀ r∈NA,r.Ok h w g)(S:zj h w NA t r z ms):(restA h w NA t r z ms).length<=40:=by
 have cs:(csA NA r).length<=16:=by
  unfold csA
  cases e:NA[r.toNat]? with
  | none=>exact Ox _
  | some y=>exact(uP (ok y (NV e)) F).2
 have oth:(othL (csA NA r) z).length<=40:=NS (NX _ _) #[0];have m16:=F.m
 cases t with
 | clue=>exact Ox _
 | only=>have:=S.mo (.inl rfl);show ms.length<=40;omega
 | pair=>have:=S.mo (.inr rfl);show ms.length<=40;omega
 | square=>exact NS (z4 _ _ _ _) #[1]
 | reach=>
  show(allL h w z).length<=40;unfold allL;rw[NI];refine NS (NX _ _) ?_;rw[OK];omega
 | turn=>
  show(if ms=[] then besL h w z else arL h w (ms.getD 0 0) z++[ms.getD 0 0]).length<=40
  split
  . exact NS (tD _ _ _) #[1]
  . rw[N0];have:=NS (NX (fun x=>!decide (x=z)) _) (tD h w (ms.getD 0 0));show(arL h w (ms.getD 0 0) z).length+1<=40;unfold arL;omega
 | step=>
  have:=Ea (csA NA r) z;show(ahdL (csA NA r) z++behL (csA NA r) z).length<=40;rw[N0];omega
 | place=>exact oth
 | count=>exact oth
 | sum=>exact oth
 | ways=>exact oth
def HD(xs:∅):(srtI xs).Pairwise (· <=·):=by
 have:=List.pairwise_mergeSort (le:=fun a b:Int=>decide (a<=b)) (fun a b c h1 h2=>by simp at h1 h2 ⊢;omega) (fun a b=>by simp;omega) xs;exact this.imp fun{a b} h=>Oy h
structure Cu(K:Frag)(H:Hp)(c:RCl RK)(d:RCl PzK)(a P L G p Rl W:Addr)(ts Cs:List Addr)(ns:∅)(h w g:Int)(NA:List RR)(cl Ny:∅)(u sz:Int):Prop where
 wd:Wd40 K H c d a P L G p Rl ts Cs ns h w g NA cl
 W:H W=↥(Ny.map V.int)
 ml:Ny.length=(h*w).toNat
 mm:∀ m∈Ny,0<=m/\m<64
 u0:0<=u
 u1:u<=5000
 z0:0<=sz
 z1:sz<=14
def Kp(n:Nat)(Q:VK)(H:Hp)(h w:Int)(NA:List RR)(sz:Int):Prop:=∀(B:Addr) (H':Hp) (ps:List jF),Same H H'->H B=none->H' B=↥(ps.map fun p=>V.ref p.1)->ps.length<=15->(∀ p∈ps,Tr45 (fun b=>H b=none) h w NA H' n p.1 p.2.1 p.2.2)->Q (.ref B) H'
def spTK(n:Nat)(K:Frag)(c:RCl RK)(d:RCl PzK):Sp:=fun vs H Q _=>∃(a P L G p Rl W:Addr) (ts Cs:List Addr) (ns:∅) (h w g:Int) (NA:List RR) (cl Ny:∅) (u sz:Int),vs=[.ref a,.int u,.int sz,.int (n:Int),.ref P,.ref p,.ref Rl,.ref W]/\Cu K H c d a P L G p Rl W ts Cs ns h w g NA cl Ny u sz/\u+500*n<=3000/\Kp n Q H h w NA sz
def jG(K:Frag)(c:RCl RK)(d:RCl PzK):Sp:=spTK 0 K c d
def jH(K:Frag)(c:RCl RK)(d:RCl PzK):Sp:=spTK 1 K c d
def Kq(n:Nat)(Q:VK)(H:Hp)(h w:Int)(NA:List RR):Prop:=∀(T B:Addr) (H':Hp) (z s:Int) (ps:List jF),Same H H'->H T=none->H B=none->H' T=some (.tup [.str (tx [115,117,112,112,111,115,101]),.int 0,.int z,.int s,.ref B])->H' B=↥(ps.map fun p=>V.ref p.1)->ps.length<=15->(∀ p∈ps,Tr45 (fun b=>H b=none) h w NA H' n p.1 p.2.1 p.2.2)->0<=z->z<h*w->Q (.ref T) H'
def spSU(n:Nat)(K:Frag)(c:RCl RK)(d:RCl PzK):Sp:=fun vs H Q _=>∃(a P L G p Rl W:Addr) (ts Cs:List Addr) (ns:∅) (h w g:Int) (NA:List RR) (cl Ny:∅) (u sz:Int),vs=[.ref a,.int u,.int sz,.int (n:Int),.ref P,.ref p,.ref Rl,.ref W]/\Cu K H c d a P L G p Rl W ts Cs ns h w g NA cl Ny u sz/\u+500*n<=2900/\Kq n Q H h w NA
def e6(K:Frag)(c:RCl RK)(d:RCl PzK):Sp:=spSU 0 K c d
def gY(K:Frag)(c:RCl RK)(d:RCl PzK):Sp:=spSU 1 K c d
def Ff(K:Frag)(c:RCl RK)(d:RCl PzK):TS:=#[":gl,Zca0abt1|aeh#11 gl,'hcabP|bdf#8 a5a6a8eh#12 nSmbKcMdf#0 8Smbscb~/b~Abi8bi|cdf#2 bHbi|cdf#3 df#1 df#1 df#1 z,'ickua4a8a|cegNEcGW9a|celbHbi8bi|cdf#2 b~ldf#1 bHbi|cdf#3 df#1 ]8bi|cdf#2 ^o"]
def Cv(te:TE)(K:Frag)(c:RCl RK)(d:RCl PzK):TS:=#[":gnmb>3df#0 gl'Qh#12 NEcG'j9abC,Zca0a1ebtpya9edf#1 a|ceoj9"]
def rdTK(te:TE)(K:Frag)(c:RCl RK)(d:RCl PzK):TS:=#[":glp:a7eh#8 glveh#9 gIUa2eh#10 }^cku_a'Qcku"]
def wv(K:Frag)(c:RCl RK)(d:RCl PzK):TS:=#[":glp:a7eh#8 glveh#9 gIUa2eh#10 gl,Zca0abt1|aeh#11 gl,'hcabP|bdf#8 a5a6a8eh#12 nSmbKcMdf#0 8Smbscb~/b~Abi8bi|cdf#2 bHbi|cdf#3 df#1 df#1 df#1 z,'ickua4a8a|cegNEcGW9a|celbHbi8bi|cdf#2 b~ldf#1 bHbi|cdf#3 df#1 ]8bi|cdf#2 ^ognmb>3df#0 gl[h#12 NEcG'j9abC,Zca0a1ebtpya9edf#1 a|ceoj9"]
def si(K:Frag)(c:RCl RK)(d:RCl PzK):TS:=#[":gl,Zca0a1eh#8 glbC8pya7eh#9 glbtdf#1 bCbP8df#9 bi5df#2 h#10 glp:a7eh#11 glb~ldf#1 bH|adf#1 ]|b9^jTadqr`0adf#0 a9a|aa,_bckua0abt1df#1 a2a3a4a5a6a|bee",[115,117,112,112,111,115,101]]
def ww(K:Frag)(c:RCl RK)(d:RCl PzK):TS:=#[":glp:a7eh#8 glveh#9 gIUa2eh#10 gl,Zca0abt1|aeh#11 gl,'hcabP|bdf#8 a5a6a8eh#12 nSmbKcMdf#0 8Smbscb~/b~Abi8bi|cdf#2 bHbi|cdf#3 df#1 df#1 df#1 z,'ickua4a8a|cegNEcGW9a|celbHbi8bi|cdf#2 b~ldf#1 bHbi|cdf#3 df#1 ]8bi|cdf#2 ^ognmb>3df#0 gl,_cckua0abt1df#31 adf#6 adf#0 a4a5a6a8eh#12 NEcG'j9abC,Zca0a1ebtpya9edf#1 a|ceoj9"]
def sj(K:Frag)(c:RCl RK)(d:RCl PzK):TS:=#[":gl,Zca0a1eh#8 glbC8pya7eh#9 glbtdf#1 bCbP8df#9 bi5df#2 h#10 glp:a7eh#11 glb~ldf#1 bH|adf#1 ]|b9^jTadqr`0adf#0 a9a|aa,_dckua0abt1df#1 a2a3a4a5a6a|bee",[115,117,112,112,111,115,101]]
structure Lp45(H0 H:Hp)(A B:Addr)(h w:Int)(NA:List RR)(ps:List jF)(Ny:∅)(i:Nat):Prop where
 sm:Same H0 H
 eA:H A=↥(Ny.map V.int)
 fA:H0 A=none
 eB:H B=↥(ps.map fun p=>V.ref p.1)
 fB:H0 B=none
 nAB:A≠B
 tr:∀ p∈ps,Tr45 (fun b=>H0 b=none/\b≠A/\b≠B) h w NA H 0 p.1 p.2.1 p.2.2
 ln:ps.length<=i
 ml:Ny.length=(h*w).toNat
 mm:∀ m∈Ny,0<=m/\m<64
def Lp45.same{H0 H':Hp}{A B:Addr}{h w:Int}{ps:List jF}{Ny:∅}{i j:Nat}(x:Lp45 H0 H A B h w NA ps Ny i)(s:Same H H')(hj:i<=j):Lp45 H0 H' A B h w NA ps Ny j:=⟨x.sm.trans s,s _ _ x.eA,x.fA,s _ _ x.eB,x.fB,x.nAB,fun p hp=>(x.tr p hp).same s,NS x.ln hj,x.ml,x.mm⟩
section
variable{K:Frag}{c:RCl RK}{d:RCl PzK}{H0 H:Hp}{Q:VK}{a P L G p Rl W A B:Addr}{ts Cs:List Addr}{ns:∅}{h w g:Int}{NA:List RR}{cl m0 Ny:∅}{u sz:Int}{ps:List jF}
theorem IS {D:Ends} {i:Nat} {v3 v11 v12:Option V} (Z:Cu K H0 c d a P L G p Rl W ts Cs ns h w g NA cl m0 u sz) (X:Lp45 H0 H A B h w NA ps Ny i) (hi:i<=14)
  (k:∀(v11 v12:Option V) (ps:List jF) (Ny:∅) (H':Hp),Lp45 H0 H' A B h w NA ps Ny (i+1)->D.nx [↑a,⇑u,⇑sz,v3,↑P,↑p,↑Rl,↑W,↑A,↑B,⇑(i:Int),v11,v12] H'):
  Ff K c d D [↑a,⇑u,⇑sz,v3,↑P,↑p,↑Rl,↑W,↑A,↑B,⇑(i:Int),v11,v12] H:=by
 have F:=Z.wd.P.R.F;have g0:=F.g0;have g6:=F.g1;have sm:=X.sm;have ml:=X.ml;have u0:=Z.u0;have u1:=Z.u1;have ln:=X.ln;unfold Ff;symm;refine⟨a,ns,_,rfl,sm.seq Z.wd.S,Z.wd.n,by omega,by omega,?_⟩;symm;refine⟨⟨by decide,by decide⟩,?_⟩;refine⟨p,Rl,A,ts,Cs,h,w,g,_,NA,Ny,rfl,⟨sm _ _ Z.wd.p,F,Z.wd.m9,Z.wd.R.same sm,Z.wd.P.R.ok,Z.wd.r1,Z.wd.P.R.n,X.eA,ml,X.mm,Int.ediv_nonneg (BL _ _) #[1]⟩,fun T N th H1 s1 hT hN Y z0 z1 t0 t4=>?_⟩;have X1:=X.same s1 (NU i);have bm:=X.mm _ (fJ (ms:=Ny) (k:=th.z.toNat) #[0]);symm;rw[aC];symm;rw[jV X1.eA];symm;have fin:∀(v11 v12:Option V) (H2:Hp),Same H1 H2->D.nx [↑a,⇑u,⇑sz,v3,↑P,↑p,↑Rl,↑W,↑A,↑B,⇑(i:Int),v11,v12] H2:=fun v11 v12 H2 s2=>k _ _ ps Ny H2 (X1.same s2 (Ps i));by_cases h0:(0:Int)∈Ny
 . rw[NP h0];exact fin _ _ H1 (NK _)
 rw[NL h0];refine iteT ?_;symm;refine ixT Y.T (v:=V.int th.z) rfl ?_;refine ixI X1.eA z0 #[0] ?_;refine ixT Y.T (v:=V.int th.s) rfl ?_;symm;refine⟨by omega,?_⟩;symm;rw[JT bm.1 bm.2 t0 #[0]]
 cases hs:stB (Ny.getD th.z.toNat 0) th.s with
 | false=>exact fin _ _ H1 (NK _)
 | true=>
  refine iteT ?_;refine⟨P,L,G,A,T,N,h,w,g,NA,cl,Ny,th.t,th.r,th.z,th.s,th.ms,rfl,⟨Z.wd.P.same (sm.trans s1),Y,X1.eA,ml⟩,X.mm,fun H2 s2=>?_⟩
  cases ha:alwA h w g NA cl Ny th.t th.r th.z th.s th.ms with
  | false=>
   refine⟨false,rfl,?_⟩;exact fin _ _ H2 s2
  | true=>
   refine⟨true,rfl,iteT ?_⟩;have X2:=X1.same s2 (NU i);have Y2:=Y.same s2;have fr:∀{y:Addr} {o:HO},H y=some o->N≠y:=fun e h=>by rw[h,e] at hN;cases hN
   have S:=IJ F Z.wd.P.R.ok ha;symm;refine⟨bL X2.eB,?_⟩;rw[ia X2.eB];refine⟨by rw[NI];exact aJ #[0],?_⟩;have nT:∀{y:Addr} {xs:List V},H2 y=↥xs->T≠y:=fun e h=>by rw[← h,Y2.T] at e;cases e
   have eA1:(upd H2 B (.lst ((ps.map fun p=>V.ref p.1)++[V.ref T]))) A=↥(Ny.map V.int):=by rw[ar X.nAB];exact X2.eA
   have eT1:(upd H2 B (.lst ((ps.map fun p=>V.ref p.1)++[V.ref T]))) T=some (.tup [.str (tx (tkC th.t)),.int th.r,.int th.z,.int th.s,.ref N]):=by rw[ar (nT X2.eB)];exact Y2.T
   have eB1:(upd H2 B (.lst ((ps.map fun p=>V.ref p.1)++[V.ref T]))) B=↥((ps++[(T,th.z,srtI (restA h w NA th.t th.r th.z th.ms))]).map fun p=>V.ref p.1):=by rw[ao,OB];rfl
   have tr1:∀ p∈ps++[(T,th.z,srtI (restA h w NA th.t th.r th.z th.ms))],Tr45 (fun b=>H0 b=none/\b≠A/\b≠B) h w NA (upd H2 B (.lst ((ps.map fun p=>V.ref p.1)++[V.ref T]))) 0 p.1 p.2.1 p.2.2:=fun p hp=>by
    refine Tr45.put ?_ X2.eB fun q=>q.2.2 rfl;rcases Oj.mp hp with hp | hp
    . exact X2.tr p hp
    . rw[Oa.mp hp];exact .plain Y2 ⟨sm.free hN,fr X.eA,fr X.eB⟩ S (by rw[Iz];exact Fe F Z.wd.P.R.ok S) (List.mergeSort_perm _ _) (HD _)
   have s3:Same H0 (upd H2 B (.lst ((ps.map fun p=>V.ref p.1)++[V.ref T]))):=X2.sm.own X.fB;generalize upd H2 B (.lst ((ps.map fun p=>V.ref p.1)++[V.ref T]))=H3 at*;symm;refine ixT eT1 (v:=V.int th.z) rfl ?_;refine ixI eA1 z0 #[0] ?_;refine ixT eT1 (v:=V.int th.s) rfl ?_;symm;refine⟨⟨by omega,by omega,by decide⟩,?_⟩;symm;refine ixT eT1 (v:=V.int th.z) rfl ?_;refine HI eA1 z0 (by rw[NI];omega) ?_;rw[vo];have wb:=(JP (s:=th.s) bm.1 bm.2 t0 #[0]).1;unfold woI at wb;rw[Oh hs] at wb;refine k _ _ _ _ _ ⟨s3.own X.fA,ao,X.fA,by rw[ar (Qz X.nAB)];exact eB1,X.fB,X.nAB,fun p hp=>(tr1 p hp).put eA1 fun q=>q.2.1 rfl,by rw[N0];show _+1<=_;omega,by rw[RH];exact ml,fun m hm=>?_⟩;rcases Q0 hm with hm | rfl
   . exact X.mm m hm
   . rw[Int.one_mul];omega
end
def rdSU(sp:Sp)(K:Frag)(c:RCl RK)(d:RCl PzK):TS:=#[":gl,Zca0a1eh#8 glbC8pya7eh#9 glbtdf#1 bCbP8df#9 bi5df#2 h#10 glp:a7eh#11 glb~ldf#1 bH|adf#1 ]|b9^jTadqr`0adf#0 a9a|aa,'ga0abt1df#1 a2a3a4a5a6a|bee",[115,117,112,112,111,115,101]]
variable{K:Frag}{c:RCl RK}{d:RCl PzK}
def rkTK {n:Nat} {te:TE} {a P L G p Rl W:Addr} {ts Cs:List Addr} {ns:∅} {h w g:Int} {cl Ny:∅} {u sz:Int} (Z:Cu K H c d a P L G p Rl W ts Cs ns h w g NA cl Ny u sz)
  (k:∀(A B:Addr) (ps:List jF) (Ny:∅) (H':Hp) (v10 v11 v12:Option V),Lp45 H H' A B h w NA ps Ny 14->Cv te K c d (eD9 Q) [↑a,⇑u,⇑sz,⇑(n:Int),↑P,↑p,↑Rl,↑W,↑A,↑B,v10,v11,v12] H'):
  rdTK te K c d (eD9 Q) [↑a,⇑u,⇑sz,⇑(n:Int),↑P,↑p,↑Rl,↑W,none,none,none,none,none] H:=by
 have z0:=Z.z0;have z1:=Z.z1;unfold rdTK;generalize hT:Cv te K c d=TT at*;generalize hB:Ff K c d=TB at*;symm;refine sJ Z.W fun A hA=>?_;obtain⟨H1,z9,s1,eA⟩:=a9 (.lst (Ny.map V.int)) hA;rw[z9];refine⟨aW #[1],fun B hB'=>?_⟩;have s2:Same H1 (upd H1 B (.lst [])):=(NK H1).laid hB';have eB:(upd H1 B (.lst [])) B=some (.lst []):=ao;have nAB:A≠B:=fun e=>by rw[← e,eA] at hB';cases hB'
 generalize upd H1 B (.lst [])=H2 at*;refine⟨_,rfl,by omega,by omega,?_⟩;refine or (fun i σ H'=>∃(v10 v11 v12:Option V) (ps:List jF) (ms:∅),σ=[↑a,⇑u,⇑sz,⇑(n:Int),↑P,↑p,↑Rl,↑W,↑A,↑B,v10,v11,v12]/\Lp45 H H' A B h w NA ps ms i) ⟨none,none,none,[],Ny,rfl,⟨s1.trans s2,s2 _ _ eA,hA,eB,s1.free hB',nAB,nofun,NU _,Z.ml,Z.mm⟩⟩ ?_ ?_
 . rintro i σ H5 hi ⟨v10,v11,v12,ps,ms,rfl,X5⟩;rw[aQ,OU];subst hB;exact IS Z X5 #[0] fun v11 v12 ps Ny H' X'=>⟨_,v11,v12,ps,Ny,rfl,X'⟩
 . rintro σ H5 ⟨v10,v11,v12,ps,ms,rfl,X5⟩;exact k A B ps ms H5 v10 v11 v12 (X5.same (NK _) #[0])
variable{vs:List V}{E:XK}
def wx(h:jG K c d vs H Q E):wv K c d (eD9 Q) (start ["_law_script","_law_at","_law_size","_law_depth","_law_puzzle","_law_floor_here","_law_rules","_law_masks","_law_left","_law_book","_law_k","_law_number","_law_thought_here"] vs) H:=by
 obtain⟨a,P,L,G,p,Rl,W,ts,Cs,ns,h,w,g,NA,cl,Ny,u,sz,rfl,Z,u5,q⟩:=h;show rdTK fi K c d _ [↑a,⇑u,⇑sz,⇑((0:Nat):Int),↑P,↑p,↑Rl,↑W,none,none,none,none,none] H;refine rkTK Z fun A B ps ms H' v10 v11 v12 X=>?_;unfold Cv;rw[az,aC];symm;exact q B H' ps X.sm X.fB X.eB (NS X.ln #[1]) fun p hp=>(X.tr p hp).weak fun b e=>e.1
def wy(h:jH K c d vs H Q E):ww K c d (eD9 Q) (start ["_law_script","_law_at","_law_size","_law_depth","_law_puzzle","_law_floor_here","_law_rules","_law_masks","_law_left","_law_book","_law_k","_law_number","_law_thought_here"] vs) H:=by
 obtain⟨a,P,L,G,p,Rl,W,ts,Cs,ns,h,w,g,NA,cl,Ny,u,sz,rfl,Z,u5,q⟩:=h;have u0:=Z.u0;have u1:u+500<=3000:=u5;show rdTK (tCall (e6 K c d) [] E0 (tCons (tVar 0) (tCons (tOp cAdd (tVar 1) (tC (.int 31))) (tCons (tC (.int 6)) (tCons (tC (.int 0)) (tCons (tVar 4) (tCons (tVar 5) (tCons (tVar 6) (tCons (tVar 8) tNil))))))))) K c d _ [↑a,⇑u,⇑sz,⇑((1:Nat):Int),↑P,↑p,↑Rl,↑W,none,none,none,none,none] H;refine rkTK Z fun A B ps ms H1 v10 v11 v12 X=>?_;have ln:=X.ln;unfold Cv;rw[az,aC];symm;refine⟨a,P,L,G,p,Rl,A,ts,Cs,ns,h,w,g,NA,cl,ms,u+31,6,rfl,⟨Z.wd.same X.sm,X.eA,X.ml,X.mm,by omega,by omega,by decide,by decide⟩,by show _+500*(0:Int)<=2900;omega,fun T C H2 z s qs s2 hT hC eT eC ql qt z0 z1=>?_⟩;have X2:=X.same s2 (NU 14);symm;refine⟨bL X2.eB,?_⟩;refine⟨a,ns,_,rfl,X2.sm.seq Z.wd.S,Z.wd.n,by omega,by omega,?_⟩;symm;rw[aS X2.eB,NI];symm;refine⟨by omega,?_⟩;have j0:=Oz (lawCA ns u) (show((ps.length:Nat):Int)+1≠0 by omega);have j1:=Ow (lawCA ns u) (show 0 < ((ps.length:Nat):Int)+1 by omega);generalize lawCA ns u % (((ps.length:Nat):Int)+1)=j at*;refine Fd X2.eB j0 (by rw[NI];omega) (by rw[NI];omega) ?_
 have eB3:(upd H2 B (.lst ((ps.map fun p=>V.ref p.1).take j.toNat++V.ref T::(ps.map fun p=>V.ref p.1).drop j.toNat))) B=↥((ps.take j.toNat++(T,z,rngF z (bq qs))::ps.drop j.toNat).map fun p=>V.ref p.1):=by
  rw[ao,OB,Os,QB,RT]
 have fr:∀{y:Addr} {o:HO},H1 y=some o->∀ b,H1 b=none->b≠y:=fun e b hb h=>by rw[h,e] at hb;cases hb
 have new:Tr45 (fun b=>H b=none/\b≠A/\b≠B) h w NA H2 1 T z (rngF z (bq qs)):=.sup eT eC ⟨X.sm.free hC,fr X.eA _ hC,fr X.eB _ hC⟩ ql (fun p hp=>(qt p hp).weak fun b hb=>⟨X.sm.free hb,fr X.eA _ hb,fr X.eB _ hb⟩) z0 z1
 have tr3:∀ p∈ps.take j.toNat++(T,z,rngF z (bq qs))::ps.drop j.toNat,Tr45 (fun b=>H b=none) h w NA (upd H2 B (.lst ((ps.map fun p=>V.ref p.1).take j.toNat++V.ref T::(ps.map fun p=>V.ref p.1).drop j.toNat))) 1 p.1 p.2.1 p.2.2:=fun p hp=>by
  refine Tr45.weak (fun b e=>e.1) (Tr45.put (F:=fun b=>H b=none/\b≠A/\b≠B) ?_ X2.eB fun q=>q.2.2 rfl);rcases Oj.mp hp with hp | hp
  . exact(X2.tr p (Pi hp)).lift
  . rcases N4.mp hp with rfl | hp
    . exact new
    . exact(X2.tr p (List.mem_of_mem_drop hp)).lift
 have s3:Same H (upd H2 B (.lst ((ps.map fun p=>V.ref p.1).take j.toNat++V.ref T::(ps.map fun p=>V.ref p.1).drop j.toNat))):=X2.sm.own X.fB;generalize upd H2 B (.lst ((ps.map fun p=>V.ref p.1).take j.toNat++V.ref T::(ps.map fun p=>V.ref p.1).drop j.toNat))=H3 at*;symm;refine q B H3 _ s3 X.fB eB3 ?_ tr3;rw[N0,Oq,OP,Rn];omega
def rkSU{n:Nat}(h:spSU n K c d vs H Q E):rdSU (spTK n K c d) K c d (eD9 Q) (start ["_law_script","_law_at","_law_size","_law_depth","_law_puzzle","_law_floor_here","_law_rules","_law_masks","_law_number","_law_cell","_law_sign","_law_left"] vs) H:=by
 obtain⟨a,P,L,G,p,Rl,W,ts,Cs,ns,h,w,g,NA,cl,Ny,u,sz,rfl,Z,u4,q⟩:=h;have F:=Z.wd.P.R.F;have g0:=F.g0;have g6:=F.g1;have u0:=Z.u0;have ml:=Z.ml;have m16:=F.m;have mp:1<=h*w:=by have:=F.h0;have:=F.w0;exact Rb #[0] #[0]
 have nn:=BL ns u;show rdSU (spTK n K c d) K c d _ [↑a,⇑u,⇑sz,⇑(n:Int),↑P,↑p,↑Rl,↑W,none,none,none,none] H;unfold rdSU;symm;refine⟨a,ns,_,rfl,Z.wd.S,Z.wd.n,by omega,by omega,?_⟩;symm;rw[aS Z.W,NI];symm;refine⟨by omega,?_⟩;have j0:=Oz (lawCA ns u) (show((Ny.length:Nat):Int)≠0 by omega);have j1:=Ow (lawCA ns u) (show 0 < ((Ny.length:Nat):Int) by omega);generalize lawCA ns u % ((Ny.length:Nat):Int)=z at*;refine⟨⟨by decide,by decide⟩,?_⟩;refine ixT Z.wd.p (v:=V.int g) rfl ?_;symm;refine⟨by omega,?_⟩;have i0:=Oz (lawCA ns u/9) (show g≠0 by omega);have i1:=Ow (lawCA ns u/9) (show 0<g by omega);generalize lawCA ns u/9%g=s at*;symm;refine sJ Z.W fun A hA=>?_;obtain⟨H1,z9,s1,eA⟩:=a9 (.lst (Ny.map V.int)) hA;rw[z9];refine⟨⟨by omega,by omega,by decide⟩,?_⟩;symm;refine HI eA j0 (by rw[NI];omega) ?_;rw[vo];have s2:Same H (upd H1 A (.lst ((Ny.set z.toNat (1*2^(1+s-1).toNat)).map V.int))):=s1.own hA;have eA2:(upd H1 A (.lst ((Ny.set z.toNat (1*2^(1+s-1).toNat)).map V.int))) A=↥((Ny.set z.toNat (1*2^(1+s-1).toNat)).map V.int):=ao;generalize upd H1 A (.lst ((Ny.set z.toNat (1*2^(1+s-1).toNat)).map V.int))=H2 at*
 have pw:0<=(1:Int)*2^(1+s-1).toNat/\(1:Int)*2^(1+s-1).toNat<64:=by
  have hs:s=0\/s=1\/s=2\/s=3\/s=4\/s=5:=by omega
  rcases hs with rfl | rfl | rfl | rfl | rfl | rfl <;> decide
 symm;refine⟨a,P,L,G,p,Rl,A,ts,Cs,ns,h,w,g,NA,cl,_,u+1,sz,rfl,⟨Z.wd.same s2,eA2,by rw[RH];exact ml,fun m hm=>?_,by omega,by omega,Z.z0,Z.z1⟩,by omega,fun B H3 ps s3 hB eB pl tr=>?_⟩
 . rcases Q0 hm with hm | rfl
   . exact Z.mm m hm
   . exact pw
 . symm;refine⟨lnR rfl,fun T hT=>?_⟩;have s4:Same H3 (upd H3 T (.tup [V.str (tx [115,117,112,112,111,115,101]),V.int 0,V.int z,V.int (1+s),V.ref B])):=(NK H3).laid hT;exact q T B _ z (1+s) ps ((s2.trans s3).trans s4) ((s2.trans s3).free hT) (s2.free hB) ao (s4 _ _ eB) pl (fun p hp=>((tr p hp).weak fun b hb=>s2.free hb).same s4) j0 #[0]
def sk(h:e6 K c d vs H Q E):si K c d (eD9 Q) (start ["_law_script","_law_at","_law_size","_law_depth","_law_puzzle","_law_floor_here","_law_rules","_law_masks","_law_number","_law_cell","_law_sign","_law_left"] vs) H:=rkSU (n:=0) h
def su(h:gY K c d vs H Q E):sj K c d (eD9 Q) (start ["_law_script","_law_at","_law_size","_law_depth","_law_puzzle","_law_floor_here","_law_rules","_law_masks","_law_number","_law_cell","_law_sign","_law_left"] vs) H:=rkSU (n:=1) h
def u8(h:aM K vs H Q E):g8 K (eD9 Q) (start ["_law_script","_law_k","_law_number"] vs) H:=xz h
def lE(K:Frag)(c:RCl RK)(d:RCl PzK):Sp:=fun vs H Q _=>∃ P L G T h w g NA cl z bl F,vs=[.ref P,.ref T]/\IsPz H c d P L G h w g NA cl/\h*w<=9/\Tr45 F h w NA H 2 T z bl/\∀ H',Same H H'->Q (.bl true) H'
def i8(K:Frag)(c:RCl RK)(d:RCl PzK):TS:=#[":gNEcGW3adf#0 ejbsc,'Rckua0a1e2"]
def i9(K:Frag)(c:RCl RK)(d:RCl PzK):TS:=#[":gnmbAcx&-- wc3h#1 QRzp-a1ad/~Nezp-a1ad/'ue1vejdFBo_ecku"]
def lF(K:Frag)(c:RCl RK)(d:RCl PzK):TS:=#[":gl,_fckua0a1eh#2 gl,'Rckua0a1eh#3 gnQRzp-a3ad/GembAc32jdFBo_gcku"]
def zr(h:lE K c d vs H Q E):lF K c d (eD9 Q) (start ["_law_puzzle","_law_thought_here","_law_due_here","_law_found"] vs) H:=by
 obtain⟨P,L,G,T,h,w,g,NA,cl,z,bl,F,rfl,X,m9,Y,q⟩:=h;have bb:=Y.bd m9;ac_nf;unfold lF;generalize hW:i9 K c d=W at*;symm;refine⟨P,L,G,T,h,w,g,NA,cl,z,bl,F,rfl,X,m9,Y,fun D H1 s1 hD eD=>?_⟩;symm;refine⟨P,L,G,T,h,w,g,NA,cl,z,bl,F,rfl,X.same s1,m9,Y.same s1,fun N H2 s2 hN eN=>?_⟩;have s12:=s1.trans s2;symm;rw[aC];symm;refine Bp eN ?_;symm;refine qM eN (s2 _ _ eD) ?_;rw[NP rfl];symm;subst hW;unfold i9;rw[az,aC];generalize hW:i8 K c d=W at*;symm;refine⟨⟨_,N5 eN⟩,?_⟩;refine aT (fun _=>false) (fun x=>x) #[0] (N5 eN) ?_ ?_ ?_
 . intro x H4 R4 hx s4 k4;show tOr _ _ [none,⇑x] H4 R4;symm;exact k4 _ (NK _)
 . intro x H4 Q4 hx hb4 s4 k4;cases hb4
 . intro l H3 hl s3 el;symm;refine⟨aW #[1],fun e he=>?_⟩;obtain⟨H4,z9,s4,ee⟩:∃ z,upd H3 e (.lst [])=z/\Same H3 z/\z e=↥(([]:∅).map V.int):=a9 _ he;rw[z9];refine qM (s4 _ _ el) ee ?_;rw[List.filter_eq_nil_iff.mpr (by simp),RY,NP rfl];symm;subst hW;unfold i8;symm;have s34:=s3.trans s4;refine⟨bL (s34 _ _ eN),?_⟩;rw[ia (s34 _ _ eN)];refine⟨by rw[NI];exact aJ #[0],?_⟩;have fN:=s1.free hN;have s5:Same H (upd H4 N (.lst (bl.map V.int++[V.int 0]))):=(s12.trans s34).own fN;have nD:D≠N:=fun e=>by rw[e] at eD;rw[eD] at hN;cases hN
   have eD5:(upd H4 N (.lst (bl.map V.int++[V.int 0]))) D=↥(bl.map V.int):=by rw[ar nD];exact(s2.trans s34) _ _ eD
   generalize upd H4 N (.lst (bl.map V.int++[V.int 0]))=H5 at*;symm;refine⟨P,L,G,T,h,w,g,NA,cl,z,bl,F,rfl,X.same s5,m9,Y.same s5,fun R H6 s6 hR eR=>?_⟩;symm;refine lL eR (s6 _ _ eD5) ?_;rw[NP rfl];exact q H6 (s5.trans s6)
def GH(K:Frag)(c:RCl RK)(d:RCl PzK):Sp:=fun vs H Q _=>∃(a:Addr) (ns:∅),vs=[.ref a]/\SqL K H a (ns.map V.int)/\ns.length<=63/\(∀ k,k≠.Rule->c.ok k=true)/\d.ok .Puzzle=true/\∀ H',Q (.bl true) H'
def zt(K:Frag):Sp:=fun vs H Q _=>∃(a:Addr) (ns:∅),vs=[.ref a]/\SqL K H a (ns.map V.int)/\ns.length<=63/\∀ H',Q (.bl true) H'
def oN(K:Frag)(c:RCl RK)(d:RCl PzK):TS:=#[":gIUabtdf#2 p~-adf#8 ap~Uca0eeeh#3 gl,_hckua0abtdf#60 bXdf#50 3adf#14 adf#1 a7a1a5a8eh#9 Iwcbtva9ebi9df#4 h#10 nRz,_ickua7a|aejdFBojdFM"]
def tN(K:Frag)(c:RCl RK)(d:RCl PzK):TS:=#[":g~w#8 &--1 wc4h#1 JbHb~ldf#1 bi2df#2 df#1 _jcku"]
def oO(K:Frag)(c:RCl RK)(d:RCl PzK):TS:=#[":gl~b_k_l_mcku=~ca1ax&-- wc5h#1 Jbi1df#3 a6eh#7 _ncku"]
def tO(K:Frag)(c:RCl RK)(d:RCl PzK):TS:=#[":g~w#6 &--40 Ua2eh#1 JbXbi21bCbP,Zca3abtdf#300 1edf#5 df#2 _ocku"]
def tP(K:Frag)(c:RCl RK)(d:RCl PzK):TS:=#[":g~w#5 &--410 Uabtdf#1 bC,Zca0adf#9 edf#5 eh#1 J,_pca,Zca4abtdf#10 1ea3a2e_qcku"]
def oP(K:Frag)(c:RCl RK)(d:RCl PzK):TS:=#[":glx&--10 Ua2eh#1 Jbtdf#1 bCbP,Zca3abtdf#1 1edf#3 bi2df#2 h#4 _rcku"]
def tQ(K:Frag)(c:RCl RK)(d:RCl PzK):TS:=#[":glbXbi1df#0 bi1df#1 h#2 _scku"]
def Cw(K:Frag)(c:RCl RK)(d:RCl PzK):TS:=#[":gl,_tca,Zca0adf#0 eeh#1 _ucku"]
section
variable{K:Frag}{c:RCl RK}{d:RCl PzK}{H:Hp}{Q:VK}{a P L G p Rl W:Addr}{ts Cs:List Addr}{ns:∅}{h w g:Int}{NA:List RR}{cl Ny:∅}
def GI{v2 v4 v6:Option V}(Z:Cu K H c d a P L G p Rl W ts Cs ns h w g NA cl Ny 0 14)(q:∀ H',Q (.bl true) H'):
  oN K c d (eD9 Q) [↑a,↑p,v2,none,v4,↑Rl,v6,↑P,↑W,none,none] H:=by
 have nn:=Z.wd.n;unfold oN;symm;refine⟨a,_,rfl,.inl Z.wd.S,?_⟩;symm;rw[NI];have mn:(if ((ns.length:Nat):Int)<8 then((ns.length:Nat):Int) else 8)<=8/\0<=(if ((ns.length:Nat):Int)<8 then((ns.length:Nat):Int) else 8):=by split <;> omega
 generalize (if ((ns.length:Nat):Int)<8 then((ns.length:Nat):Int) else 8)=mm at*;refine⟨_,rfl,by omega,by omega,?_⟩;refine or (fun i σ H'=>∃(v3 v9 v10:Option V),σ=[↑a,↑p,v2,v3,v4,↑Rl,v6,↑P,↑W,v9,v10]/\Same H H') ⟨none,none,none,rfl,NK H⟩ ?_ ?_
 . rintro i σ H1 hi ⟨v3,v9,v10,rfl,s1⟩;rw[aQ,OU];symm;refine⟨.inl ⟨by decide,by decide⟩,?_⟩;refine⟨a,P,L,G,p,Rl,W,ts,Cs,ns,h,w,g,NA,cl,Ny,60+50*(i:Int),14,rfl,⟨Z.wd.same s1,s1 _ _ Z.W,Z.ml,Z.mm,by omega,by omega,by decide,by decide⟩,by show _+500*(1:Int)<=2900;omega,fun T B H2 z s ps s2 hT hB eT eB pl tr z0 z1=>?_⟩;have Y:Tr45 (fun b=>H1 b=none) h w NA H2 2 T z (rngF z (bq ps)):=.sup eT eB hB pl tr z0 z1;symm;refine⟨lnR rfl,fun M hM=>?_⟩;obtain⟨H3,z9,s3,eM⟩:=a9 (.lst [V.ref T]) hM;rw[z9];refine ixT (s3 _ _ eT) (v:=V.ref B) rfl ?_;refine ja eM (s3 _ _ eB) (by rw[NI];show 1+_<=1000;omega) fun R hR=>?_;have s4:Same H3 (upd H3 R (.lst ([V.ref T]++ps.map fun p=>V.ref p.1))):=(NK H3).laid hR;have eR:(upd H3 R (.lst ([V.ref T]++ps.map fun p=>V.ref p.1))) R=↥(((T,z,rngF z (bq ps))::ps).map fun p=>V.ref p.1):=by rw[ao];rfl
   generalize upd H3 R (.lst ([V.ref T]++ps.map fun p=>V.ref p.1))=H4 at*;have s24:=s3.trans s4;have s14:=s1.trans (s2.trans s24);refine⟨R,rfl,⟨_,N5 eR⟩,?_⟩;refine b7 (K:=K) (xs:=((T,z,rngF z (bq ps))::ps).map fun p=>V.ref p.1) (fun j σ H5=>∃ v10,σ=[↑a,↑p,v2,⇑(i:Int),v4,↑Rl,v6,↑P,↑W,↑T,v10]/\Same H4 H5) ⟨_,rfl,NK H4⟩ (fun j σ H5 _ ⟨_,_,s5⟩=>N5 (s5 _ _ eR)) ?_ ?_
   . rintro j x σ H5 hx ⟨v10,rfl,s5⟩;obtain⟨y,hy,rfl⟩:=zo hx
     have Yy:Tr45 (fun b=>H1 b=none) h w NA H2 2 y.1 y.2.1 y.2.2:=by
      rcases N4.mp (NV hy) with rfl | hm
      . exact Y
      . exact(tr y hm).lift
     rw[aQ,aC];symm;refine⟨P,L,G,y.1,h,w,g,NA,cl,y.2.1,y.2.2,_,rfl,Z.wd.P.same (s14.trans s5),Z.wd.m9,Yy.same (s24.trans s5),fun H6 s6=>?_⟩;refine⟨true,rfl,?_⟩;symm;exact⟨_,rfl,s5.trans s6⟩
   . rintro σ H5 ⟨v10,rfl,s5⟩;exact⟨_,_,_,rfl,s14.trans s5⟩
 . rintro σ H1 ⟨v3,v9,v10,rfl,s1⟩;symm;exact q H1
def IT {n:Nat} {σ0:St} {te:TE} {fin:Addr->Hp->Prop} (F:FlOk h w g) (hn:n<=12)
  (he:∀ i H1 Q,i<n->Same H H1->RlP Q H1 h w g->te (σ0.set 1 ⇑(0+(i:Int))) H1 Q)
  (hd:∀(l:Addr) (ts Cs:List Addr) (NA:List RR) (H1:Hp),H l=none->Same H H1->Rs40 H1 l ts Cs NA->NA.length=n->(∀ r∈NA,r.Ok h w g)->fin l H1):
  CompR (Itr 0 n) (gName 1) tTrue te fin σ0 H:=by
 refine qL (fun l i σ H1=>(σ=σ0\/∃ cv,σ=σ0.set 1 cv)/\Same H H1/\∃(ts Cs:List Addr) (NA:List RR),Rs40 H1 l ts Cs NA/\NA.length=i/\l∉Cs/\∀ r∈NA,r.Ok h w g) (fun l hl=>⟨.inl rfl,(NK H).laid hl,[],[],[],⟨by rw[ao];rfl,rfl,rfl,fun i T C r e _ _=>by simp at e⟩,rfl,by simp,(fun _ h=>nomatch h)⟩) ?_ (fun l σ H1 hl ⟨_,s1,ts,Cs,NA,R,rl,_,ok⟩=>hd l ts Cs NA H1 hl s1 R rl ok);rintro l i σ H1 hl hi ⟨hσ,s1,ts,Cs,NA,R,rl,nC,ok⟩;rw[aQ]
 have e:σ.set 1 ⇑(0+(i:Int))=σ0.set 1 ⇑(0+(i:Int)):=by
  rcases hσ with rfl | ⟨cv,rfl⟩
  . rfl
  . exact PD ..
 rw[e,ce,Oh rfl];have tl:=R.len;have cl:=R.lnC;refine he i H1 _ hi s1 fun T0 C r H2 s2 Y O=>?_
 have nCl:C≠l:=fun e=>by
  have a:=Y.C;rw[e,s2 _ _ R.top] at a;have b:=(uP O F).1
  cases ts with
  | nil=>
   cases hc:r.cs with
   | nil=>rw[hc] at b;cases b
   | cons x y=>rw[hc] at a;cases a
  | cons t y=>
   cases hc:r.cs with
   | nil=>rw[hc] at b;cases b
   | cons x y=>rw[hc] at a;cases a
 refine⟨_,s2 _ _ R.top,by rw[NI];exact aJ #[0],.inr ⟨_,rfl⟩,(s1.trans s2).own hl,ts++[T0],Cs++[C],NA++[r],?_,by rw[N0,rl];rfl,?_,fun x hx=>?_⟩
 . have up:∀{T C:Addr} {r:RR},IsRl H2 T C r->C≠l->IsRl (upd H2 l (.lst (ts.map V.ref++[V.ref T0]))) T C r:=fun{T C r} y nC=>⟨by
     have ne:T≠l:=fun e=>by have:=y.top;rw[e,s2 _ _ R.top] at this;cases this
     rw[ar ne];exact y.top,by rw[ar nC];exact y.C⟩
   refine⟨by rw[ao,OB];rfl,by rw[N0,N0,tl];rfl,by rw[N0,N0,cl];rfl,fun j T' C' r' h1 h2 h3=>?_⟩;by_cases hj:j<ts.length
   . rw[OG hj] at h1;rw[OG #[0]] at h2 h3;exact up ((R.at_ j T' C' r' h1 h2 h3).same s2) fun e=>nC (e ▸ NV h2)
   . rw[OT #[0]] at h1 h2 h3;have hj2:j=ts.length:=by have:=(NR.mp h1).1;simp at this;omega
     subst hj2;rw[Nat.sub_self] at h1;rw[show ts.length-Cs.length=0 by omega] at h2;rw[show ts.length-NA.length=0 by omega] at h3;cases h1;cases h2;cases h3;exact up Y nCl
 . intro hx;rcases Oj.mp hx with hx | hx
   . exact nC hx
   . exact nCl (Oa.mp hx).symm
 . rcases Oj.mp hx with hx | hx
   . exact ok x hx
   . rw[Oa.mp hx];exact O
def GJ{Cl f:Addr}{fl:∅}(ef:H f=↥(fl.map V.int))(fll:fl.length=(h*w).toNat)(hS:SqL K H a (ns.map V.int))(hn:ns.length<=63)(hp:IsFl H p h w g)(F:FlOk h w g)(m9:h*w<=9)(g4:g<=4)(R:Rs40 H Rl ts Cs NA)(ro:∀ r∈NA,r.Ok h w g)(r1:1<=NA.length)(r2:NA.length<=12)(eC:H Cl=↥(cl.map V.int))(Cc:CluesOk h w g cl)(okc:∀ k,k≠.Rule->c.ok k=true)(ok:d.ok .Puzzle=true)(q:∀ H',Q (.bl true) H'):
  oO K c d (eD9 Q) [↑a,↑p,⇑(h*w),none,↑f,↑Rl,↑Cl,none,none,none,none] H:=by
 have tl:=R.len;have cln:=R.lnC;unfold oO;generalize hW:tN K c d=W at*;symm;refine⟨⟨_,N5 R.top⟩,?_⟩;refine cJ (xs:=ts.map V.ref) (fun _=>true) (fun i=>V.str ((NA.map RR.txt).getD i "")) (by rw[NI];omega) (N5 R.top) ?_ ?_ ?_
 . intro i x H4 R4 hx s4 k4;exact k4 _ (NK _)
 . intro i x H4 Q4 hx hb4 s4 k4;obtain⟨T,hT,rfl⟩:=lM hx;have hi:=(NR.mp hT).1;have e2:Cs[i]? =some (Cs[i]'#[0]):=NJ #[0];have e3:NA[i]? =some (NA[i]'#[0]):=NJ #[0];have Y:=(R.at_ i T _ _ hT e2 e3).same s4;show tOp cIx _ _ [none,↑T] H4 Q4;symm;refine ixT Y.top (v:=V.str (NA[i]'#[0]).txt) rfl ?_;have ex:(NA.map RR.txt).getD i ""=(NA[i]'#[0]).txt:=by rw[List.getD,NN,e3];rfl
   rw[ex] at k4;exact k4 _ (NK _)
 . intro Ll H1 hL s1 eL
   have eL:H1 Ll=↥((NA.map RR.txt).map V.str):=by
    rw[eL]
    congr 2
    rw[Pp.mpr (fun _ _=>rfl),NI];refine O5 fun i=>?_;rw[NN,NN,NN];rcases Qd i ts.length with hi | hi
    . rw[OX hi,NJ #[0]];show some (V.str ((NA.map RR.txt).getD i ""))=_;rw[List.getD,NN,NJ #[0]];rfl
    . rw[Od (by rw[OK];exact hi),Od #[0]];rfl
   symm;refine JH ok (s1 _ _ hp) eL (s1 _ _ eC) ⟨F,r2,ro,fun r hr=>okc _ (ro r hr).k0⟩ Cc fun P L G H2 s2 hP hL hG pz=>?_;have s12:=s1.trans s2;symm;subst hW;unfold tN;rw[az];generalize hW:oN K c d=W at*;have g0:=F.g0;have g6:=F.g1;have p64:=Ko g0 g6
   have p1:(1:Int)<=2^g.toNat:=by
    have:(0:Int)<2^g.toNat:=Int.pow_pos #[1];omega
   symm;refine⟨⟨_,N5 (s12 _ _ ef)⟩,?_⟩;refine aT (xs:=fl) (fun _=>true) (fun _=>2^g.toNat-1) (by have:=F.m;omega) (N5 (s12 _ _ ef)) ?_ ?_ ?_
   . intro x H4 R4 hx s4 k4;exact k4 _ (NK _)
   . intro x H4 Q4 hx hb4 s4 k4;show tOp cSub _ _ [none,⇑x,↑p] H4 Q4;symm;refine ixT ((s12.trans s4) _ _ hp) (v:=V.int g) rfl ?_;symm;refine⟨⟨by omega,by omega,by decide⟩,?_⟩;symm;rw[Int.one_mul];exact k4 _ (NK _)
   . intro A H3 hA s3 eA;have ft:fl.filter (fun _=>true)=fl:=Pp.mpr fun _ _=>rfl;rw[ft] at eA;subst hW;have s13:=s12.trans s3
     exact GI ⟨⟨s13.seq hS,hn,pz.same s3,s13 _ _ hp,m9,g4,R.same s13,r1⟩,eA,by rw[NI];exact fll,fun m hm=>by
      obtain⟨_,_,rfl⟩:=N9.mp hm;omega,by decide,by decide,by decide,by decide⟩ q
def GK(hS:SqL K H a (ns.map V.int))(hn:ns.length<=63)(hp:IsFl H p h w g)(F:FlOk h w g)(m9:h*w<=9)(g4:g<=4)(okc:∀ k,k≠.Rule->c.ok k=true)(ok:d.ok .Puzzle=true)(q:∀ H',Q (.bl true) H'):
  oP K c d (eD9 Q) [↑a,↑p,⇑(h*w),none,none,none,none,none,none,none,none] H:=by
 have g0:=F.g0;have mp:1<=h*w:=by have:=F.h0;have:=F.w0;exact Rb #[0] #[0]
 unfold oP;rw[az];generalize hW:tP K c d=W at*;symm;refine⟨_,rfl,by omega,by omega,?_⟩;refine d4 (fun _=>true) (fun(i:Nat)=>1+lawCA ns (1+(i:Int))/3%g) #[0] ?_ ?_ ?_
 . intro i H4 R4 hi s4 k4;exact k4 _ (NK _)
 . intro i H4 Q4 hi hb4 s4 k4;have hi':i < (h*w).toNat:=hi;show tOp cAdd _ _ [none,⇑(0+(i:Int)),↑p,↑a] H4 Q4;rw[OU];symm;refine⟨a,ns,_,rfl,s4.seq hS,hn,by omega,by omega,?_⟩;symm;refine⟨⟨by decide,by decide⟩,?_⟩;refine ixT (s4 _ _ hp) (v:=V.int g) rfl ?_;symm;exact⟨by omega,k4 _ (NK _)⟩
 . intro f H1 hf s1 ef;rw[br] at ef;have fll:((List.range (h*w).toNat).map fun(i:Nat)=>1+lawCA ns (1+(i:Int))/3%g).length=(h*w).toNat:=by simp
   have sg:∀ x∈(List.range (h*w).toNat).map fun(i:Nat)=>1+lawCA ns (1+(i:Int))/3%g,1<=x/\x<=g:=fun x hx=>by
    obtain⟨i,_,rfl⟩:=N9.mp hx;have b0:=Oz (lawCA ns (1+(i:Int))/3) (show g≠0 by omega);have b1:=Ow (lawCA ns (1+(i:Int))/3) (show 0<g by omega);omega
   generalize ((List.range (h*w).toNat).map fun(i:Nat)=>1+lawCA ns (1+(i:Int))/3%g)=fl at*;symm;subst hW;unfold tP;rw[az];generalize hW:tO K c d=W at*;symm;refine⟨a,ns,_,rfl,s1.seq hS,hn,by decide,by decide,?_⟩;symm;have b0:=Oz (lawCA ns 9) (show(5:Int)≠0 by decide);have b1:=Ow (lawCA ns 9) (show(0:Int)<5 by decide);refine⟨by decide,_,rfl,by omega,by omega,?_⟩;generalize hx:1+lawCA ns 9%5=x at*;refine IT (h:=h) (w:=w) (g:=g) F #[0] ?_ ?_
   . intro i H4 Q4 hi s4 k4;have hi':i<x.toNat:=hi;show tCall _ _ _ _ [none,⇑(0+(i:Int)),↑f,↑p,↑a] H4 Q4;rw[OU];symm;have s14:=s1.trans s4;refine⟨a,ns,_,rfl,s14.seq hS,hn,by omega,by omega,?_⟩;exact⟨p,f,_,h,w,g,fl,rfl,⟨s14 _ _ hp,F,m9,s4 _ _ ef,fll,sg⟩,k4⟩
   . intro Rl ts Cs NA H2 hR s2 R rl ro;have s12:=s1.trans s2;symm;subst hW;unfold tO;rw[az];generalize hW:oO K c d=W at*;symm;refine⟨_,rfl,by omega,by omega,?_⟩;refine d4 (fun _=>true) (fun(i:Nat)=>fl.getD i 0*(lawCA ns (300+(i:Int))/5%2)) #[0] ?_ ?_ ?_
     . intro i H4 R4 hi s4 k4;exact k4 _ (NK _)
     . intro i H4 Q4 hi hb4 s4 k4;have hi':i < (h*w).toNat:=hi;show tOp cMul _ _ [none,⇑(0+(i:Int)),↑f,↑a] H4 Q4;rw[OU];symm;refine ixI ((s2.trans s4) _ _ ef) #[0] #[0] ?_;rw[OF];refine⟨a,ns,_,rfl,(s12.trans s4).seq hS,hn,by omega,by omega,?_⟩;symm;have b:=sg _ (fJ (ms:=fl) (k:=i) #[0]);exact⟨⟨by decide,by decide⟩,by decide,ox b.1 #[0],k4 _ (NK _)⟩
     . intro Cl H3 hC s3 eC;rw[br] at eC;have cll:((List.range (h*w).toNat).map fun(i:Nat)=>fl.getD i 0*(lawCA ns (300+(i:Int))/5%2)).length=(h*w).toNat:=by simp
       have cb:∀ x∈(List.range (h*w).toNat).map fun(i:Nat)=>fl.getD i 0*(lawCA ns (300+(i:Int))/5%2),0<=x/\x<=g:=fun x hx=>by
        obtain⟨i,hi,rfl⟩:=N9.mp hx;have b:=sg _ (fJ (ms:=fl) (k:=i) (by have:=N8.mp hi;omega));have e:lawCA ns (300+(i:Int))/5%2=0\/lawCA ns (300+(i:Int))/5%2=1:=by omega
        rcases e with e | e
        . rw[e,Int.mul_zero];omega
        . rw[e,Int.mul_one];omega
       generalize ((List.range (h*w).toNat).map fun(i:Nat)=>fl.getD i 0*(lawCA ns (300+(i:Int))/5%2))=cl at*;symm;subst hW;have s13:=s12.trans s3;exact GJ ((s2.trans s3) _ _ ef) fll (s13.seq hS) hn (s13 _ _ hp) F m9 g4 (R.same s3) ro #[0] #[0] eC ⟨cll,cb⟩ okc ok q
end
def J0(h:GH K c d vs H Q E):Cw K c d (eD9 Q) (start ["_law_script","_law_floor_here","_law_many","_law_k","_law_filling","_law_rules","_law_clues","_law_puzzle","_law_masks","_law_thought_here","_law_one"] vs) H:=by
 obtain⟨a,ns,rfl,hs,hn,ok,okd,q⟩:=h;ac_nf;unfold Cw;rw[az];generalize hW:tQ K c d=W at*;symm;refine⟨a,ns,0,rfl,hs,hn,by decide,by decide,?_⟩;refine⟨_,rfl,fun p h w g H1 s1 hp0 hp F m9 g4=>?_⟩;subst hW;unfold tQ;rw[az];generalize hW:oP K c d=W at*;symm;refine ixT hp (v:=V.int h) rfl ?_;refine ixT hp (v:=V.int w) rfl ?_;symm;refine⟨ox F.h0 F.h1,?_⟩;subst hW;exact GK (s1.seq hs) hn hp F m9 g4 ok okd q
section
variable{X:Cx}{e:Expr}{es rs:List Expr}{te:TE}{t:TA}
def iD{c:Const}{k}{p:Pos}(ha:PE X (.Constant c k p) te)(hr:PA X es t):PA X (.Constant c k p::es) (tCons te t):=aa ha hr
end
local macro_rules | `(tactic| walk_at "l")=>`(tactic| (intro vs H Q E h; (repeat obtain ⟨_,h⟩:=h); subst_vars; rfl))
local macro_rules | `(tactic| ac_rfl)=>`(tactic| exact ⟨rfl,rfl,rfl,by decide+kernel,rfl,by decide+kernel,by decide+kernel⟩)
def top(i:Nat):Stmt:=PySem.Challenge.pw_cluemaker_k45_what_a_supposing_rests_on.main.body.getD i (.Pass ⟨0,0,0,0⟩)
def mtop(i j:Nat):Stmt:=match top i with
 | .ClassDef _ _ _ body _ _ _ _ _ _ _=>body.getD j (.Pass ⟨0,0,0,0⟩)
 | s=>s
abbrev iI(Z:Z5):Prop:=Ca9 Z 1 "is_whole" ["value"] (fD Z.K)
abbrev e5(Z:Z5):Prop:=Ca9 Z 1 "many_cells" ["floor"] (cS Z.K)
abbrev tR(Z:Z5):Prop:=Ca9 Z 1 "spot_of" ["floor","cell"] (mM Z.K)
abbrev vp(Z:Z5):Prop:=Ca9 Z 1 "square_at" ["floor","corner"] (no Z.K)
abbrev Cy(Z:Z5):Prop:=Ca9 Z 1 "bit_of" ["sign"] (sW Z.K)
abbrev nZ(Z:Z5):Prop:=Ca9 Z 1 "stands" ["mask","sign"] (jP Z.K)
abbrev tS(Z:Z5):Prop:=Ca9 Z 1 "clashes" ["masks"] (mR Z.K)
abbrev gC(Z:Z5):Prop:=Ca9 Z 1 "masks_at" ["masks","cells"] (db Z.K)
abbrev p8(Z:Z5):Prop:=Ca9 Z 1 "clue_strikes" ["clues","cell","sign","more"] (kd Z.K)
abbrev kR(Z:Z5):Prop:=Ca9 Z 1 "are_told_in_order" ["cells","more"] (gr Z.K)
abbrev pQ(Z:Z5):Prop:=Ca9 Z 1 "with_sign" ["filling","cell","sign"] (kr Z.K)
abbrev vq(Z:Z5):Prop:=Ca9 Z 1 "has_parts" ["thought"] (nQ Z.K)
abbrev vt(Z:Z5):Prop:=Ca9 Z 1 "is_within" ["some","cells"] (nJ Z.K)
abbrev vv(Z:Z5):Prop:=Ca9 Z 1 "number_in" ["word"] (nu Z.K)
abbrev eE(Z:Z5):Prop:=Ca9 Z 1 "_law_cell_at" ["_law_script","_law_k"] (aM Z.K)
abbrev tT(Z:Z5):Prop:=Ca9 Z 1 "_law_floor" ["_law_cell"] (kC Z.K)
abbrev lQ(Z:Z5):Prop:=Ca9 Z 1 "_law_near" ["_law_floor_here","_law_cell"] (io Z.K)
abbrev tU(Z:Z5):Prop:=Ca9 Z 1 "_law_drawn" ["_law_number","_law_many","_law_size"] (g9 Z.K)
abbrev tV(Z:Z5):Prop:=Ca9 Z 1 "_law_above" ["_law_filling","_law_cells"] (hE Z.K)
abbrev tW(Z:Z5):Prop:=Ca9 Z 1 "_law_signs" ["_law_mask"] (kG Z.K)
abbrev tX(Z:Z5):Prop:=Ca9 Z 1 "_law_kinds" ["_law_word"] (kI Z.K)
abbrev jI(Z:Z5):Prop:=Ca9 Z 2 "is_from_one_to" ["value","most"] (cQ Z.K)
abbrev lG(Z:Z5):Prop:=Ca9 Z 2 "beside" ["floor","cell"] (ge Z.K)
abbrev vw(Z:Z5):Prop:=Ca9 Z 2 "is_corner" ["floor","cell"] (nj Z.K)
abbrev Aa(Z:Z5):Prop:=Ca9 Z 2 "without" ["mask","sign"] (qV Z.K)
abbrev gD(Z:Z5):Prop:=Ca9 Z 2 "signs_in" ["mask"] (da Z.K)
abbrev tY(Z:Z5):Prop:=Ca9 Z 2 "is_cell" ["floor","value"] (mP Z.K)
abbrev Ab(Z:Z5)(c:RCl RK):Prop:=Ca9 Z 2 "goes_by" ["kind","rule"] (ra Z.K c)
abbrev fK(Z:Z5)(c:RCl RK):Prop:=Ca9 Z 2 "others" ["rule","cell"] (cT Z.K c)
abbrev mS(Z:Z5):Prop:=Ca9 Z 2 "many_may" ["some","sign"] (gM Z.K)
abbrev rD(Z:Z5)(c:RCl RK):Prop:=Ca9 Z 2 "ahead_of" ["rule","cell"] (jc Z.K c)
abbrev wz(Z:Z5)(c:RCl RK):Prop:=Ca9 Z 2 "behind" ["rule","cell"] (lW Z.K c)
abbrev n5(Z:Z5):Prop:=Ca9 Z 2 "with_each_sign" ["fillings","cell","signs"] (iS Z.K)
abbrev p9(Z:Z5):Prop:=Ca9 Z 2 "is_supposing" ["thought"] (kA Z.K)
abbrev kL(Z:Z5):Prop:=Ca9 Z 2 "number_within" ["word","least","most"] (gn Z.K)
abbrev tZ(Z:Z5):Prop:=Ca9 Z 2 "is_filling" ["floor","filling","least"] (md Z.K)
abbrev rN(Z:Z5):Prop:=Ca9 Z 2 "_law_joined" ["_law_floor_here","_law_some"] (jD Z.K)
abbrev vx(Z:Z5):Prop:=Ca9 Z 2 "_law_more" ["_law_kind","_law_number","_law_floor_here","_law_masks","_law_cells","_law_cell","_law_sign","_law_goal"] (ly Z.K)
abbrev yd(Z:Z5):Prop:=Ca9 Z 3 "floor_of" ["high","wide","signs"] (pA Z.K)
abbrev t5(Z:Z5):Prop:=Ca9 Z 3 "squares" ["floor"] (mO Z.K)
abbrev t6(Z:Z5):Prop:=Ca9 Z 3 "reached" ["floor","cells","start"] (ko Z.K)
abbrev kM(Z:Z5):Prop:=Ca9 Z 3 "has_only" ["mask","sign"] (gK Z.K)
abbrev GL(Z:Z5):Prop:=Ca9 Z 3 "ways" ["masks"] (zd Z.K)
abbrev t7(Z:Z5):Prop:=Ca9 Z 3 "is_sign" ["floor","value"] (mQ Z.K)
abbrev qb(Z:Z5)(c:RCl RK)(d:RCl PzK):Prop:=Ca9 Z 3 "has_its_rule" ["puzzle","kind","number","cell"] (j9 Z.K c d)
abbrev oQ(Z:Z5):Prop:=Ca9 Z 3 "is_no_greater" ["sign","mask"] (jz Z.K)
abbrev t8(Z:Z5):Prop:=Ca9 Z 3 "is_no_less" ["sign","mask"] (mf Z.K)
abbrev qc(Z:Z5)(c:RCl RK):Prop:=Ca9 Z 3 "pair_strikes" ["rule","masks","cell","sign","more"] (kh Z.K c)
abbrev oR(Z:Z5)(c:RCl RK)(d:RCl PzK):Prop:=Ca9 Z 3 "rests_by_line" ["puzzle","thought"] (iB Z.K c d)
abbrev rO(Z:Z5)(c:RCl RK):Prop:=Ca9 Z 3 "sum_strikes" ["rule","masks","cell","sign","more"] (li Z.K c)
abbrev mB(Z:Z5)(c:RCl RK)(d:RCl PzK):Prop:=Ca9 Z 3 "rests_by_number" ["puzzle","thought"] (gu Z.K c d)
abbrev wA(Z:Z5):Prop:=Ca9 Z 3 "around" ["floor","middle","cell"] (oK Z.K)
abbrev qd(Z:Z5):Prop:=Ca9 Z 3 "first_within" ["words","least","most"] (fu Z.K)
abbrev t9(Z:Z5):Prop:=Ca9 Z 3 "told_cells" ["floor","words"] (l7 Z.K)
abbrev Ac(Z:Z5)(c:RCl RK):Prop:=Ca9 Z 3 "rule_by" ["floor","words","cells","amount","mark"] (qT Z.K c)
abbrev oS(Z:Z5):Prop:=Ca9 Z 3 "checked_clues" ["floor","clues"] (js Z.K)
abbrev oU(Z:Z5):Prop:=Ca9 Z 3 "_law_by_floor" ["_law_floor_here","_law_filling","_law_word","_law_sign"] (iu Z.K)
abbrev lH(Z:Z5):Prop:=Ca9 Z 3 "_law_thought" ["_law_number","_law_floor_here","_law_rules","_law_masks"] (dD Z.K)
abbrev vy(Z:Z5)(c:RCl RK)(d:RCl PzK):Prop:=Ca9 Z 4 "is_formed" ["puzzle","thought"] (nE Z.K c d)
abbrev lR(Z:Z5):Prop:=Ca9 Z 4 "many_only" ["some","sign"] (gb Z.K)
abbrev qe(Z:Z5)(c:RCl RK):Prop:=Ca9 Z 4 "only_strikes" ["rule","masks","cell","sign","more"] (kf Z.K c)
abbrev oV(Z:Z5)(c:RCl RK):Prop:=Ca9 Z 4 "place_strikes" ["floor","rule","masks","cell","sign","more"] (ju Z.K c)
abbrev qf(Z:Z5)(c:RCl RK):Prop:=Ca9 Z 4 "step_strikes" ["rule","masks","cell","sign","more"] (kj Z.K c)
abbrev jJ(Z:Z5):Prop:=Ca9 Z 4 "rest_of_square" ["floor","corner","cell"] (fQ Z.K)
abbrev jf(Z:Z5):Prop:=Ca9 Z 4 "is_another_with_only" ["floor","masks","cell","other","mark"] (fc Z.K)
abbrev ye(Z:Z5):Prop:=Ca9 Z 4 "cells_of" ["floor","name","words"] (pq Z.K)
abbrev oW(Z:Z5):Prop:=Ca9 Z 4 "checked_floor" ["floor"] (jq Z.K)
abbrev vz(Z:Z5):Prop:=Ca9 Z 4 "_law_rule" ["_law_number","_law_floor_here","_law_filling"] (lr Z.K)
abbrev mC(Z:Z5)(c:RCl RK)(d:RCl PzK):Prop:=Ca9 Z 5 "strikes_by_line" ["puzzle","masks","thought"] (gU Z.K c d)
abbrev oX(Z:Z5)(c:RCl RK):Prop:=Ca9 Z 5 "count_strikes" ["rule","masks","cell","sign","more"] (jw Z.K c)
abbrev n6(Z:Z5)(c:RCl RK):Prop:=Ca9 Z 5 "square_strikes" ["floor","rule","masks","cell","sign","more"] (iM Z.K c)
abbrev oY(Z:Z5)(c:RCl RK):Prop:=Ca9 Z 5 "reach_strikes" ["floor","rule","masks","cell","sign","more"] (jB Z.K c)
abbrev qg(Z:Z5)(c:RCl RK):Prop:=Ca9 Z 5 "turn_strikes" ["floor","rule","masks","cell","sign","more"] (ky Z.K c)
abbrev mD(Z:Z5)(c:RCl RK)(d:RCl PzK):Prop:=Ca9 Z 5 "rests_by_region" ["puzzle","thought"] (gz Z.K c d)
abbrev vA(Z:Z5)(c:RCl RK):Prop:=Ca9 Z 5 "read_rule" ["floor","line"] (nA Z.K c)
abbrev qh(Z:Z5)(c:RCl RK):Prop:=Ca9 Z 6 "ways_strikes" ["rule","masks","cell","sign","more"] (ku Z.K c)
abbrev kS(Z:Z5)(c:RCl RK)(d:RCl PzK):Prop:=Ca9 Z 6 "strikes_by_region" ["puzzle","masks","thought"] (fF Z.K c d)
abbrev gE(Z:Z5)(c:RCl RK)(d:RCl PzK):Prop:=Ca9 Z 6 "rests_on" ["puzzle","thought"] (bN Z.K c d)
abbrev ua(Z:Z5)(c:RCl RK):Prop:=Ca9 Z 6 "read_rules" ["floor","lines"] (l9 Z.K c)
abbrev kT(Z:Z5)(c:RCl RK)(d:RCl PzK):Prop:=Ca9 Z 7 "strikes_by_number" ["puzzle","masks","thought"] (fH Z.K c d)
abbrev yf(Z:Z5)(c:RCl RK)(d:RCl PzK):Prop:=Ca9 Z 7 "bears_on" ["puzzle","thought"] (nV Z.K c d)
abbrev yg(Z:Z5)(c:RCl RK)(d:RCl PzK):Prop:=Ca9 Z 7 "_law_due" ["_law_puzzle","_law_thought_here"] (lA Z.K c d)
abbrev Ad(Z:Z5)(c:RCl RK)(d:RCl PzK):Prop:=Ca9 Z 8 "strikes" ["puzzle","masks","thought"] (pK Z.K c d)
abbrev rP(Z:Z5)(c:RCl RK)(d:RCl PzK):Prop:=Ca9 Z 8 "bears_on" ["puzzle","thought"] (nX Z.K c d)
abbrev rQ(Z:Z5)(c:RCl RK)(d:RCl PzK):Prop:=Ca9 Z 8 "_law_due" ["_law_puzzle","_law_thought_here"] (lB Z.K c d)
abbrev Ae(Z:Z5)(c:RCl RK)(d:RCl PzK):Prop:=Ca9 Z 9 "allowed" ["puzzle","masks","thought"] (pM Z.K c d)
abbrev rR(Z:Z5)(c:RCl RK)(d:RCl PzK):Prop:=Ca9 Z 9 "bears_on" ["puzzle","thought"] (kK Z.K c d)
abbrev rS(Z:Z5)(c:RCl RK)(d:RCl PzK):Prop:=Ca9 Z 9 "_law_due" ["_law_puzzle","_law_thought_here"] (lC Z.K c d)
abbrev yh(Z:Z5)(c:RCl RK)(d:RCl PzK):Prop:=Ca9 Z 10 "fault_in" ["puzzle","masks","thought"] (mw Z.K c d)
abbrev vC(Z:Z5)(c:RCl RK)(d:RCl PzK):Prop:=Ca9 Z 10 "_law_told" ["_law_puzzle","_law_thought_here"] (lE Z.K c d)
abbrev wB(Z:Z5)(c:RCl RK)(d:RCl PzK):Prop:=Ca9 Z 11 "let_by" ["puzzle","masks","thought"] (je Z.K c d)
abbrev uc(Z:Z5)(c:RCl RK)(d:RCl PzK):Prop:=Ca9 Z 12 "_law_taken" ["_law_script","_law_at","_law_size","_law_depth","_law_puzzle","_law_floor_here","_law_rules","_law_masks"] (jG Z.K c d)
abbrev oZ(Z:Z5)(c:RCl RK)(d:RCl PzK):Prop:=Ca9 Z 13 "_law_supposed" ["_law_script","_law_at","_law_size","_law_depth","_law_puzzle","_law_floor_here","_law_rules","_law_masks"] (e6 Z.K c d)
abbrev o3(Z:Z5)(c:RCl RK)(d:RCl PzK):Prop:=Ca9 Z 14 "_law_taken" ["_law_script","_law_at","_law_size","_law_depth","_law_puzzle","_law_floor_here","_law_rules","_law_masks"] (jH Z.K c d)
abbrev lY(Z:Z5)(c:RCl RK)(d:RCl PzK):Prop:=Ca9 Z 15 "_law_supposed" ["_law_script","_law_at","_law_size","_law_depth","_law_puzzle","_law_floor_here","_law_rules","_law_masks"] (gY Z.K c d)
abbrev Ef(Z:Z5)(c:RCl RK)(d:RCl PzK):Prop:=MCal Z.P Z.w Z.K Z.mg Z.base d d.ok 1 "clues" ["self"] (wj Z.K c d)
abbrev n9(Z:Z5)(c:RCl RK):Prop:=MCal Z.P Z.w Z.K Z.mg Z.base c c.ok 3 "has_two_beside" ["self","cells","cell"] (iJ Z.K c)
abbrev Eg(Z:Z5)(c:RCl RK):Prop:=MCal Z.P Z.w Z.K Z.mg Z.base c c.ok 5 "holds" ["self","filling"] (fz Z.K c)
abbrev lS(Z:Z5)(c:RCl RK):Prop:=MCal Z.P Z.w Z.K Z.mg Z.base c c.ok 4 "is_joined" ["self","cells"] (jZ Z.K c)
abbrev jK(Z:Z5)(c:RCl RK):Prop:=MCal Z.P Z.w Z.K Z.mg Z.base c c.ok 1 "marked" ["self","filling"] (jO Z.K c)
abbrev GM(Z:Z5)(c:RCl RK):Prop:=MCal Z.P Z.w Z.K Z.mg Z.base c c.ok 1 "name" ["self"] (yY Z.K c)
abbrev wC(Z:Z5)(c:RCl RK):Prop:=MCal Z.P Z.w Z.K Z.mg Z.base c c.ok 1 "number" ["self"] (jN Z.K c)
abbrev qi(Z:Z5)(c:RCl RK)(d:RCl PzK):Prop:=MCal Z.P Z.w Z.K Z.mg Z.base d d.ok 1 "place" ["self"] (lg Z.K c d)
abbrev lI(Z:Z5)(c:RCl RK)(d:RCl PzK):Prop:=MCal Z.P Z.w Z.K Z.mg Z.base d d.ok 1 "rules" ["self"] (gp Z.K c d)
abbrev ud(Z:Z5)(c:RCl RK):Prop:=MCal Z.P Z.w Z.K Z.mg Z.base c c.ok 1 "sign" ["self"] (lc Z.K c)
abbrev kN(Z:Z5)(c:RCl RK):Prop:=MCal Z.P Z.w Z.K Z.mg Z.base c c.ok 1 "signs_at" ["self","filling"] (gJ Z.K c)
abbrev mX(Z:Z5)(c:RCl RK):Prop:=MCal Z.P Z.w Z.K Z.mg Z.base c c.ok 1 "spots" ["self"] (jm Z.K c)
abbrev mE(Z:Z5)(x:Str)(C:Addr)(c:RCl RK)(d:RCl PzK):Prop:=KCal Z.P Z.w Z.K Z.mg Z.base 7 x C ["self","floor","lines","clues"] (df Z.K c d)
abbrev aO(Z:Z5)(x:Str)(C:Addr)(c:RCl RK):Prop:=KCal Z.P Z.w Z.K Z.mg Z.base 1 x C ["self","floor","words","cells","amount","mark"] (aV Z.K c)
section
variable{Z:Z5}(Bz:Bt3 Z)
include Bz
set_option maxHeartbeats 4000000
abbrev yi:Stmt:=top 10
theorem Dq(D:De Z.K "is_whole" yi):iI Z:=okc Bz D Dc bd1 #[";gjRt~jb~k~la0a~m.v~n'Jb~;~?bcW'Kt~jb~k~la0a~m.v~n'Lb'M'Nbc"]
abbrev ue:Stmt:=top 13
theorem AD(D:De Z.K "many_cells" ue):e5 Z:=okc Bz D As bd1 #[";gjo~did0eid0e"]
abbrev Af:Stmt:=top 14
theorem Fg(D:De Z.K "spot_of" Af):tR Z:=okc Bz D EA bd2 #[";fs#2 nid0egj~oao-12aoK12c"]
abbrev vD:Stmt:=top 17
theorem Cz(D:De Z.K "square_at" vD):vp Z:=okc Bz D BB bd2 #[";fs#2 noA1id0egjya1aoA1ea2aoA2ec"]
abbrev CA:Stmt:=top 21
theorem GN(D:De Z.K "bit_of" CA):Cy Z:=okc Bz D Gd bd1 #[";fs#1 nefTOb~eb/aoM0ecv.i#2 nbubgs#1 no~d1egj1"]
abbrev CB:Stmt:=top 22
theorem GO(D:De Z.K "stands" CB):nZ Z:=okc Bz D Gc bd2 #[";gjRx~pe1klRx~p1'O'P'Q'R'S0klWxwdoKo~[0oM1eeekl"]
abbrev Ag:Stmt:=top 27
theorem Fh(D:De Z.K "clashes" Ag):tS Z:=okc Bz D EK bd1 #[";gjx~ade0`0",(by with_unfolding_all rfl)]
abbrev yj:Stmt:=top 38
theorem Dr(D:De Z.K "masks_at" yj):gC Z:=okc Bz D Dh bd2 #[";gjF.x&--0 `0Eb%bbbbB1$v.i#1 @`0bub$X$id21",[".0","cell","masks"]]
abbrev qj:Stmt:=top 43
theorem yk(D:De Z.K "clue_strikes" qj):p8 Z:=okc Bz D xx bd4 #[";gjRxwd3ycklRxGdid01eklWxGdid012kl"]
abbrev kU:Stmt:=top 51
theorem rE(D:De Z.K "are_told_in_order" kU):kR Z:=okc Bz D rf bd2 #[";fqLUpGdtDbzCa1ceklUp~qdid1e0`0Zp~qdid1e0`0gjJrgjx*PS~]~^'ad0aid1ecPS~]~^'ad0aid1eckl",(by with_unfolding_all rfl)]
abbrev vE:Stmt:=top 60
theorem CD(D:De Z.K "with_sign" vE):pQ Z:=okc Bz D BU bd3 #[";gjF.x&---12 `0Eb%bbbb'Tb'Ua0c$~Tb~fv.i#1 @`0bub~fv.i#2 @`0bub~U$X$~Vpwd13kl42",[".0","place","other","cell","sign"]]
abbrev vF:Stmt:=top 80
theorem CF(D:De Z.K "has_parts" vF):vq Z:=okc Bz D B2 bd1 #[";gjRt~jb~k~la0a~m.v~n'sb~W~XbcWxwdtDbzCa0cekl"]
abbrev vG:Stmt:=top 90
theorem CG(D:De Z.K "is_within" vG):vt Z:=okc Bz D BS bd2 #[";gjt~vbb~w~xaF.x&--1 `0Eb%bbbbB0$v.i#1 @`0bub$X$x~ad12`1c",[".0","cell","cells"],(by with_unfolding_all rfl)]
abbrev o4:Stmt:=mtop 91 0
theorem wD{c:RCl RK}(KB:FldK Z.K c "amount")(KD:FldK Z.K c "cells")(KI:FldK Z.K c "floor")(KR:FldK Z.K c "mark")(Lc:FldK Z.K c "words"){f:Addr}(D:Me Z.K "__init__" "Rule.__init__" o4 f):Mo Z 1 f ["self","floor","words","cells","amount","mark"] (aV Z.K c):=okm D wa bd6 #[";f~B01'bf~B0~g'Vb~W~Xa2c'Wf~B0~g'Vb~W~Xa3c'cf~B04~Yg~B05't"]
abbrev vH:Stmt:=mtop 91 1
theorem CH{c:RCl RK}(Lc:FldK Z.K c "words"){f:Addr}(D:Me Z.K "name" "Rule.name" vH f):Mo Z 1 f ["self"] (sQ Z.K c):=okm D BC bd1 #[";gjid+0'We"]
abbrev uf:Stmt:=mtop 91 2
theorem AE{c:RCl RK}(KD:FldK Z.K c "cells"){f:Addr}(D:Me Z.K "spots" "Rule.spots" uf f):Mo Z 1 f ["self"] (rJ Z.K c):=okm D At bd1 #[";gj~g~Cb~b~ra+0'cc"]
abbrev rT:Stmt:=mtop 91 3
theorem zu{c:RCl RK}(KB:FldK Z.K c "amount"){f:Addr}(D:Me Z.K "number" "Rule.number" rT f):Mo Z 1 f ["self"] (pZ Z.K c):=okm D yZ bd1 #[";gj+0~Y"]
abbrev vI:Stmt:=mtop 91 4
theorem CI{c:RCl RK}(KR:FldK Z.K c "mark"){f:Addr}(D:Me Z.K "sign" "Rule.sign" vI f):Mo Z 1 f ["self"] (sR Z.K c):=okm D BD bd1 #[";gj+0't"]
abbrev o5:Stmt:=mtop 91 8
theorem wE{c:RCl RK}(KD:FldK Z.K c "cells"){f:Addr}(D:Me Z.K "signs_at" "Rule.signs_at" o5 f):Mo Z 1 f ["self","filling"] (nt Z.K c):=okm D wc bd2 #[";gjF.x&--1 `0Eb%bbbb'X+0'c$v.i#1 @`0bub$X$id21",[".0","cell","filling"]]
abbrev rV:Stmt:=mtop 91 9
theorem lJ{c:RCl RK}(KD:FldK Z.K c "cells")(KR:FldK Z.K c "mark"){f:Addr}(D:Me Z.K "marked" "Rule.marked" rV f):Mo Z 1 f ["self","filling"] (p5 Z.K c):=okm D za bd2 #[";gjF.x&--10 `0Eb%bbbb'X+0'c$v.i#1 @`0bub$Npwdid21+3'tkl$1",[".0","cell","filling","self"]]
abbrev vJ:Stmt:=top 107
theorem CJ{t_FIGURES:Tok}(MD:Z.mg "FIGURES"=some (.str (tx [48,49,50,51,52,53,54,55,56,57]) t_FIGURES)){t_MOST_FIGURES:Tok}(LI:Z.mg "MOST_FIGURES"=some (.int 9 t_MOST_FIGURES))(D:De Z.K "number_in" vJ):vv Z:=okc Bz D BE bd1 #[";fqLUpwd0HklUp:tDbzCa0c`0klZL;pwdid0eHkl~cpGd0Hklgj~DrfqVIt~vbb~w~xaF.x&-- `1Eb%bbbb{x0$v.i#1 @`1bub$X$x~ad1`2`3cgj~Drgj~g'Yb~;~?a0c",(cK rfl LI ⟨t_MOST_FIGURES,rfl⟩),[".0","figure"],(cK rfl MD ⟨t_FIGURES,rfl⟩),(by with_unfolding_all rfl)]
abbrev qk:Stmt:=mtop 120 1
theorem yn{c:RCl RK}{d:RCl PzK}(K0:FldK Z.K d "floor"){f:Addr}(D:Me Z.K "place" "Puzzle.place" qk f):Mo Z 1 f ["self"] (oC Z.K c d):=okm D xq bd1 #[";gj+0'd"]
abbrev qm:Stmt:=mtop 120 3
theorem yo{c:RCl RK}{d:RCl PzK}(Ld:FldK Z.K d "given"){f:Addr}(D:Me Z.K "clues" "Puzzle.clues" qm f):Mo Z 1 f ["self"] (oE Z.K c d):=okm D xt bd1 #[";gj~g~Cb~b~ra+0'Zc"]
abbrev qo:Stmt:=mtop 120 4
theorem yp{c:RCl RK}{d:RCl PzK}(Lo:FldK Z.K d "laws"){f:Addr}(D:Me Z.K "rules" "Puzzle.rules" qo f):Mo Z 1 f ["self"] (oF Z.K c d):=okm D xu bd1 #[";gj~g~Cb~b~ra+0'*c"]
abbrev qp:Stmt:=top 122
theorem yq(D:De Z.K "_law_cell_at" qp):eE Z:=okc Bz D u8 bd2 #[";fqpwdt'ubzCa0ceklgjoKoAo~do~d11eo~de1erfs#2 noK{y{z0oK1t'ubzCa0c`0efqp*1t'ubzCa0cklgj2rgjoKoAo~d2eo~do~d11ee",(fun _ _=>rfl)]
abbrev ug:Stmt:=top 123
theorem AF(D:De Z.K "_law_floor" ug):tT Z:=okc Bz D xN bd1 #[";fs#1 noAeoK0efs#2 noAeoKo-0et'+bb'-'/aeao-e1cgj~oa1a2aoAeoKo-0eec"]
abbrev vK:Stmt:=top 124
theorem CK(BX_divmod:Z.mg "divmod"=none)(D:De Z.K "_law_near" vK):lQ Z:=okc Bz D BY bd2 #[";f~yt{Ab{B{Ca1aid0ec~Tb~fv.i#2 nbub~fv.i#3 nbub~Ufs#4 nycfTObBya~oaoM2ea3ca~oa2aoM3eca~oa2aoA3eca~oaoA2ea3cc~Tb~fv.i#5 nbub~fv.i#6 nbub~UgqL;':~p*e5id0e~c':~p*e6id0egYPS?[]4aoAo~d5id0e6crgj4"]
abbrev uh:Stmt:=top 127
theorem AG(D:De Z.K "_law_drawn" uh):tU Z:=okc Bz D xO bd3 #[";fs#3 n';bbb~b/a1cfs#4 nycfTOb~eb/a2cv.i#5 nbubfYPS?[]4aPS{D{E{F3aoK0tDbzCa3cccgs#0 noKo~d0eegj4"]
abbrev ui:Stmt:=top 128
theorem AH(D:De Z.K "_law_above" ui):tV Z:=okc Bz D xP bd2 #[";fs#2 nycfTObB1v.i#3 nbubgqLUpwd2ycklZp:id03id0id2'v'weklgYPS?[]2a3crgj2"]
abbrev uj:Stmt:=top 130
theorem AI(D:De Z.K "_law_signs" uj):tW Z:=okc Bz D xQ bd1 #[";gjF.x&--0 `0Eb%bbbb'?b/aeaec$v.i#1 @`0bub$Npwdo'xo~[2oM1eeekl$1",[".0","_law_sign","_law_mask"]]
abbrev uk:Stmt:=top 132
theorem AJ(D:De Z.K "_law_kinds" uk):tX Z:=okc Bz D xS bd1 fun hr hu nd=>by
 refine af ?_ ?_
 . exact(av (ak (ay hu) (pv 0) aw (aj _)) (ah (ai (aD (aa aw (aa aw (aa aw (aa aw (aa aw ae)))))))) ap)
 . refine af ?_ ?_
   . exact(av (ak (ay hu) (pv 0) aw (aj _)) (ah (ai (aD (aa aw (aa aw (aa aw ae)))))) ap)
   . refine af ?_ ?_
     . exact(kset 1 nd (aD (aa aw (aa aw (aa aw (aa aw (aa aw (aa aw ae))))))))
     . refine ah ?_
       . refine ai ?_
         . refine wT ?x ?l ?j ?p
           case x=>exact(G4 hu)
           case p=>exact(fun _ _=>rfl)
           case j=>exact(bw NY Pm Pn (lU hu) (pv 1) (aa (pv 0) ae))
           case l=>
            refine aD ?_
            . refine aa ?_ ?_
              . exact(aD (aa aw (aa aw ae)))
              . refine aa ?_ ?_
                . exact(aD (aa aw (aa aw ae)))
                . exact(aa (aD (aa aw ae)) (aa (aD (aa aw (aa aw ae))) (aa (aD (aa aw ae)) (aa (aD (aa aw ae)) ae))))
abbrev oa:Stmt:=top 11
theorem u9(KC:iI Z)(D:De Z.K "is_from_one_to" oa):jI Z:=okc Bz D uS bd2 #[";gjRm~Zha0cRx~pe0klWx~p01kl"]
abbrev CL:Stmt:=top 15
theorem GP(Lp:tR Z)(D:De Z.K "beside" CL):lG Z:=okc Bz D F4 bd2 #[";fs#2 nid0efs#3 nid0efs#4 nm'[ha0a1cfs#5 nycfqp:id4eeklgYPS?[]5aoM13crfqp:id4eeklgYPS?[]5aoM1ecrfqp*id4eoM3eklgYPS?[]5aoA1ecrfqp*id4eoM2eklgYPS?[]5aoA13crgj5"]
abbrev vL:Stmt:=top 16
theorem CM(Lp:tR Z)(D:De Z.K "is_corner" vL):vw Z:=okc Bz D BA bd2 #[";fs#2 nm'[ha0a1cgjRx*id2eoMid0eeklWx*id2eoMid0eekl"]
abbrev Ah:Stmt:=top 23
theorem Fi(MM:Cy Z)(KU:nZ Z)(D:De Z.K "without" Ah):Aa Z:=okc Bz D EF bd2 #[";gj~VIm'eha0a1coM0m{Gha1c0"]
abbrev yr:Stmt:=top 25
theorem Ds(KU:nZ Z)(D:De Z.K "signs_in" yr):gD Z:=okc Bz D Dg bd1 #[";gjF.x&--0 `0Eb%bbbb'?b/aeaoA'O'P'Q'R'S0ec$v.i#1 @`0bub$NIm'eha2a1c$1",[".0","sign","mask"]]
abbrev Ai:Stmt:=top 32
theorem Fj(KC:iI Z)(Kw:e5 Z)(D:De Z.K "is_cell" Ai):tY Z:=okc Bz D EG bd2 #[";gjRm~Zha1cRx~pe1klWx*1m~Nha0ckl"]
abbrev Aj:Stmt:=top 34
theorem Fk{c:RCl RK}(M7:GM Z c)(Lv:GDict Z.w Z.K Z.mg "RULES_OF_KIND" gd_RULES_OF_KIND)(D:De Z.K "goes_by" Aj):Ab Z c:=okc Bz D EI bd2 #[";gj'fxwd0HklWx{HQ{Ih!1{J{K0b`0`1",(fun _ _=>rfl),(by with_unfolding_all rfl)]
abbrev CN:Stmt:=top 37
theorem GQ{c:RCl RK}(KN:mX Z c)(D:De Z.K "others" CN):fK Z c:=okc Bz D Gf bd2 #[";gjF.x&--1 `0Eb%bbbbBQ~*h!0$v.i#1 @`0bub$NpGd12kl$1",[".0","spot","cell"]]
abbrev yt:Stmt:=top 40
theorem Dt(KU:nZ Z)(D:De Z.K "many_may" yt):mS Z:=okc Bz D Di bd2 #[";gjtDbzCaF.x&--1 `0Eb%bbbbB0$v.i#1 @`0bub$NIm'eha1a2c$1c",[".0","mask","sign"]]
abbrev yu:Stmt:=top 46
theorem Du{c:RCl RK}(KN:mX Z c)(D:De Z.K "ahead_of" yu):rD Z c:=okc Bz D Dj bd2 #[";fs#2 nQ~*h!0fs#3 nPS~]~^'ad2a1cgj~Vp:3ekl~F~G2~zoM3e~z3yc"]
abbrev CO:Stmt:=top 47
theorem GR{c:RCl RK}(KN:mX Z c)(D:De Z.K "behind" CO):wz Z c:=okc Bz D Gj bd2 #[";fs#2 nQ~*h!0fs#3 nPS~]~^'ad2a1cgj~F~G2~zoA3e~zoA3e"]
abbrev oe:Stmt:=top 61
theorem va(K6:pQ Z)(D:De Z.K "with_each_sign" oe):n5 Z:=okc Bz D uY bd3 #[";fs#3 nycfTObB0v.i#4 nb~hbgYPS'g'h'i3aF.x&--14 `0Eb%bbbbB2$v.i#1 @`0bub$X$m']ha3a2a1ccgj3",[".0","sign","cell","filling"]]
abbrev qq:Stmt:=top 81
theorem yw(Mh:vq Z){t_SUPPOSE:Tok}(KM:Z.mg "SUPPOSE"=some (.str (tx [115,117,112,112,111,115,101]) t_SUPPOSE))(D:De Z.K "is_supposing" qq):p9 Z:=okc Bz D xM bd1 #[";gjRm{Lha0cWxwdid0e`0kl",(cK rfl KM ⟨t_SUPPOSE,rfl⟩)]
abbrev qr:Stmt:=mtop 92 0
theorem yx{c:RCl RK}(KJ:kN Z c){f:Addr}(D:Me Z.K "holds" "Unlike.holds" qr f):Mo Z 2 f ["self","filling"] (oB Z.K c):=okm D xo bd2 #[";fs#2 n~i'jh!0a1cgjxwd'^bbbz~+2tDbzCa2ckl"]
abbrev vM:Stmt:=mtop 93 1
theorem CP{c:RCl RK}(KB:FldK Z.K c "amount")(KJ:kN Z c){f:Addr}(D:Me Z.K "holds" "Sum.holds" vM f):Mo Z 2 f ["self","filling"] (tq Z.K c):=okm D BR bd2 #[";gjxwdt'ybb'z'Aa~i'jh!0a1cc+0~Ykl"]
abbrev qu:Stmt:=mtop 94 1
theorem yy{c:RCl RK}(KJ:kN Z c){f:Addr}(D:Me Z.K "holds" "Rising.holds" qu f):Mo Z 2 f ["self","filling"] (oH Z.K c):=okm D xE bd2 #[";f~s.i#2 nb~hb~i'jh!0a1cgjt~vbb~w~xaF.x&--2 `0Eb%bbbb~eb/aoMtDbzCa2cec$v.i#1 @`0bub$X$x*id21id2oA1eklc",[".0","place","signs"]]
abbrev um:Stmt:=mtop 95 1
theorem AK{c:RCl RK}(KB:FldK Z.K c "amount")(KJ:kN Z c){f:Addr}(D:Me Z.K "holds" "Seen.holds" um f):Mo Z 2 f ["self","filling"] (rL Z.K c):=okm D Ay bd2 #[";fs#2 nefs#3 nefTObB~i'jh!0a1cv.i#4 nbubgqp:42klfs#2 n4gs#3 noA3ergjxwd3+0~Ykl"]
abbrev rW:Stmt:=mtop 96 0
theorem zv{c:RCl RK}(KB:FldK Z.K c "amount")(K1:jK Z c){f:Addr}(D:Me Z.K "holds" "Count.holds" rW f):Mo Z 2 f ["self","filling"] (p6 Z.K c):=okm D zc bd2 #[";gjxwdtDbzCa~i'kh!0a1cc+0~Ykl"]
abbrev o6:Stmt:=top 108
theorem wF(Mi:vv Z)(D:De Z.K "number_within" o6):kL Z:=okc Bz D we bd3 #[";fs#3 nm{Mha0cfqLUp{a3~DklUp*31klZp:32klg^rgj3"]
abbrev uo:Stmt:=top 118
theorem AL(KC:iI Z)(Kw:e5 Z)(D:De Z.K "is_filling" uo):tZ Z:=okc Bz D Aw bd3 #[";fqLUVIt~jb~k~la1a~m.v~n'Bb~b~rbcZpGdtDbzCa1cm~Nha0cklgjJrgjt~vbb~w~xaF.x&--02 `0Eb%bbbbB1$v.i#1 @`0bub$X$Rm~Zha1cRx~p31klWx~p1id2eklc",[".0","sign","floor","least"]]
abbrev rX:Stmt:=top 125
theorem zw(KP:lQ Z)(D:De Z.K "_law_joined" rX):rN Z:=okc Bz D wt bd2 #[";f~s.i#2 nb~hb~F~G1~-~zefs#3 nef{bOp*3tDbzCa2cklf~s.i#2 nb~hboA2F.x&--21 `0Eb%bbbbBm'Cha0aid23c$v.i#1 @`0bub$NL;p~ad13`1~cp~qd12`1$1gs#3 noA3egjxwdtDbzCa2ctDbzCa1ckl",[".0","_law_cell","_law_seen","_law_some"],(by with_unfolding_all rfl)]
abbrev vN:Stmt:=top 131
theorem CQ(KP:lQ Z)(D:De Z.K "_law_more" vN):vx Z:=okc Bz D zi bd8 #[";fs#9 noAF.x&--5 `0Eb%bbbbB4$v.i#1 @`0bub$NpGd12kl$1ya5cfs#8 noK1tDbzCa9cfs#10 nt'+bb'-'/aoAoA8eoKo-1etDbzCa9caoMtDbzCa9cecfqpwd0Hklgjyaid98crfqpwd0HklgjyaoAeoK1id2ecrfqpwd0Hklgjyaid98aid9|acrfqpwd0Hklgjyat{Nbb{O{PaeaoM5idyaeaeaid2eaoAid2eecoK1eccrfqpwd0Hklfs#11 noAF.x&--573 `1Eb%bbbb~eb/atDbzCa3cc$v.i#1 @`1bub$NL;pGd12kl~cpwdid41o~/eoM3ekl$1yaecgj~F~Gyaid|boK1tDbzCa|bcaid|boM'v'weoKo-1etDbzCa|bcc~-~zoMe~g'Yb~;~?axwd67klcrfs#12 noAm'Cha2a5cyaecfqL;pwd0Hkl~cpwdoK1eeklgjyaid|coKo-1etDbzCa|cccrgjyc",[".0","_law_one","_law_cell"],[".0","_law_at","_law_cell","_law_goal","_law_masks"]]
abbrev yz:Stmt:=top 12
theorem Dv(KF:jI Z){t_MOST_CELLS:Tok}(L4:Z.mg "MOST_CELLS"=some (.int 16 t_MOST_CELLS)){t_MOST_SIDE:Tok}(LV:Z.mg "MOST_SIDE"=some (.int 6 t_MOST_SIDE)){t_MOST_SIGNS:Tok}(L5:Z.mg "MOST_SIGNS"=some (.int 6 t_MOST_SIGNS))(D:De Z.K "floor_of" yz):yd Z:=okc Bz D Dd bd3 #[";fqVIm'lha0a`0cg^rfqVIm'lha1a`0cg^rfqp:o~d01`1klg^rfqVIm'lha2a`2cg^rgj~oa0a1a2c",(cK rfl LV ⟨t_MOST_SIDE,rfl⟩),(cK rfl L4 ⟨t_MOST_CELLS,rfl⟩),(cK rfl L5 ⟨t_MOST_SIGNS,rfl⟩)]
abbrev Ak:Stmt:=top 18
theorem Fl(Mj:vw Z)(Kw:e5 Z)(Ml:vp Z)(D:De Z.K "squares" Ak):t5 Z:=okc Bz D ED bd1 #[";gjF.x&--0 `0Eb%bbbb~eb/am~Nha0cc$v.i#1 @`0bub$NIm{Qha2a1c$m{Rha2a1c",[".0","cell","floor"]]
abbrev Al:Stmt:=top 19
theorem Fm(KG:lG Z)(D:De Z.K "reached" Al):t6 Z:=okc Bz D EL bd3 #[";fqp~qd21`0gjycrfs#3 nya2cfs#4 nef{bOp*4tDbzCa3cklfTObBm~Oha0aid34cv.i#5 nbubgqL;p~ad51`0~cp~qd53`0gYPS?[]3a5crgs#4 noA4egjt~Hb~t~Ia3c",(by with_unfolding_all rfl)]
abbrev yA:Stmt:=top 24
theorem Dw(ME:Aa Z)(D:De Z.K "has_only" yA):kM Z:=okc Bz D Df bd2 #[";gjxwdm{Sha0a1cekl"]
abbrev GS:Stmt:=top 28
theorem IU(Ky:gD Z)(D:De Z.K "ways" GS):GL Z:=okc Bz D Iy bd1 #[";fs#1 nefTObB0v.i#2 nbubgs#1 no~d1tDbzCam~Jha2ccgj1"]
abbrev Am:Stmt:=top 33
theorem Fn(KF:jI Z)(D:De Z.K "is_sign" Am):t7 Z:=okc Bz D EH bd2 #[";gjm'lha1aid0ec"]
abbrev qv:Stmt:=top 35
theorem yB{c:RCl RK}{d:RCl PzK}(MF:Ab Z c)(KC:iI Z)(KH:lI Z c d)(KN:mX Z c)(D:De Z.K "has_its_rule" qv):qb Z c d:=okc Bz D xv bd4 #[";fqLUVIm~Zha2cZp*2eklgjJrfqpwd1Hklgjxwd2eklrfs#4 nQ~Ph!0fqp'm2tDbzCa4cklgjJrgjRm{Tha1aid42cWx~ad3Q~*h!id42`0",(by with_unfolding_all rfl)]
abbrev o7:Stmt:=top 48
theorem wG(Ky:gD Z)(D:De Z.K "is_no_greater" o7):oQ Z:=okc Bz D wm bd2 #[";gjt~vbb~w~xaF.x&--0 `0Eb%bbbbBm~Jha1c$v.i#1 @`0bub$X$x~p21klc",[".0","other","sign"]]
abbrev uq:Stmt:=top 49
theorem AM(Ky:gD Z)(D:De Z.K "is_no_less" uq):t8 Z:=okc Bz D Ax bd2 #[";gjt~vbb~w~xaF.x&--0 `0Eb%bbbbBm~Jha1c$v.i#1 @`0bub$X$x'm21klc",[".0","other","sign"]]
abbrev qw:Stmt:=top 52
theorem yC{c:RCl RK}(K7:kR Z)(Kx:fK Z c)(Ky:gD Z)(D:De Z.K "pair_strikes" qw):qc Z c:=okc Bz D xB bd5 #[";fqVIm{Uham~Aha0a2ca4cgjJrfs#5 nm~Jhao{Vid1id4eid1id4ecgjx~ptDbzCaF.x&--3 `0Eb%bbbbB5$v.i#1 @`0bub$NpGd12kl$1cekl",[".0","other","sign"]]
abbrev o8:Stmt:=top 54
theorem wH{c:RCl RK}{d:RCl PzK}(Le:rD Z c)(LJ:wz Z c)(Kx:fK Z c)(KH:lI Z c d)(D:De Z.K "rests_by_line" o8):oR Z c d:=okc Bz D tJ bd2 #[";fs#2 nid1efqpwd2HklgjycrfqLUpwd2HklZpwd2Hklgjt~Hb~t~Iaid1ecrfs#3 nidQ~Ph!0id1efqpwd2Hklgjt~Hb~t~Iam~Aha3aid1eccrgjt~Hb~t~IaoAm{cha3aid1ecm{dha3aid1ecc"]
abbrev rY:Stmt:=top 59
theorem zx{c:RCl RK}(Lq:tS Z)(Kz:gC Z)(Kx:fK Z c)(Ky:gD Z)(La:wC Z c)(D:De Z.K "sum_strikes" rY):rO Z c:=okc Bz D y9 bd5 #[";fqpGd4ycklgjJrfs#5 nm~Kha1am~Aha0a2ccfqIm{eha5cgjJrfs#6 noA3t'ybb'z'AaF.x&-- `0Eb%bbbbB5$v.i#1 @`0bub$X$idm~Jha1cecfs#7 noA3t'ybb'z'AaF.x&-- `0Eb%bbbbB5$v.i#1 @`0bub$X$idm~Jha1c'v'wecgj'fx:6Q'nh!0klWx*7Q'nh!0kl",[".0","mask"]]
abbrev mF:Stmt:=top 64
theorem ur{c:RCl RK}{d:RCl PzK}(Kx:fK Z c)(KH:lI Z c d)(D:De Z.K "rests_by_number" mF):mB Z c d:=okc Bz D rp bd2 #[";gjt~Hb~t~Iam~AhaidQ~Ph!0id1eaid1ecc"]
abbrev CS:Stmt:=top 70
theorem GT(KG:lG Z)(D:De Z.K "around" CS):wA Z:=okc Bz D Gu bd3 #[";gjF.x&--2 `0Eb%bbbbBm~Oha0a1c$v.i#1 @`0bub$NpGd12kl$1",[".0","other","cell"]]
abbrev jS:Stmt:=mtop 99 1
theorem pR{c:RCl RK}(KG:lG Z)(KI:FldK Z.K c "floor"){f:Addr}(D:Me Z.K "has_two_beside" "Ring.has_two_beside" jS f):Mo Z 3 f ["self","cells","cell"] (jd Z.K c):=okm D pH bd3 #[";gjxwdtDbzCaF.x&--1 `0Eb%bbbbBm~Oha+0'ba2c$v.i#1 @`0bub$Np~ad12`1$1cekl",[".0","other","cells"],(by with_unfolding_all rfl)]
abbrev qx:Stmt:=top 109
theorem yD(KS:kL Z)(D:De Z.K "first_within" qx):qd Z:=okc Bz D xi bd3 #[";fqpwd0ycklg^rgjm{fhaid0ea1a2c"]
abbrev ut:Stmt:=top 110
theorem AN(Kw:e5 Z)(KS:kL Z)(D:De Z.K "told_cells" ut):t9 Z:=okc Bz D Au bd2 #[";f{g.k#2 nbubb.x&--0 `0Eb%bbbbB1$v.i#1 @`0bub$X$m{fha1aeaoMm~Nha2cecfqpwd2ycklg^rfqpGd'^bbbz~+2tDbzCa2cklg^rgj2",[".0","word","floor"]]
abbrev An:Stmt:=top 112
theorem Fo{c:RCl RK}(MX:aO Z "Count" (c.A .Count) c)(MN:aO Z "Joined" (c.A .Joined) c)(Mx:aO Z "NoSquare" (c.A .NoSquare) c)(M8:aO Z "Ring" (c.A .Ring) c)(MO:aO Z "Rising" (c.A .Rising) c)(M9:aO Z "Seen" (c.A .Seen) c)(K_Sum:aO Z "Sum" (c.A .Sum) c)(MP:aO Z "Unlike" (c.A .Unlike) c)(D:De Z.K "rule_by" An):Ac Z c:=okc Bz D EE bd5 #[";fs#5 nid1efqpwd5Hklgj~E{Wh!ba0a1a2a3a4crfqpwd5Hklgj~E{Xh!ba0a1a2a3a4crfqpwd5Hklgj~E{Yh!ba0a1a2a3a4crfqpwd5Hklgj~E{Zh!ba0a1a2a3a4crfqpwd5Hklgj~E{*h!ba0a1a2a3a4crfqpwd5Hklgj~E{+h!ba0a1a2a3a4crfqpwd5Hklgj~E{-h!ba0a1a2a3a4crfqpwd5Hklgj~E{/h!ba0a1a2a3a4crg^"]
abbrev o9:Stmt:=top 119
theorem wI(L6:tZ Z)(D:De Z.K "checked_clues" o9):oS Z:=okc Bz D wg bd2 #[";fqVIm{:ha0a1aecg^rgj~g~Cb~b~ra1c"]
abbrev pb:Stmt:=top 126
theorem wJ(LW:rN Z)(KP:lQ Z)(D:De Z.K "_law_by_floor" pb):oU Z:=okc Bz D tH bd4 #[";f~s.i#5 nb~hbF.x&--13 `0Eb%bbbb~eb/atDbzCa1cc$v.i#1 @`0bub$Npwdid213kl$1fqpwd2HklfTObB5v.i#4 nbubfs#6 nya4aoA4eaoA4id0eaoAoA4id0eecgqL;p:oKoA4eid0eekl~cpwdF.x&--5 `1Eb%bbbbB6$v.i#1 @`1bub$Np~qd12`2$1ycklgjJrgjJrfqVIm{;ha0a5cgjJrfqpwd2HklgjJrgjxwdF.x&--05 `3Eb%bbbbB5$v.i#1 @`3bub$NpGdtDbzCaF.x&--3 `1Eb%bbbbBm'Cha2a1c$v.i#1 @`1bub$Np~ad12`2$1cekl$1yckl",[".0","_law_cell","_law_filling","_law_sign"],[".0","_law_one","_law_some"],(by with_unfolding_all rfl),[".0","_law_cell","_law_floor_here","_law_some"]]
abbrev qy:Stmt:=top 133
theorem yE(L7:tX Z)(Mm:vx Z)(L8:tW Z)(D:De Z.K "_law_thought" qy):lH Z:=okc Bz D uZ bd4 #[";fs#4 noKo-0etDbzCa2cf~yid24~Tb~fv.i#5 nbub~fv.i#6 nbub~fv.i#7 nbub~fv.i#8 nbub~Ufs#9 nid6oKo-0etDbzCa6cfs#10 noAm{?haid39cyaecfs#11 nid|aoKo-0etDbzCa|acfqpwdoK0eeklgj~oaHaea9a|bayccrfs#12 nm{[ha5cfs#13 nid|coKo-0etDbzCa|ccgj~oa|da4a9a|bam{]ha|dao-0ea1a3a6a9a|ba7cc"]
abbrev vO:Stmt:=top 36
theorem CT{c:RCl RK}{d:RCl PzK}(LK:qb Z c d)(Lr:tY Z)(Ls:t7 Z)(KC:iI Z)(KZ:qi Z c d)(MY:GTup Z.K Z.mg "KINDS" qX)(D:De Z.K "is_formed" vO):vy Z c d:=okc Bz D BK bd2 #[";fqLUVIt~jb~k~la1a~m.v~n'sb~W~XbcUpGdtDbzCa1ceklZ{h{^id1ebgjJrfs#2 nQ'oh!0fqLUVIm{iha2aid1ecZVIm{jha2aid1ecgjJrfqVIm}aha0aid1eaid1eaid1ecgjJrgjRt~jb~k~laid1ea~m.v~n'Bb~b~rbcWt~vbb~w~xaF.x&-- `0Eb%bbbbBid1e$v.i#1 @`0bub$X$m~Zha1cc",[".0","part"]]
abbrev vP:Stmt:=top 39
theorem CU(KK:kM Z)(D:De Z.K "many_only" vP):lR Z:=okc Bz D BP bd2 #[";gjtDbzCaF.x&--1 `0Eb%bbbbB0$v.i#1 @`0bub$NIm'pha1a2c$1c",[".0","mask","sign"]]
abbrev qz:Stmt:=top 44
theorem yF{c:RCl RK}(KK:kM Z)(Kx:fK Z c)(D:De Z.K "only_strikes" qz):qe Z c:=okc Bz D xy bd5 #[";gjRxwdtDbzCa4ceklRx~adid4em~Aha0a2c`0Wm'phaid1id4ea3c",(by with_unfolding_all rfl)]
abbrev pc:Stmt:=top 45
theorem wK{c:RCl RK}(Ls:t7 Z)(KQ:mS Z)(Kz:gC Z)(Kx:fK Z c)(KN:mX Z c)(D:De Z.K "place_strikes" pc):oV Z c:=okc Bz D wk bd6 #[";fqLUpGdtDbzCaQ~*h!1cid0eklZpGdtDbzCa5ceklgjJrfqLUpwdid5e4klZVIm{jha0aid5ecgjJrgjxwdm'qham~Kha2am~Aha1a3ccaid5ecekl"]
abbrev qA:Stmt:=top 50
theorem yG{c:RCl RK}(Le:rD Z c)(LJ:wz Z c)(Lw:oQ Z)(L9:t8 Z)(D:De Z.K "step_strikes" qA):qf Z c:=okc Bz D xC bd5 #[";fqpGd4ycklgjJrfqIt'Dbb'E'FaF.x&--13 `0Eb%bbbbBm{cha0a2c$v.i#1 @`0bub$X$m}bha3aid21ccgjJrgjt'Dbb'E'FaF.x&--13 `0Eb%bbbbBm{dha0a2c$v.i#1 @`0bub$X$m}cha3aid21cc",[".0","other","masks","sign"]]
abbrev og:Stmt:=top 66
theorem vb(Lu:t5 Z)(D:De Z.K "rest_of_square" og):jJ Z:=okc Bz D uT bd3 #[";fTObBm{kha0cv.i#3 nbubgqL;pwdid3e1kl~cp~ad23`0gjF.x&--2 `1Eb%bbbbB3$v.i#1 @`1bub$NpGd12kl$1rgjyc",(by with_unfolding_all rfl),[".0","other","cell"]]
abbrev jg:Stmt:=top 68
theorem oq(KK:kM Z)(Lr:tY Z)(D:De Z.K "is_another_with_only" jg):jf Z:=okc Bz D oj bd5 #[";gjRm{iha0a3cRxGd32klWm'phaid13a4c"]
abbrev lZ:Stmt:=mtop 97 1
theorem kW{c:RCl RK}(K5:t6 Z)(KI:FldK Z.K c "floor"){f:Addr}(D:Me Z.K "is_joined" "Joined.is_joined" lZ f):Mo Z 4 f ["self","cells"] (kP Z.K c):=okm D sd bd2 #[";gj'fxwd1ycklWxwdm'Gha+0'ba1aid1ec1kl"]
abbrev oh:Stmt:=mtop 98 0
theorem vc{c:RCl RK}(Mn:vt Z)(Lu:t5 Z)(KI:FldK Z.K c "floor")(K1:jK Z c){f:Addr}(D:Me Z.K "holds" "NoSquare.holds" oh f):Mo Z 4 f ["self","filling"] (my Z.K c):=okm D uX bd2 #[";f~s.i#2 nb~hb~i'kh!0a1cgj'Kt'Dbb'E'FaF.x&--2 `0Eb%bbbbBm{kha+0'bc$v.i#1 @`0bub$X$m}dha1a2cc",[".0","square","cells"]]
abbrev yH:Stmt:=top 111
theorem Dx(Kw:e5 Z)(Ma:t9 Z)(LL:GTup Z.K Z.mg "OF_ALL_CELLS" gZ)(D:De Z.K "cells_of" yH):ye Z:=okc Bz D Da bd3 #[";fq{h}e1bgjm}fha0a2crfqpGd2ycklg^rgj';bbb~b/am~Nha0cc"]
abbrev pe:Stmt:=top 116
theorem wL(My:yd Z)(D:De Z.K "checked_floor" pe):oW Z:=okc Bz D wf bd1 #[";fqLUVIt~jb~k~la0a~m.v~n'sb~W~XbcZpGdtDbzCa0ceklg^rgjm}ghaid0eaid0eaid0ec"]
abbrev vQ:Stmt:=top 129
theorem CV(Lx:tV Z)(Ly:oU Z)(Lz:tU Z)(D:De Z.K "_law_rule" vQ):vz Z:=okc Bz D zg bd3 fun hr hu nd=>by
 refine af ?_ ?_
 . exact(kset 3 nd (aq aA rfl Bz.len_ aI (aa (pv 2) ae)))
 . refine af ?_ ?_
   . refine dn (i:=4) ?n ?a ?b ?e ?c ?d
     case n=>exact nd
     case a=>exact rfl
     case b=>exact Or.inl rfl
     case d=>exact .inl rfl
     case c=>rfl
     case e=>
      refine wT ?x ?l ?j ?p
      case x=>exact(G4 hu)
      case p=>exact(fun _ _=>rfl)
      case j=>exact(am aK (pv 0) ag)
      case l=>
       refine aD ?_;refine iD aw ?_;refine iD aw ?_;refine iD aw ?_;refine iD aw ?_;refine iD aw ?_;refine iD aw ?_;refine iD aw ?_;refine iD aw ?_;exact ae
   . refine af ?_ ?_
     . exact(dn (i:=5) nd rfl (Or.inr rfl) (am ax ag (am aK (am bu (pv 0) ag) (kix hu (pv 1) ag))))
     . refine af ?_ ?_
       . exact(kset 6 nd (kcal Lz hr (aa (am aK (am bu (pv 0) ag) ag) (aa (pv 3) (aa (am ax ag (am aK (am bu (pv 0) ag) (aq (ou rfl) rfl Bz.min_ wY (aa (pv 3) (aa ag ae))))) ae)))))
       . refine af ?_ ?_
         . exact(av (Pw (dm (ak dq (am aK (pv 0) ag) ag (aj _)) (dg (aP (kcal Ly hr (aa (pv 1) (aa (pv 2) (aa (pv 4) (aa (pv 5) ae))))))))) (ah (ai (dc (aa (pv 4) (aa (pj rfl rfl rfl Bz.list_ Bz.range_ (aa (pv 3) ae)) (aa (pv 5) (aa (am ax (am ax (pv 4) aw) (bc gf rfl Bz.str_ jU (aa (pv 5) ae))) ae))))))) ap)
         . refine af ?_ ?_
           . exact(kset 8 nd (bw P1 Qu Qv sP aw (aa (aG (ix:=[none,none]) [".0","_law_cell"] (aF rfl (by decide+kernel) rfl rfl rfl) rfl (aB (pv 6)) (fun cl s H fp=>(au (i:=1) (show([".0","_law_cell"]:List Str).Nodup by decide+kernel) rfl (Or.inl rfl))) (fun cl s H fp=>aX) (fun cl s H fp=>(bc gf rfl Bz.str_ jU (aa (pv 1) ae)))) ae)))
           . refine af ?_ ?_
             . exact(av (ak (ay hu) (pv 4) aw (aj _)) (ah (ai (dc (aa (pv 4) (aa (pv 6) (aa ag (aa (am ax (am ax (am ax aw (bc gf rfl Bz.str_ jU (aa (aq (ow rfl) rfl Bz.sum_ xb (aa (aG (ix:=[none,none,some 2]) [".0","_law_cell","_law_filling"] (aF rfl (by decide+kernel) rfl rfl rfl) rfl (aB (pv 6)) (fun cl s H fp=>(au (i:=1) (show([".0","_law_cell","_law_filling"]:List Str).Nodup by decide+kernel) rfl (Or.inl rfl))) (fun cl s H fp=>aX) (fun cl s H fp=>(kix hu (pv 2) (pv 1)))) ae)) ae))) aw) (pv 8)) ae))))))) ap)
             . refine af ?_ ?_
               . exact(av (ak (ay hu) (pv 4) aw (aj _)) (ah (ai (dc (aa (pv 4) (aa (pv 6) (aa ag (aa (am ax (am ax (am ax aw (bc gf rfl Bz.str_ jU (aa (aq aA rfl Bz.len_ aI (aa (kcal Lx hr (aa (pv 2) (aa (pv 6) ae))) ae)) ae))) aw) (pv 8)) ae))))))) ap)
               . refine af ?_ ?_
                 . exact(av (ak (ay hu) (pv 4) aw (aj _)) (af (kset 9 nd (aq aA rfl Bz.len_ aI (aa (aG (ix:=[none,none,some 2,some 5]) [".0","_law_cell","_law_filling","_law_sign"] (aF rfl (by decide+kernel) rfl rfl rfl) rfl (aB (pv 6)) (fun cl s H fp=>(au (i:=1) (show([".0","_law_cell","_law_filling","_law_sign"]:List Str).Nodup by decide+kernel) rfl (Or.inl rfl))) (fun cl s H fp=>(a8 (ak (ay hu) (kix hu (pv 2) (pv 1)) (pv 3) (aj _)))) (fun cl s H fp=>(pv 1))) ae))) (ah (ai (dc (aa (pv 4) (aa (pv 6) (aa (pv 5) (aa (am ax (am ax (am ax (am ax (am ax aw (bc gf rfl Bz.str_ jU (aa (pv 9) ae))) aw) (bc gf rfl Bz.str_ jU (aa (pv 5) ae))) aw) (pv 8)) ae)))))))) ap)
                 . refine af ?_ ?_
                   . exact(av (ak (ay hu) (pv 4) aw (aj _)) (af (kset 6 nd (kcal Lx hr (aa (pv 2) (aa (pv 6) ae)))) (ah (ai (dc (aa (pv 4) (aa (pv 6) (aa ag (aa (am ax aw (bw P1 Qu Qv sP aw (aa (aG (ix:=[none,none]) [".0","_law_cell"] (aF rfl (by decide+kernel) rfl rfl rfl) rfl (aB (pv 6)) (fun cl s H fp=>(au (i:=1) (show([".0","_law_cell"]:List Str).Nodup by decide+kernel) rfl (Or.inl rfl))) (fun cl s H fp=>aX) (fun cl s H fp=>(bc gf rfl Bz.str_ jU (aa (pv 1) ae)))) ae))) ae)))))))) ap)
                   . refine af ?_ ?_
                     . exact(kset 10 nd (aD ae))
                     . refine af ?_ ?_
                       . exact(bn Og rfl (aB (kcal Lz hr (aa (am aK (am bu (pv 0) ag) ag) (aa (pv 3) (aa (pv 3) ae))))) (au (i:=7) nd rfl (Or.inl rfl)) (ah (av (ak (cR hu) (kix hu (pv 2) (pv 7)) (aG (ix:=[none,none,some 2]) [".0","_law_one","_law_filling"] (aF rfl (by decide+kernel) rfl rfl rfl) rfl (aB (pv 10)) (fun cl s H fp=>(au (i:=1) (show([".0","_law_one","_law_filling"]:List Str).Nodup by decide+kernel) rfl (Or.inl rfl))) (fun cl s H fp=>aX) (fun cl s H fp=>(kix hu (pv 2) (pv 1)))) (by with_unfolding_all rfl)) (ah (bG (bw NY On Oo bx (pv 10) (aa (pv 7) ae)))) ap)))
                       . refine ah ?_
                         . refine ai ?_
                           . refine dc ?_
                             . refine aa ?_ ?_
                               . exact aw
                               . refine aa ?_ ?_
                                 . exact(pv 10)
                                 . refine aa ?_ ?_
                                   . exact ag
                                   . refine aa ?_ ?_
                                     . exact(am ax aw (bw P1 Qu Qv sP aw (aa (aG (ix:=[none,none]) [".0","_law_cell"] (aF rfl (by decide+kernel) rfl rfl rfl) rfl (aB (pv 10)) (fun cl s H fp=>(au (i:=1) (show([".0","_law_cell"]:List Str).Nodup by decide+kernel) rfl (Or.inl rfl))) (fun cl s H fp=>aX) (fun cl s H fp=>(bc gf rfl Bz.str_ jU (aa (pv 1) ae)))) ae)))
                                     . exact ae
abbrev mG:Stmt:=top 53
theorem uu{c:RCl RK}{d:RCl PzK}(LM:p8 Z)(LN:qe Z c)(LO:qc Z c)(LA:oV Z c)(LP:qf Z c)(MZ:Ef Z c d)(KZ:qi Z c d)(KH:lI Z c d)(D:De Z.K "strikes_by_line" mG):mC Z c d:=okc Bz D sh bd3 #[";fs#3 nid2efs#4 nid2efs#5 nid2efs#6 nid2efqpwd3Hklgjm}hhaQ}ih!0a4a5a6crfs#7 nidQ~Ph!0id2efqpwd3Hklgjm}jha7a1a4a5a6crfqpwd3Hklgjm}khaQ'oh!0a7a1a4a5a6crfqpwd3Hklgjm}lha7a1a4a5a6crgjm}mha7a1a4a5a6c"]
abbrev pf:Stmt:=top 58
theorem wM{c:RCl RK}(KQ:mS Z)(KL:lR Z)(Kz:gC Z)(Kx:fK Z c)(La:wC Z c)(K3:ud Z c)(D:De Z.K "count_strikes" pf):oX Z c:=okc Bz D wl bd5 #[";fqpGd4ycklgjJrfs#5 nm~Kha1am~Aha0a2ccfqpwd3Q~:h!0klgjx'mm'rha5a3cQ'nh!0klrgjx*m'qha5aQ~:h!0cQ'nh!0kl"]
abbrev oi:Stmt:=top 67
theorem vd{c:RCl RK}(KL:lR Z)(Kz:gC Z)(KO:jJ Z)(K3:ud Z c)(D:De Z.K "square_strikes" oi):n6 Z c:=okc Bz D uU bd6 #[";fqLUpGd4Q~:h!1klZpGdtDbzCa5ceklgjJrfs#6 nm{lha0aid5ea3cgjRxGd6ycklWxwdm'rham~Kha2a6ca4ctDbzCa6ckl"]
abbrev ph:Stmt:=top 69
theorem wN{c:RCl RK}(K2:jf Z)(Kx:fK Z c)(K5:t6 Z)(KU:nZ Z)(K3:ud Z c)(D:De Z.K "reach_strikes" ph):oY Z c:=okc Bz D wo bd6 #[";f~s.i#6 nb~hbQ~:h!1fqVIt~vbb~w~xaF.x&--3062 `0Eb%bbbbB5$v.i#1 @`0bub$X$m}nha3a5a2a1a4ccgjJrf{g.k#7 nbubb.x&--62 `1Eb%bbbbBm~Aha1a3c$v.i#1 @`1bub$NIm'ehaid31a2c$1fqpwd46klgjRxwdtDbzCa5ceklWx~qdid5em'Gha0aoA7ya3ca3c`2rfqLUpGdtDbzCa5ceklZpwdid5eid5eklgjJrgjx~qdid5em'Gha0a7aid5ec`2",[".0","other","cell","floor","mark","masks"],[".0","other","mark","masks"],(by with_unfolding_all rfl)]
abbrev qB:Stmt:=top 71
theorem yI{c:RCl RK}(LQ:wA Z)(KG:lG Z)(KK:kM Z)(KQ:mS Z)(KL:lR Z)(Kz:gC Z)(K3:ud Z c)(D:De Z.K "turn_strikes" qB):qg Z c:=okc Bz D xK bd6 #[";fs#6 nQ~:h!1fqpwd5ycklfs#7 nm~Kha2am~Oha0a3ccgjRxwd46klW'fx*m'qha7a6ceklWx:m'rha7a6ceklrfqLUpGdtDbzCa5ceklUp~qdid5em~Oha0a3c`0ZVIm'phaid2id5ea6cgjJrfs#7 nm~Kha2am{mha0aid5ea3ccfqpwd46klgjx'mm'rha7a6ceklrgjx*m'qha7a6cekl",(by with_unfolding_all rfl)]
abbrev mH:Stmt:=top 73
theorem uv{c:RCl RK}{d:RCl PzK}(LQ:wA Z)(KG:lG Z)(Kw:e5 Z)(KO:jJ Z)(KZ:qi Z c d)(D:De Z.K "rests_by_region" mH):mD Z c d:=okc Bz D rA bd2 #[";fs#2 nQ'oh!0f~s.i#3 nb~hbid1efs#4 nid1efqpwdid1eHklgjt~Hb~t~Iam{lha2aid4ea3ccrfqpwdid1eHklgjF.x&--3 `0Eb%bbbb~eb/am~Nha2cc$v.i#1 @`0bub$NpGd12kl$1rfqpwd4ycklgjm~Oha2a3crgjt~Hb~t~IaoAm{mha2aid4ea3cyaid4ecc",[".0","other","cell"]]
abbrev qC:Stmt:=mtop 97 0
theorem yJ{c:RCl RK}(Mp:lS Z c)(K1:jK Z c){f:Addr}(D:Me Z.K "holds" "Joined.holds" qC f):Mo Z 5 f ["self","filling"] (oJ Z.K c):=okm D xG bd2 #[";gj~i{nh!0a~i'kh!0a1cc"]
abbrev uw:Stmt:=mtop 99 0
theorem AO{c:RCl RK}(MQ:n9 Z c)(Mp:lS Z c)(K1:jK Z c){f:Addr}(D:Me Z.K "holds" "Ring.holds" uw f):Mo Z 5 f ["self","filling"] (rM Z.K c):=okm D Az bd2 #[";f~s.i#2 nb~hb~i'kh!0a1cgjR~i{nh!0a2cWt~vbb~w~xaF.x&--20 `0Eb%bbbbB2$v.i#1 @`0bub$X$~i}oh!3a2a1cc",[".0","cell","cells","self"]]
abbrev vR:Stmt:=top 113
theorem CW{c:RCl RK}(Mz:ye Z)(Lf:qd Z)(MG:Ac Z c){t_MOST_NUMBER:Tok}(LX:Z.mg "MOST_NUMBER"=some (.int 99 t_MOST_NUMBER))(LY:GTup Z.K Z.mg "WITH_NUMBER" iH)(Mq:GTup Z.K Z.mg "WITH_SIGN" ib)(D:De Z.K "read_rule" vR):vA Z c:=okc Bz D BH bd2 #[";fqVIt~jb~k~la1a~m.v~n}pb}q}rbcg^rfs#2 nP}s}t}u}v1aHcfs#3 nid2efs#4 n~F~G2~ze~-fs#5 nefs#6 nefq~Q}w3bfs#5 nm{oha4aea`0cgs#4 n~F~G4~ze~-rfq~Q}x3bfs#6 nm{oha4aeaid0ecgs#4 n~F~G4~ze~-rgjm}yha0a2am}zha0a3a4ca5a6c",(cK rfl LX ⟨t_MOST_NUMBER,rfl⟩)]
abbrev qD:Stmt:=top 62
theorem yK{c:RCl RK}(Lq:tS Z)(Kz:gC Z)(Kx:fK Z c)(Ky:gD Z)(Na:GL Z)(Lk:n5 Z)(K6:pQ Z){t_MOST_WAYS:Tok}(Mr:Z.mg "MOST_WAYS"=some (.int 32 t_MOST_WAYS))(M0:Eg Z c)(D:De Z.K "ways_strikes" qD):qh Z c:=okc Bz D xI bd5 #[";fs#5 nm~Aha0a2cfs#6 nm~Kha1a5cfqLUpGd4ycklZp:m}Aha6c`0klgjJrfqIm{eha6cgjJrfs#7 nyam']hao}ByaectDbzCa1ca2a3ccfTObB5v.i#8 nbubgs#7 nm}Cha7a8am~Jhaid18ccfTObB7v.i#9 nbubgqI~i}Dh!0a9cgjJrgjJ",(cK rfl Mr ⟨t_MOST_WAYS,rfl⟩)]
abbrev kX:Stmt:=top 72
theorem rF{c:RCl RK}{d:RCl PzK}(LB:oY Z c)(Lm:n6 Z c)(LR:qg Z c)(KZ:qi Z c d)(KH:lI Z c d)(D:De Z.K "strikes_by_region" kX):kS Z c d:=okc Bz D pI bd3 #[";fs#3 nQ'oh!0fs#4 nidQ~Ph!0id2efqpwdid2eHklgjm}Eha3a4a1aid2eaid2eaid2ecrfqpwdid2eHklgjm}Fha3a4a1aid2eaid2eaid2ecrgjm}Gha3a4a1aid2eaid2eaid2ec"]
abbrev yL:Stmt:=top 77
theorem Dy{c:RCl RK}{d:RCl PzK}(LC:oR Z c d)(Lg:mB Z c d)(Lh:mD Z c d)(K4:GTup Z.K Z.mg "LINE_KINDS" fh)(KW:GTup Z.K Z.mg "NUMBER_KINDS" dh)(D:De Z.K "rests_on" yL):gE Z c d:=okc Bz D AB bd2 #[";fq~Q{pid1ebgjm}Hha0a1crfq~Q{qid1ebgjm}Iha0a1crgjm}Jha0a1c"]
abbrev ux:Stmt:=top 117
theorem AQ{c:RCl RK}(Ms:vA Z c){t_MOST_RULES:Tok}(Mb:Z.mg "MOST_RULES"=some (.int 12 t_MOST_RULES))(D:De Z.K "read_rules" ux):ua Z c:=okc Bz D Av bd2 #[";fqp:tDbzCa1c`0klg^rgjF.x&--0 `1Eb%bbbbB1$v.i#1 @`1bub$X$m}Kha2a1c",(cK rfl Mb ⟨t_MOST_RULES,rfl⟩),[".0","line","floor"]]
abbrev kY:Stmt:=top 63
theorem rG{c:RCl RK}{d:RCl PzK}(LD:oX Z c)(LZ:rO Z c)(LS:qh Z c)(KH:lI Z c d)(D:De Z.K "strikes_by_number" kY):kT Z c d:=okc Bz D pJ bd3 #[";fs#3 nidQ~Ph!0id2efqpwdid2eHklgjm}Lha3a1aid2eaid2eaid2ecrfqpwdid2eHklgjm}Mha3a1aid2eaid2eaid2ecrgjm}Nha3a1aid2eaid2eaid2ec"]
abbrev yM:Stmt:=top 88
theorem Dz{c:RCl RK}{d:RCl PzK}(KA:gE Z c d){t_SUPPOSE:Tok}(KM:Z.mg "SUPPOSE"=some (.str (tx [115,117,112,112,111,115,101]) t_SUPPOSE))(D:De Z.K "bears_on" yM):yf Z c d:=okc Bz D Cp bd2 #[";fqpGdid1e`0klgjm~Rha0a1crfs#2 nycfTObBid1ev.i#3 nbubfYPS?[]2aid3ecgYPS'g'h'i2a~ucgj'Hbbb~t~+F.x&--1 `1Eb%bbbbB2$v.i#1 @`1bub$NpGd1id2ekl$1",(cK rfl KM ⟨t_SUPPOSE,rfl⟩),[".0","cell","thought"]]
abbrev mI:Stmt:=mtop 120 0
theorem uy{c:RCl RK}{d:RCl PzK}(LE:oS Z)(LF:oW Z)(Mc:ua Z c)(K0:FldK Z.K d "floor")(Ld:FldK Z.K d "given")(Lo:FldK Z.K d "laws"){f:Addr}(D:Me Z.K "__init__" "Puzzle.__init__" mI f):Mo Z 7 f ["self","floor","lines","clues"] (df Z.K c d):=okm D sU bd4 #[";f~B0m}Oha1c'df~B0m}Pha+0'da2c'*g~B0m}Qha+0'da3c'Z"]
abbrev yN:Stmt:=top 136
theorem DA{c:RCl RK}{d:RCl PzK}(KA:gE Z c d)(D:De Z.K "_law_due" yN):yg Z c d:=okc Bz D zn bd2 #[";fqpGdid1eHklgjm~Rha0a1crf~s.i#2 nb~hb'IfTObBid1ev.i#3 nbubgTObBoA~uyaid3ecv.i#4 nbubg~yJ~L24~MdgjF.x&--21 `0Eb%bbbb~eb/aec$v.i#1 @`0bub$NL;p~ad12`1~cpGd1id3ekl$1",[".0","_law_cell","_law_found","_law_thought_here"],(by with_unfolding_all rfl)]
abbrev Ao:Stmt:=top 75
theorem Fp{c:RCl RK}{d:RCl PzK}(Li:mC Z c d)(K8:kT Z c d)(K9:kS Z c d)(K4:GTup Z.K Z.mg "LINE_KINDS" fh)(KW:GTup Z.K Z.mg "NUMBER_KINDS" dh)(D:De Z.K "strikes" Ao):Ad Z c d:=okc Bz D Dk bd3 #[";fq~Q{pid2ebgjm}Rha0a1a2crfq~Q{qid2ebgjm}Sha0a1a2crgjm}Tha0a1a2c"]
abbrev AR:Stmt:=top 88
theorem zy{c:RCl RK}{d:RCl PzK}(MA:yf Z c d)(KA:gE Z c d){t_SUPPOSE:Tok}(KM:Z.mg "SUPPOSE"=some (.str (tx [115,117,112,112,111,115,101]) t_SUPPOSE))(D:De Z.K "bears_on" AR):rP Z c d:=okc Bz D Cq bd2 #[";fqpGdid1e`0klgjm~Rha0a1crfs#2 nycfTObBid1ev.i#3 nbubfYPS?[]2aid3ecgYPS'g'h'i2am}Uha0a3ccgj'Hbbb~t~+F.x&--1 `1Eb%bbbbB2$v.i#1 @`1bub$NpGd1id2ekl$1",(cK rfl KM ⟨t_SUPPOSE,rfl⟩),[".0","cell","thought"]]
abbrev AS:Stmt:=top 136
theorem zA{c:RCl RK}{d:RCl PzK}(MB:yg Z c d)(KA:gE Z c d)(D:De Z.K "_law_due" AS):rQ Z c d:=okc Bz D zp bd2 #[";fqpGdid1eHklgjm~Rha0a1crf~s.i#2 nb~hb'IfTObBid1ev.i#3 nbubgTObBoAm}Vha0a3cyaid3ecv.i#4 nbubg~yJ~L24~MdgjF.x&--21 `0Eb%bbbb~eb/aec$v.i#1 @`0bub$NL;p~ad12`1~cpGd1id3ekl$1",[".0","_law_cell","_law_found","_law_thought_here"],(by with_unfolding_all rfl)]
abbrev Ap:Stmt:=top 76
theorem Fq{c:RCl RK}{d:RCl PzK}(Mt:vy Z c d)(MH:Ad Z c d)(D:De Z.K "allowed" Ap):Ae Z c d:=okc Bz D Dl bd3 #[";gjRm}Wha0a2cWm}Xha0a1a2c"]
abbrev AT:Stmt:=top 88
theorem zB{c:RCl RK}{d:RCl PzK}(L0:rP Z c d)(KA:gE Z c d){t_SUPPOSE:Tok}(KM:Z.mg "SUPPOSE"=some (.str (tx [115,117,112,112,111,115,101]) t_SUPPOSE))(D:De Z.K "bears_on" AT):rR Z c d:=okc Bz D Cr bd2 #[";fqpGdid1e`0klgjm~Rha0a1crfs#2 nycfTObBid1ev.i#3 nbubfYPS?[]2aid3ecgYPS'g'h'i2am}Yha0a3ccgj'Hbbb~t~+F.x&--1 `1Eb%bbbbB2$v.i#1 @`1bub$NpGd1id2ekl$1",(cK rfl KM ⟨t_SUPPOSE,rfl⟩),[".0","cell","thought"]]
abbrev AU:Stmt:=top 136
theorem zC{c:RCl RK}{d:RCl PzK}(L1:rQ Z c d)(KA:gE Z c d)(D:De Z.K "_law_due" AU):rS Z c d:=okc Bz D zq bd2 #[";fqpGdid1eHklgjm~Rha0a1crf~s.i#2 nb~hb'IfTObBid1ev.i#3 nbubgTObBoAm}Zha0a3cyaid3ecv.i#4 nbubg~yJ~L24~MdgjF.x&--21 `0Eb%bbbb~eb/aec$v.i#1 @`0bub$NL;p~ad12`1~cpGd1id3ekl$1",[".0","_law_cell","_law_found","_law_thought_here"],(by with_unfolding_all rfl)]
abbrev yO:Stmt:=top 86
theorem DB{c:RCl RK}{d:RCl PzK}(MI:Ae Z c d)(LT:p9 Z)(D:De Z.K "fault_in" yO):yh Z c d:=okc Bz D AC bd3 #[";fqVIm}*ha2cgj~VIm}+ha0a1a2c~DycrfqVI~ugjycrfs#3 n~ufTOb'Tb'Uaid2ec~Tb~fv.i#4 nbub~fv.i#5 nbub~UfqI~ugj~DrgqVI~ufs#6 n~ufqp}-6~DklgjoAya4c6rgs#3 n~urgj~VI~u~Dyc"]
abbrev vS:Stmt:=top 137
theorem CY{c:RCl RK}{d:RCl PzK}(L3:rS Z c d)(Lj:rR Z c d)(D:De Z.K "_law_told" vS):vC Z c d:=okc Bz D zr bd2 #[";fs#2 nm}/ha0a1cfs#3 nm{rha0a1cfqLUVIt~jb~k~la3a~m.v~n'Bb~b~rbcZpGd32klgjJrfqpGdF.x&-- `0Eb%bbbbB3$v.i#1 @`0bub$NLUVIt~jb~k~la1a~m.v~n'Jb~;~?bcZIt~jb~k~la1a~m.v~n'Lb'M'Nbc$1ycklgjJrfYPS?[]3aecgjxwdm{rha0a1c2kl",[".0","_law_cell"]]
abbrev CZ:Stmt:=top 87
theorem GU{c:RCl RK}{d:RCl PzK}(MC:yh Z c d)(D:De Z.K "let_by" CZ):wB Z c d:=okc Bz D Dp bd3 #[";gjx{am}:ha0a1a2c~Dkl"]
abbrev uz:Stmt:=top 134
theorem AV{c:RCl RK}{d:RCl PzK}(Kv:eE Z)(KY:lH Z)(LU:wB Z c d)(D:De Z.K "_law_taken" uz):uc Z c d:=okc Bz D wx bd8 #[";fs#8 n~g~Cb~b~ra7cfs#9 nycfTOb~eb/a2cv.i#10 nbubfs#11 nm~Sha0aoA1|acfs#12 nm{shao-|bea5a6a8cgqL;p~qde8`0;pwdo'xo~[id8id|ceoMid|ceeeekl~cIm{tha4a8a|ccfYPS?[]9a|ccg~yoMid8id|ceo~/eoMid|cee~L8id|ce~Mdrfqp:3eklfs#12 n~ugYPS{u{v{w9aoKm~Sha0a1coAtDbzCa9cea|ccrgj9",(by with_unfolding_all rfl)]
abbrev pi:Stmt:=top 135
theorem wO{c:RCl RK}{d:RCl PzK}(Kv:eE Z)(Md:uc Z c d)(D:De Z.K "_law_supposed" pi):oZ Z c d:=okc Bz D sk bd8 #[";fs#8 nm~Sha0a1cfs#9 noK8tDbzCa7cfs#10 noAeoKo-8eid5efs#11 n~g~Cb~b~ra7cf~yo~/eoM|ae~L|b9~Mdgj~oaHaea9a|aam};ha0aoA1ea2a3a4a5a6a|bcc"]
abbrev yP:Stmt:=top 134
theorem wP{c:RCl RK}{d:RCl PzK}(Kv:eE Z)(LG:oZ Z c d)(KY:lH Z)(LU:wB Z c d)(D:De Z.K "_law_taken" yP):o3 Z c d:=okc Bz D wy bd8 #[";fs#8 n~g~Cb~b~ra7cfs#9 nycfTOb~eb/a2cv.i#10 nbubfs#11 nm~Sha0aoA1|acfs#12 nm{shao-|bea5a6a8cgqL;p~qde8`0;pwdo'xo~[id8id|ceoMid|ceeeekl~cIm{tha4a8a|ccfYPS?[]9a|ccg~yoMid8id|ceo~/eoMid|cee~L8id|ce~Mdrfqp:3eklfs#12 nm}?ha0aoA1eaeaea4a5a6a8cgYPS{u{v{w9aoKm~Sha0a1coAtDbzCa9cea|ccrgj9",(by with_unfolding_all rfl)]
abbrev uA:Stmt:=top 135
theorem sw{c:RCl RK}{d:RCl PzK}(Kv:eE Z)(LH:o3 Z c d)(D:De Z.K "_law_supposed" uA):lY Z c d:=okc Bz D su bd8 #[";fs#8 nm~Sha0a1cfs#9 noK8tDbzCa7cfs#10 noAeoKo-8eid5efs#11 n~g~Cb~b~ra7cf~yo~/eoM|ae~L|b9~Mdgj~oaHaea9a|aam}[ha0aoA1ea2a3a4a5a6a|bcc"]
abbrev yQ:Stmt:=top 138
def J1{c:RCl RK}{d:RCl PzK}(Kv:eE Z)(Mf:tT Z)(Mu:vz Z)(Lb:lY Z c d)(Mv:vC Z c d)(MR:mE Z "Puzzle" (d.A .Puzzle) c d){f:Addr}{fd:FuncData}(F:Fun Z.K "law" "law" yQ f fd):FnOk Z.P Z.w Z.K Z.mg Z.base CX0 16 f fd ["_law_script"] (GH Z.K c d):=okf F (by ac_rfl) J0 (fun hr hu nd=>(af (dn (i:=1) nd rfl (Or.inr rfl) (kcal Mf hr (aa (kcal Kv hr (aa (pv 0) (aa ag ae))) ae)))
   (af (kset 2 nd (am cY (kix hu (pv 1) ag) (kix hu (pv 1) ag)))
   (af (dn (i:=4) nd rfl (Or.inr rfl) (aG (ix:=[none,none,some 1,some 0]) [".0","_law_k","_law_floor_here","_law_script"] (aF rfl (by decide+kernel) rfl rfl rfl) rfl (bH rfl Bz.range_ (aa (pv 2) ae)) (fun cl s H fp=>(au (i:=1) (show([".0","_law_k","_law_floor_here","_law_script"]:List Str).Nodup by decide+kernel) rfl (Or.inl rfl))) (fun cl s H fp=>aX) (fun cl s H fp=>(am ax ag (am aK (am bu (kcal Kv hr (aa (pv 3) (aa (am ax ag (pv 1)) ae))) ag) (kix hu (pv 2) ag))))))
   (af (pW (k:=5) nd rfl (Or.inl rfl) rfl (ix:=[none,none,some 4,some 1,some 0]) [".0","_law_k","_law_filling","_law_floor_here","_law_script"] (aF rfl (by decide+kernel) rfl rfl rfl) rfl (bH rfl Bz.range_ (aa (am ax ag (am aK (kcal Kv hr (aa (pv 0) (aa ag ae))) ag)) ae)) (fun cl s H fp=>(au (i:=1) (show([".0","_law_k","_law_filling","_law_floor_here","_law_script"]:List Str).Nodup by decide+kernel) rfl (Or.inl rfl))) (fun cl s H fp=>aX) (fun cl s H fp=>(kcal Mu hr (aa (kcal Kv hr (aa (pv 4) (aa (am ax ag (pv 1)) ae))) (aa (pv 3) (aa (pv 2) ae))))))
   (af (pW (k:=6) nd rfl (Or.inl rfl) rfl (ix:=[none,none,some 4,some 0]) [".0","_law_k","_law_filling","_law_script"] (aF rfl (by decide+kernel) rfl rfl rfl) rfl (bH rfl Bz.range_ (aa (pv 2) ae)) (fun cl s H fp=>(au (i:=1) (show([".0","_law_k","_law_filling","_law_script"]:List Str).Nodup by decide+kernel) rfl (Or.inl rfl))) (fun cl s H fp=>aX) (fun cl s H fp=>(am cY (kix hu (pv 2) (pv 1)) (am aK (am bu (kcal Kv hr (aa (pv 3) (aa (am ax ag (pv 1)) ae))) ag) ag))))
   (af (kset 7 nd (mN MR hr #[1] rfl (aa (pv 1) (aa (aG (ix:=[none,none]) [".0","_law_rule_here"] (aF rfl (by decide+kernel) rfl rfl rfl) rfl (aB (pv 5)) (fun cl s H fp=>(au (i:=1) (show([".0","_law_rule_here"]:List Str).Nodup by decide+kernel) rfl (Or.inl rfl))) (fun cl s H fp=>aX) (fun cl s H fp=>(kix hu (pv 1) ag))) (aa (pv 6) ae)))))
   (af (pW (k:=8) nd rfl (Or.inl rfl) rfl (ix:=[none,none,some 1]) [".0","_law_cell","_law_floor_here"] (aF rfl (by decide+kernel) rfl rfl rfl) rfl (aB (pv 4)) (fun cl s H fp=>(au (i:=1) (show([".0","_law_cell","_law_floor_here"]:List Str).Nodup by decide+kernel) rfl (Or.inl rfl))) (fun cl s H fp=>aX) (fun cl s H fp=>(am aY (am mU ag (kix hu (pv 2) ag)) ag)))
   (af (bn Og rfl (bH rfl Bz.range_ (aa (am ax ag (aq (ou rfl) rfl Bz.min_ wY (aa ag (aa (aq hJ rfl Bz.len_ aI (aa (pv 0) ae)) ae)))) ae)) (au (i:=3) nd rfl (Or.inl rfl))
   (af (kset 9 nd (kcal Lb hr (aa (pv 0) (aa (am ax ag (am cY ag (pv 3))) (aa ag (aa ag (aa (pv 7) (aa (pv 1) (aa (pv 5) (aa (pv 8) ae))))))))))
   (ah (bn Og rfl (aB (am ax (aD (aa (pv 9) ae)) (kix hu (pv 9) ag))) (au (i:=10) nd rfl (Or.inl rfl))
   (ah (av (bJ (aP (kcal Mv hr (aa (pv 7) (aa (pv 10) ae))))) (ah (ai bj)) ap))))))
   (ah (ai bj))))))))))) (by walk_at "l")
end
variable{l:PySem.W.OpenLaw}
def J3 {w:World} {K:Frag} {h:Heap} {mg:Str->Option Value} {fa:Addr} (X:K.In h) (G:h.Ns mainGlobals mg) (hfa:mg "law"=↑fa) {x1 x2 x3 x4 x5 x6 x7 x8 y1 f13 f14 f15 f16 f17 f18 f19 f21 f22 f23 f44 f45 f46 f47 f48 f67 f81 f82 f92 f93 f101:Addr} {tk_FIGURES tk_MOST_CELLS tk_MOST_FIGURES tk_MOST_NUMBER tk_MOST_RULES tk_MOST_SIDE tk_MOST_SIGNS tk_MOST_WAYS tk_SUPPOSE:Tok}
  (Q_Unlike:ClsP K "Unlike" x1 f13) (Q_Sum:ClsP K "Sum" x2 f13) (Q_Rising:ClsP K "Rising" x3 f13) (Q_Seen:ClsP K "Seen" x4 f13) (Q_Count:ClsP K "Count" x5 f13) (Q_Joined:ClsP K "Joined" x6 f13) (Q_NoSquare:ClsP K "NoSquare" x7 f13) (Q_Ring:ClsP K "Ring" x8 f13) (Q_Puzzle:ClsP K "Puzzle" y1 f101) (a14:At8 K "name" ↑f14 x1 x2 x3 x4 x5 x6 x7 x8) (a15:At8 K "spots" ↑f15 x1 x2 x3 x4 x5 x6 x7 x8) (a16:At8 K "number" ↑f16 x1 x2 x3 x4 x5 x6 x7 x8) (a17:At8 K "sign" ↑f17 x1 x2 x3 x4 x5 x6 x7 x8) (a18:At8 K "signs_at" ↑f18 x1 x2 x3 x4 x5 x6 x7 x8) (a19:At8 K "marked" ↑f19 x1 x2 x3 x4 x5 x6 x7 x8) (Nf:findIn K (.ref y1) "place"=some ↑f21) (Ng:findIn K (.ref y1) "clues"=some ↑f22) (Nh:findIn K (.ref y1) "rules"=some ↑f23) (Ni:findIn K (.ref x1) "holds"=some ↑f44) (Nw:findIn K (.ref x2) "holds"=some ↑f45) (Nj:findIn K (.ref x3) "holds"=some ↑f46) (Nq:findIn K (.ref x4) "holds"=some ↑f47) (Np:findIn K (.ref x5) "holds"=some ↑f48) (Nr:findIn K (.ref x8) "has_two_beside"=some ↑f67) (Nk:findIn K (.ref x6) "is_joined"=some ↑f81) (Nt:findIn K (.ref x8) "is_joined"=some ↑f81) (Nb:findIn K (.ref x7) "holds"=some ↑f82) (Nl:findIn K (.ref x6) "holds"=some ↑f92) (Nu:findIn K (.ref x8) "holds"=some ↑f93) (n_c_amount:At8 K "amount" none x1 x2 x3 x4 x5 x6 x7 x8) (n_c_cells:At8 K "cells" none x1 x2 x3 x4 x5 x6 x7 x8) (n_c_floor:At8 K "floor" none x1 x2 x3 x4 x5 x6 x7 x8) (n_c_mark:At8 K "mark" none x1 x2 x3 x4 x5 x6 x7 x8) (n_c_words:At8 K "words" none x1 x2 x3 x4 x5 x6 x7 x8) (n_d_floor:findIn K (.ref y1) "floor"=some none) (n_d_given:findIn K (.ref y1) "given"=some none) (n_d_laws:findIn K (.ref y1) "laws"=some none) (D0:De K "is_whole" yi) (D1:De K "many_cells" ue) (D2:De K "spot_of" Af) (D3:De K "square_at" vD) (D4:De K "bit_of" CA) (D5:De K "stands" CB) (D6:De K "clashes" Ag) (D7:De K "masks_at" yj) (D8:De K "clue_strikes" qj) (D9:De K "are_told_in_order" kU) (D10:De K "with_sign" vE) (D11:De K "has_parts" vF) (D12:De K "is_within" vG) (D13:Me K "__init__" "Rule.__init__" o4 f13) (D14:Me K "name" "Rule.name" vH f14) (D15:Me K "spots" "Rule.spots" uf f15) (D16:Me K "number" "Rule.number" rT f16) (D17:Me K "sign" "Rule.sign" vI f17) (D18:Me K "signs_at" "Rule.signs_at" o5 f18) (D19:Me K "marked" "Rule.marked" rV f19) (D20:De K "number_in" vJ) (D21:Me K "place" "Puzzle.place" qk f21) (D22:Me K "clues" "Puzzle.clues" qm f22) (D23:Me K "rules" "Puzzle.rules" qo f23) (D24:De K "_law_cell_at" qp) (D25:De K "_law_floor" ug) (D26:De K "_law_near" vK) (D27:De K "_law_drawn" uh) (D28:De K "_law_above" ui) (D29:De K "_law_signs" uj) (D30:De K "_law_kinds" uk) (D31:De K "is_from_one_to" oa) (D32:De K "beside" CL) (D33:De K "is_corner" vL) (D34:De K "without" Ah) (D35:De K "signs_in" yr) (D36:De K "is_cell" Ai) (D37:De K "goes_by" Aj) (D38:De K "others" CN) (D39:De K "many_may" yt) (D40:De K "ahead_of" yu) (D41:De K "behind" CO) (D42:De K "with_each_sign" oe) (D43:De K "is_supposing" qq) (D44:Me K "holds" "Unlike.holds" qr f44) (D45:Me K "holds" "Sum.holds" vM f45) (D46:Me K "holds" "Rising.holds" qu f46) (D47:Me K "holds" "Seen.holds" um f47) (D48:Me K "holds" "Count.holds" rW f48) (D49:De K "number_within" o6) (D50:De K "is_filling" uo) (D51:De K "_law_joined" rX) (D52:De K "_law_more" vN) (D53:De K "floor_of" yz) (D54:De K "squares" Ak) (D55:De K "reached" Al) (D56:De K "has_only" yA) (D57:De K "ways" GS) (D58:De K "is_sign" Am) (D59:De K "has_its_rule" qv) (D60:De K "is_no_greater" o7) (D61:De K "is_no_less" uq) (D62:De K "pair_strikes" qw) (D63:De K "rests_by_line" o8) (D64:De K "sum_strikes" rY) (D65:De K "rests_by_number" mF) (D66:De K "around" CS) (D67:Me K "has_two_beside" "Ring.has_two_beside" jS f67) (D68:De K "first_within" qx) (D69:De K "told_cells" ut) (D70:De K "rule_by" An) (D71:De K "checked_clues" o9) (D72:De K "_law_by_floor" pb) (D73:De K "_law_thought" qy) (D74:De K "is_formed" vO) (D75:De K "many_only" vP) (D76:De K "only_strikes" qz) (D77:De K "place_strikes" pc) (D78:De K "step_strikes" qA) (D79:De K "rest_of_square" og) (D80:De K "is_another_with_only" jg) (D81:Me K "is_joined" "Joined.is_joined" lZ f81) (D82:Me K "holds" "NoSquare.holds" oh f82) (D83:De K "cells_of" yH) (D84:De K "checked_floor" pe) (D85:De K "_law_rule" vQ) (D86:De K "strikes_by_line" mG) (D87:De K "count_strikes" pf) (D88:De K "square_strikes" oi) (D89:De K "reach_strikes" ph) (D90:De K "turn_strikes" qB) (D91:De K "rests_by_region" mH) (D92:Me K "holds" "Joined.holds" qC f92) (D93:Me K "holds" "Ring.holds" uw f93) (D94:De K "read_rule" vR) (D95:De K "ways_strikes" qD) (D96:De K "strikes_by_region" kX) (D97:De K "rests_on" yL) (D98:De K "read_rules" ux) (D99:De K "strikes_by_number" kY) (D100:De K "bears_on" yM) (D101:Me K "__init__" "Puzzle.__init__" mI f101) (D102:De K "_law_due" yN) (D103:De K "strikes" Ao) (D106:De K "allowed" Ap) (D109:De K "fault_in" yO) (D110:De K "_law_told" vS) (D111:De K "let_by" CZ) (D112:De K "_law_taken" uz) (D113:De K "_law_supposed" pi) (D116:De K "law" yQ) (g_KINDS:GT0 K "KINDS" qX) (g_LINE_KINDS:GT0 K "LINE_KINDS" fh) (g_NUMBER_KINDS:GT0 K "NUMBER_KINDS" dh) (g_OF_ALL_CELLS:GT0 K "OF_ALL_CELLS" gZ) (g_WITH_NUMBER:GT0 K "WITH_NUMBER" iH) (g_WITH_SIGN:GT0 K "WITH_SIGN" ib) (gd_RULES_OF_KIND_:GD0 w K "RULES_OF_KIND" gd_RULES_OF_KIND) (Nm:nsIn K mainGlobals "FIGURES"=some (some (.str (tx [48,49,50,51,52,53,54,55,56,57]) tk_FIGURES))) (M3:nsIn K mainGlobals "MOST_CELLS"=some (some (.int 16 tk_MOST_CELLS))) (MU:nsIn K mainGlobals "MOST_FIGURES"=some (some (.int 9 tk_MOST_FIGURES))) (M1:nsIn K mainGlobals "MOST_NUMBER"=some (some (.int 99 tk_MOST_NUMBER))) (M4:nsIn K mainGlobals "MOST_RULES"=some (some (.int 12 tk_MOST_RULES))) (Nc:nsIn K mainGlobals "MOST_SIDE"=some (some (.int 6 tk_MOST_SIDE))) (M5:nsIn K mainGlobals "MOST_SIGNS"=some (some (.int 6 tk_MOST_SIGNS))) (Nd:nsIn K mainGlobals "MOST_WAYS"=some (some (.int 32 tk_MOST_WAYS))) (No:nsIn K mainGlobals "SUPPOSE"=some (some (.str (tx [115,117,112,112,111,115,101]) tk_SUPPOSE))) (z:Zn K) (Nv:Nn K "divmod"):
  ∃ fd:FuncData,(∀(s:Shared) (v:Value),BindsTo s fd ⟨[v],[]⟩ [("_law_script",v)])/\∀ base:Heap,K.In base->base.Ns mainGlobals mg->FnOk l.prog w K mg base CX0 16 fa fd ["_law_script"] (zt K):=by
 obtain⟨f,fd,a,F⟩:=D116.ex;have e:=hfa.symm.trans (PySem.W.mg_of X G a);cases e;obtain⟨oc,od,kV,doc,pm,an,NB,ct,osl,rfl,lk,hcd⟩:=F.ex;refine⟨fnOf "law" "law" (ed yQ) (cX yQ) (be yQ) .none kV doc pm an NB ct,fun s v=>.of_eq rfl,fun base _ _=>?_⟩;let Z:Z5:=⟨l.prog,w,K,mg,base⟩;have Bz:Bt3 Z:=JS X G z;let c:RCl RK:=mkC x1 x2 x3 x4 x5 x6 x7 x8;let d:RCl PzK:=mkD y1;have CC:C8 K x1 x2 x3 x4 x5 x6 x7 x8:=⟨Q_Unlike.cl,Q_Sum.cl,Q_Rising.cl,Q_Seen.cl,Q_Count.cl,Q_Joined.cl,Q_NoSquare.cl,Q_Ring.cl⟩;have MD:=Bz.ns Nm;have L4:=Bz.ns M3;have LI:=Bz.ns MU;have LX:=Bz.ns M1;have Mb:=Bz.ns M4;have LV:=Bz.ns Nc;have L5:=Bz.ns M5;have Mr:=Bz.ns Nd;have KM:=Bz.ns No;have BX_divmod:=PySem.W.mg_none_of X G Nv;have KB:FldK Z.K c "amount":=fk8 CC n_c_amount;have KD:FldK Z.K c "cells":=fk8 CC n_c_cells;have KI:FldK Z.K c "floor":=fk8 CC n_c_floor;have KR:FldK Z.K c "mark":=fk8 CC n_c_mark;have Lc:FldK Z.K c "words":=fk8 CC n_c_words;have K0:FldK Z.K d "floor":=⟨fun _ _=>⟨Q_Puzzle.cl,n_d_floor⟩⟩;have Ld:FldK Z.K d "given":=⟨fun _ _=>⟨Q_Puzzle.cl,n_d_given⟩⟩;have Lo:FldK Z.K d "laws":=⟨fun _ _=>⟨Q_Puzzle.cl,n_d_laws⟩⟩;have MY:=g_KINDS.of Bz;have K4:=g_LINE_KINDS.of Bz;have KW:=g_NUMBER_KINDS.of Bz;have LL:=g_OF_ALL_CELLS.of Bz;have LY:=g_WITH_NUMBER.of Bz;have Mq:=g_WITH_SIGN.of Bz;have Lv:=GD0.of (Z:=Z) gd_RULES_OF_KIND_ Bz;have KC:=Dq Bz D0;have Kw:=AD Bz D1;have Lp:=Fg Bz D2;have Ml:=Cz Bz D3;have MM:=GN Bz D4;have KU:=GO Bz D5;have Lq:=Fh Bz D6;have Kz:=Dr Bz D7;have LM:=yk Bz D8;have K7:=rE Bz D9;have K6:=CD Bz D10;have Mh:=CF Bz D11;have Mn:=CG Bz D12;have T13:=wD Bz KB KD KI KR Lc D13;have MP:aO Z "Unlike" (c.A .Unlike) c:=T13.mke Bz Q_Unlike;have K_Sum:aO Z "Sum" (c.A .Sum) c:=T13.mke Bz Q_Sum;have MO:aO Z "Rising" (c.A .Rising) c:=T13.mke Bz Q_Rising;have M9:aO Z "Seen" (c.A .Seen) c:=T13.mke Bz Q_Seen;have MX:aO Z "Count" (c.A .Count) c:=T13.mke Bz Q_Count;have MN:aO Z "Joined" (c.A .Joined) c:=T13.mke Bz Q_Joined;have Mx:aO Z "NoSquare" (c.A .NoSquare) c:=T13.mke Bz Q_NoSquare;have M8:aO Z "Ring" (c.A .Ring) c:=T13.mke Bz Q_Ring;have T14:=CH Bz Lc D14;have M7:GM Z c:=⟨fun i hi=>T14.at (c8 CC i) (at8 a14 i) fun _ _ _ _ h=>⟨i,h⟩⟩;have T15:=AE Bz KD D15;have KN:mX Z c:=⟨fun i hi=>T15.at (c8 CC i) (at8 a15 i) fun _ _ _ _ h=>⟨i,h⟩⟩;have T16:=zu Bz KB D16;have La:wC Z c:=⟨fun i hi=>T16.at (c8 CC i) (at8 a16 i) fun _ _ _ _ h=>⟨i,h⟩⟩;have T17:=CI Bz KR D17;have K3:ud Z c:=⟨fun i hi=>T17.at (c8 CC i) (at8 a17 i) fun _ _ _ _ h=>⟨i,h⟩⟩;have T18:=wE Bz KD D18;have KJ:kN Z c:=⟨fun i hi=>T18.at (c8 CC i) (at8 a18 i) fun _ _ _ _ h=>⟨i,h⟩⟩;have MK:=fk1 (k:=.Joined) rfl KD;have MS:=fk1 (k:=.Joined) rfl KR;have T19_Joined:=lJ (c:=(mk1 c .Joined)) Bz MK MS D19;have MV:jK Z (mk1 c .Joined):=⟨fun i hi=>by cases p7 hi;exact T19_Joined.at Q_Joined.cl (at8 a19 .Joined) fun _ _ _ _ h=>⟨.Joined,h⟩⟩;have MW:=fk1 (k:=.Ring) rfl KD;have M2:=fk1 (k:=.Ring) rfl KR;have T19_Ring:=lJ (c:=(mk1 c .Ring)) Bz MW M2 D19;have M6:jK Z (mk1 c .Ring):=⟨fun i hi=>by cases p7 hi;exact T19_Ring.at Q_Ring.cl (at8 a19 .Ring) fun _ _ _ _ h=>⟨.Ring,h⟩⟩;have T19:=lJ Bz KD KR D19;have K1:jK Z c:=⟨fun i hi=>T19.at (c8 CC i) (at8 a19 i) fun _ _ _ _ h=>⟨i,h⟩⟩;have Mi:=CJ Bz MD LI D20;have T21:=yn (c:=c) Bz K0 D21;have KZ:qi Z c d:=⟨fun i hi=>by cases i;exact T21.at Q_Puzzle.cl Nf fun _ _ _ _ h=>h⟩;have T22:=yo (c:=c) Bz Ld D22;have MZ:Ef Z c d:=⟨fun i hi=>by cases i;exact T22.at Q_Puzzle.cl Ng fun _ _ _ _ h=>h⟩;have T23:=yp (c:=c) Bz Lo D23;have KH:lI Z c d:=⟨fun i hi=>by cases i;exact T23.at Q_Puzzle.cl Nh fun _ _ _ _ h=>h⟩;have Kv:=yq Bz D24;have Mf:=AF Bz D25;have KP:=CK Bz BX_divmod D26;have Lz:=AG Bz D27;have Lx:=AH Bz D28;have L8:=AI Bz D29;have L7:=AJ Bz D30;have KF:=u9 Bz KC D31;have KG:=GP Bz Lp D32;have Mj:=CM Bz Lp D33;have ME:=Fi Bz MM KU D34;have Ky:=Ds Bz KU D35;have Lr:=Fj Bz KC Kw D36;have MF:=Fk Bz M7 Lv D37;have Kx:=GQ Bz KN D38;have KQ:=Dt Bz KU D39;have Le:=Du Bz KN D40;have LJ:=GR Bz KN D41;have Lk:=va Bz K6 D42;have LT:=yw Bz Mh KM D43;have T44:=yx Bz KJ D44;have T45:=CP Bz KB KJ D45;have T46:=yy Bz KJ D46;have T47:=AK Bz KB KJ D47;have T48:=zv Bz KB K1 D48;have KS:=wF Bz Mi D49;have L6:=AL Bz KC Kw D50;have LW:=zw Bz KP D51;have Mm:=CQ Bz KP D52;have My:=Dv Bz KF L4 LV L5 D53;have Lu:=Fl Bz Mj Kw Ml D54;have K5:=Fm Bz KG D55;have KK:=Dw Bz ME D56;have Na:=IU Bz Ky D57;have Ls:=Fn Bz KF D58;have LK:=yB Bz MF KC KH KN D59;have Lw:=wG Bz Ky D60;have L9:=AM Bz Ky D61;have LO:=yC Bz K7 Kx Ky D62;have LC:=wH Bz Le LJ Kx KH D63;have LZ:=zx Bz Lq Kz Kx Ky La D64;have Lg:=ur Bz Kx KH D65;have LQ:=GT Bz KG D66;have Mg:=fk1 (k:=.Ring) rfl KI;have T67_Ring:=pR (c:=(mk1 c .Ring)) Bz KG Mg D67;have Mw:n9 Z (mk1 c .Ring):=⟨fun i hi=>by cases p7 hi;exact T67_Ring.at Q_Ring.cl Nr fun _ _ _ _ h=>h⟩;have Lf:=yD Bz KS D68;have Ma:=AN Bz Kw KS D69;have MG:=Fo Bz MX MN Mx M8 MO M9 K_Sum MP D70;have LE:=wI Bz L6 D71;have Ly:=wJ Bz LW KP D72;have KY:=yE Bz L7 Mm L8 D73;have Mt:=CT Bz LK Lr Ls KC KZ MY D74;have KL:=CU Bz KK D75;have LN:=yF Bz KK Kx D76;have LA:=wK Bz Ls KQ Kz Kx KN D77;have LP:=yG Bz Le LJ Lw L9 D78;have KO:=vb Bz Lu D79;have K2:=oq Bz KK Lr D80;have ML:=fk1 (k:=.Joined) rfl KI;have T81_Joined:=kW (c:=(mk1 c .Joined)) Bz K5 ML D81;have MJ:lS Z (mk1 c .Joined):=⟨fun i hi=>by cases p7 hi;exact T81_Joined.at Q_Joined.cl Nk fun _ _ _ _ h=>⟨.Joined,h⟩⟩;have T81_Ring:=kW (c:=(mk1 c .Ring)) Bz K5 Mg D81;have MT:lS Z (mk1 c .Ring):=⟨fun i hi=>by cases p7 hi;exact T81_Ring.at Q_Ring.cl Nt fun _ _ _ _ h=>⟨.Ring,h⟩⟩;have T82:=vc Bz Mn Lu KI K1 D82;have Mz:=Dx Bz Kw Ma LL D83;have LF:=wL Bz My D84;have Mu:=CV Bz Lx Ly Lz D85;have Li:=uu Bz LM LN LO LA LP MZ KZ KH D86;have LD:=wM Bz KQ KL Kz Kx La K3 D87;have Lm:=vd Bz KL Kz KO K3 D88;have LB:=wN Bz K2 Kx K5 KU K3 D89;have LR:=yI Bz LQ KG KK KQ KL Kz K3 D90;have Lh:=uv Bz LQ KG Kw KO KZ D91;have T92_Joined:=yJ (c:=(mk1 c .Joined)) Bz MJ MV D92;have T93_Ring:=AO (c:=(mk1 c .Ring)) Bz Mw MT M6 D93;have M0:Eg Z c:=⟨fun i hi=>by cases i with | Rule=>exact(NW hi).elim | Unlike=>exact T44.at Q_Unlike.cl Ni fun _ _ _ _ h=>h | Sum=>exact T45.at Q_Sum.cl Nw fun _ _ _ _ h=>h | Rising=>exact T46.at Q_Rising.cl Nj fun _ _ _ _ h=>h | Seen=>exact T47.at Q_Seen.cl Nq fun _ _ _ _ h=>h | Count=>exact T48.at Q_Count.cl Np fun _ _ _ _ h=>h | Joined=>exact T92_Joined.at Q_Joined.cl Nl (fun vs H Q E h=>by obtain⟨r,p,f,ws,cs,xs,n,m,h,w,g,e,x,y⟩:=h;exact⟨r,p,f,ws,cs,xs,n,m,h,w,g,e,⟨rfl,x.ex⟩,y⟩) | NoSquare=>exact T82.at Q_NoSquare.cl Nb fun _ _ _ _ h=>h | Ring=>exact T93_Ring.at Q_Ring.cl Nu (fun vs H Q E h=>by obtain⟨r,p,f,ws,cs,xs,n,m,h,w,g,e,x,y⟩:=h;exact⟨r,p,f,ws,cs,xs,n,m,h,w,g,e,⟨rfl,x.ex⟩,y⟩)⟩;have Ms:=CW Bz Mz Lf MG LX LY Mq D94;have LS:=yK Bz Lq Kz Kx Ky Na Lk K6 Mr M0 D95;have K9:=rF Bz LB Lm LR KZ KH D96;have KA:=Dy Bz LC Lg Lh K4 KW D97;have Mc:=AQ Bz Ms Mb D98;have K8:=rG Bz LD LZ LS KH D99;have MA:=Dz Bz KA KM D100;have T101:=uy Bz LE LF Mc K0 Ld Lo D101;have MR:mE Z "Puzzle" (d.A .Puzzle) c d:=T101.mke Bz Q_Puzzle;have MB:=DA Bz KA D102;have MH:=Fp Bz Li K8 K9 K4 KW D103;have L0:=zy Bz MA KA KM D100;have L1:=zA Bz MB KA D102;have MI:=Fq Bz Mt MH D106;have Lj:=zB Bz L0 KA KM D100;have L3:=zC Bz L1 KA D102;have MC:=DB Bz MI LT D109;have Mv:=CY Bz L3 Lj D110;have LU:=GU Bz MC D111;have Md:=AV Bz Kv KY LU D112;have LG:=wO Bz Kv Md D113;have LH:=wP Bz Kv LG KY LU D112;have Lb:=sw Bz Kv LH D113;exact(J1 Bz Kv Mf Mu Lb Mv MR F).imp fun vs H Q E h=>by obtain⟨a,ns,e,hS,hn,k⟩:=h;exact⟨a,ns,e,hS,hn,fun k hk=>by cases k <;> first | rfl | exact absurd rfl hk,rfl,k⟩
def walk {q:Program} {loose:List Str} {XP:(Str->Option Value)->Heap->Prop} {YP:World->Heap->Prop} {d:DefRec} {K:Params->Frag} (hn:l.most=some 63) (hdf:d.params.defaults=[])
  (hY:∀(w:World) (h:Heap),YP w h->(K w.params).In h)
  (F:∀(w:World) (mg:Str->Option Value) (fa:Addr) (h:Heap),(K w.params).In h->h.Ns mainGlobals mg->mg d.name=↑fa->
   ∃ fd:FuncData,(∀(s:Shared) (u:Value),BindsTo s fd ⟨[u],[]⟩ [("_law_script",u)])/\∀ base:Heap,(K w.params).In base->base.Ns mainGlobals mg->FnOk l.prog w (K w.params) mg base CX0 16 fa fd ["_law_script"] (zt (K w.params))):
  PySem.W.WalkO q loose XP YP l.row.toRowW d [] (fun f vs=>PySem.call f vs):=
 L2.Ic (n:=63) (k:=16) (x:="_law_script") (CX:=fun _=>CX0) (sp:=fun w=>zt (K w.params)) hn #[1] hdf ⟨rfl,by decide,by decide⟩ hY F (fun _ _ a ns hl _ hS=>⟨a,ns,rfl,hS,hl,fun _=>rfl⟩) fun _ _ _ _ _ z=>z
variable{P:Program}{w:World}{K:Frag}{mg:Str->Option Value}{base:Heap}
def ve {w:World} {K:Frag} {p:Addr} {ep:Nat} {dh0:Int} {dt0:Tok} {dq0:Addr} {dod0:Option Addr} {dn0:Nat} {dsl0:Array (Option Value)} {du0_0:Tok} {dh1:Int} {dt1:Tok} {dq1:Addr} {dod1:Option Addr} {dn1:Nat} {dsl1:Array (Option Value)} {du1_0:Tok} {dh2:Int} {dt2:Tok} {dq2:Addr} {dod2:Option Addr} {dn2:Nat} {dsl2:Array (Option Value)} {du2_0:Tok} {dh3:Int} {dt3:Tok} {dq3:Addr} {dod3:Option Addr} {dn3:Nat} {dsl3:Array (Option Value)} {du3_0:Tok} {dh4:Int} {dt4:Tok} {dq4:Addr} {dod4:Option Addr} {dn4:Nat} {dsl4:Array (Option Value)} {du4_0:Tok} {dh5:Int} {dt5:Tok} {dq5:Addr} {dod5:Option Addr} {dn5:Nat} {dsl5:Array (Option Value)} {du5_0:Tok} {dh6:Int} {dt6:Tok} {dq6:Addr} {dod6:Option Addr} {dn6:Nat} {dsl6:Array (Option Value)} {du6_0 du6_1:Tok} {dh7:Int} {dt7:Tok} {dq7:Addr} {dod7:Option Addr} {dn7:Nat} {dsl7:Array (Option Value)} {du7_0:Tok} {dh8:Int} {dt8:Tok} {dq8:Addr} {dod8:Option Addr} {dn8:Nat} {dsl8:Array (Option Value)} {du8_0:Tok}
  (a:nsIn K mainGlobals "RULES_OF_KIND"=some ↑p) (b:K.lookup p=some ⟨.type "dict",none,.dict #[⟨dh0,.str (tx [111,110,108,121]) dt0,.ref dq0⟩,⟨dh1,.str (tx [112,108,97,99,101]) dt1,.ref dq1⟩,⟨dh2,.str (tx [99,111,117,110,116]) dt2,.ref dq2⟩,⟨dh3,.str (tx [115,116,101,112]) dt3,.ref dq3⟩,⟨dh4,.str (tx [115,117,109]) dt4,.ref dq4⟩,⟨dh5,.str (tx [115,113,117,97,114,101]) dt5,.ref dq5⟩,⟨dh6,.str (tx [114,101,97,99,104]) dt6,.ref dq6⟩,⟨dh7,.str (tx [116,117,114,110]) dt7,.ref dq7⟩,⟨dh8,.str (tx [112,97,105,114]) dt8,.ref dq8⟩] ep,#[]⟩) (k0:K.lookup dq0=some ⟨.type "tuple",dod0,.seq #[.str (tx [117,110,108,105,107,101]) du0_0] dn0,dsl0⟩) (h0:dh0=hashStr w (tx [111,110,108,121])) (k1:K.lookup dq1=some ⟨.type "tuple",dod1,.seq #[.str (tx [117,110,108,105,107,101]) du1_0] dn1,dsl1⟩) (h1:dh1=hashStr w (tx [112,108,97,99,101])) (k2:K.lookup dq2=some ⟨.type "tuple",dod2,.seq #[.str (tx [99,111,117,110,116]) du2_0] dn2,dsl2⟩) (h2:dh2=hashStr w (tx [99,111,117,110,116])) (k3:K.lookup dq3=some ⟨.type "tuple",dod3,.seq #[.str (tx [114,105,115,105,110,103]) du3_0] dn3,dsl3⟩) (h3:dh3=hashStr w (tx [115,116,101,112])) (k4:K.lookup dq4=some ⟨.type "tuple",dod4,.seq #[.str (tx [115,117,109]) du4_0] dn4,dsl4⟩) (h4:dh4=hashStr w (tx [115,117,109])) (k5:K.lookup dq5=some ⟨.type "tuple",dod5,.seq #[.str (tx [110,111,115,113,117,97,114,101]) du5_0] dn5,dsl5⟩) (h5:dh5=hashStr w (tx [115,113,117,97,114,101])) (k6:K.lookup dq6=some ⟨.type "tuple",dod6,.seq #[.str (tx [106,111,105,110,101,100]) du6_0,.str (tx [114,105,110,103]) du6_1] dn6,dsl6⟩) (h6:dh6=hashStr w (tx [114,101,97,99,104])) (k7:K.lookup dq7=some ⟨.type "tuple",dod7,.seq #[.str (tx [114,105,110,103]) du7_0] dn7,dsl7⟩) (h7:dh7=hashStr w (tx [116,117,114,110])) (k8:K.lookup dq8=some ⟨.type "tuple",dod8,.seq #[.str (tx [117,110,108,105,107,101]) du8_0] dn8,dsl8⟩) (h8:dh8=hashStr w (tx [112,97,105,114])):GD0 w K "RULES_OF_KIND" gd_RULES_OF_KIND:=
 ⟨p,_,_,_,a,b,⟨rfl,rfl,rfl⟩,rfl,(.cons h0 k0 rfl rfl (Ou (aJ (ON rfl))) (.cons ⟨_,rfl⟩ .nil) (.cons h1 k1 rfl rfl (Ou (aJ (ON rfl))) (.cons ⟨_,rfl⟩ .nil) (.cons h2 k2 rfl rfl (Ou (aJ (ON rfl))) (.cons ⟨_,rfl⟩ .nil) (.cons h3 k3 rfl rfl (Ou (aJ (ON rfl))) (.cons ⟨_,rfl⟩ .nil) (.cons h4 k4 rfl rfl (Ou (aJ (ON rfl))) (.cons ⟨_,rfl⟩ .nil) (.cons h5 k5 rfl rfl (Ou (aJ (ON rfl))) (.cons ⟨_,rfl⟩ .nil) (.cons h6 k6 rfl rfl (Ou (aJ (ON rfl))) (.cons ⟨_,rfl⟩ (.cons ⟨_,rfl⟩ .nil)) (.cons h7 k7 rfl rfl (Ou (aJ (ON rfl))) (.cons ⟨_,rfl⟩ .nil) (.cons h8 k8 rfl rfl (Ou (aJ (ON rfl))) (.cons ⟨_,rfl⟩ .nil) .nil))))))))),by decide+kernel⟩
end L2
end
open PySem PySem.W PyProof.Rows
namespace PySem.W.Fast
theorem Z:True:=⟨⟩
def tw13251326948268409325:=Z
def tw5461981311610257256:=Z
def tw10008546729405422773:=Z
def tw3596096757555517111:=Z
def tw17304570634260297377:=Z
def tw12324593326831010924:=Z
def tw5191028253823480967:=Z
def tw15170643292285185517:=Z
def tw5426681151275178438:=Z
def tw5062525300165469951:=Z
def tw5911044817964187438:=Z
def tw7614283538731232375:=Z
def tw16906952036626955757:=Z
def tw3205372654945220481:=Z
def tw16281514594193688547:=Z
def tw13532033634547952146:=Z
def tw5410902456145154982:=Z
def tw10295274439514911483:=Z
def tw17375366800230091062:=Z
def tw3072956822258445247:=Z
def tw16809172071787881877:=Z
def tw13443416413764069542:=Z
def tw5960055137544740247:=Z
def tw2174986791559689738:=Z
def tw7321791167729225639:=Z
def tw6588768649810152354:=Z
def tw13764512679285758483:=Z
def tw12487412946199364690:=Z
def tw10447310836020256393:=Z
def tw7661880439477426062:=Z
def tw5035184871956234314:=Z
def tw4459234282787569814:=Z
def tw16512914519414982665:=Z
def tw2492303103021741164:=Z
def tw983237499089438402:=Z
def tw1321852489066981563:=Z
def tw1427880376478119726:=Z
def tw14849027315490753646:=Z
def tw11395610158053728752:=Z
def tw6440375620507430978:=Z
def tw1126263576882867449:=Z
def tw10252630451072194779:=Z
def tw756997998365629913:=Z
def tw102305809577682222:=Z
def tw10747030278113500640:=Z
def tw3129987894339942847:=Z
def tw6038163916235580734:=Z
def tw4741706989188524243:=Z
def tw12450566836753013808:=Z
def tw8982475955752351525:=Z
def tw5026251096959276777:=Z
def tw18182110188253431060:=Z
def tw1433592364316889403:=Z
def tw7555099956013299656:=Z
def tw5736866495870249733:=Z
def tw1311124355542790586:=Z
def tw14108794887522444222:=Z
def tw3264090825773466808:=Z
def tw4807123793390263344:=Z
def tw2007880087879214383:=Z
def tw16543666960769802055:=Z
def tw3744340997781527000:=Z
def tw17356504242244009923:=Z
def tw3006891345468433191:=Z
def tw6787816018938887322:=Z
def tw16523555318694401950:=Z
def tw1465280096325877277:=Z
def tw2189216585262871317:=Z
def tw12463323591648309440:=Z
def tw14751249693977762664:=Z
def tw14071143801848343140:=Z
def tw3992419861160533971:=Z
def tw3560119999935660365:=Z
def tw3986051659860804087:=Z
def tw1613550610404409546:=Z
def tw15659470313642016237:=Z
def tw2089863527954068937:=Z
def tw9017301131325123851:=Z
def tw1849713713919241624:=Z
def tw7713543238200692778:=Z
def tw5441521562293181890:=Z
def tw8867255528824839899:=Z
def tw8127819273092830560:=Z
def tw9190616593656800106:=Z
def tw9971155843676219171:=Z
def tw13981382197736200366:=Z
def tw468428430612297380:=Z
def tw9523913538529544379:=Z
def tw17879880872218820241:=Z
def tw16387014840385161094:=Z
def tw5545468109825624589:=Z
def tw13303512033028817296:=Z
def tw15076546519434004176:=Z
def tw18174598898798766470:=Z
def tw10604300058624299549:=Z
def tw14173723434919876003:=Z
def tw6044708981710623446:=Z
def tw3131989738196922680:=Z
def tw10744476423646112660:=Z
def tw4019812128444634835:=Z
def tw1315305257859632488:=Z
def tw6924933173329783465:=Z
def tw10106348423446713130:=Z
def tw17144645520806840060:=Z
def tw16312078400298083203:=Z
def tw15587502430620755955:=Z
def tw15154860275486098110:=Z
def tw9756282583291467640:=Z
def tw5743409233051071627:=Z
def tw4258592730250290453:=Z
def tw2289215939941624049:=Z
def tw15803681851032195320:=Z
def tw3557365807295811605:=Z
def tw9130320261134112762:=Z
def tw5956204097025832459:=Z
def tw11506667264362648447:=Z
def tw10426128709400825709:=Z
def tw8486152419800846989:=Z
def tw1632010082988820016:=Z
def tw11276067631273370357:=Z
def tw9240871330711340513:=Z
def tw15602994478618679871:=Z
def tw10741844465623155984:=Z
def tw18243355816614017190:=Z
def tw3565037081401287285:=Z
def tw18073437120043872512:=Z
def tw3043620907713708457:=Z
def tw17228591638223914:=Z
def tw16268682746128483866:=Z
def tw11086815767932512781:=Z
def tw15875953209306908834:=Z
def tw16448910713721306404:=Z
def tw6092511003705424612:=Z
def tw14430740037486478736:=Z
def tw15904537179393118168:=Z
def tw14043414875708934430:=Z
def tw6156932296479413694:=Z
def tw1116243365785204924:=Z
def tw6182954750242530440:=Z
def tw5128916260946948090:=Z
def tw14559513470954086148:=Z
def tw14151141890990834793:=Z
def tw12373001641548112280:=Z
def tw7074580367219292523:=Z
def tw8054626794272808535:=Z
def tw2685594245208134261:=Z
def tw2352855887141956782:=Z
def tw180872064494837298:=Z
def tw14907219936501748443:=Z
def tw4021254525341829788:=Z
def tw1290379379712982778:=Z
def tw18039173970297427897:=Z
def tw1699950472444520057:=Z
def tw2709941036768767501:=Z
def tw15958722345188780558:=Z
def tw13700249373956721095:=Z
def tw17151557078136907195:=Z
def tw18209816550857829510:=Z
def tw15813763076724885760:=Z
def tw15016069728205059398:=Z
def tw7873247709377724897:=Z
def tw14813439888315266232:=Z
def tw2065800691193549070:=Z
def tw13340284814211234035:=Z
def tw14163601347599005981:=Z
def tw7032293677560240141:=Z
def tw13444873456884796919:=Z
def tw1290170783651805152:=Z
def tw7746761676947181991:=Z
def tw9391956984236214869:=Z
def tw4481634185165169398:=Z
def tw11111009461566798895:=Z
def tw11610635040362400969:=Z
def tw14093060037408193462:=Z
def tw11149271643860819177:=Z
def tw13444812943536670149:=Z
def tw17493834200331572228:=Z
def tw1270009491812675789:=Z
def tw17467825669555838497:=Z
def tw9843767930008243795:=Z
def tw14098689591016207550:=Z
def tw7374829734668704911:=Z
def tw9371934076671352449:=Z
def tw3347425271152067063:=Z
def tw9000910175794335306:=Z
def tw6145850965571388765:=Z
def tw4191860212647004867:=Z
def tw3932401686472284495:=Z
def tw152771375534616567:=Z
def tw10630296489231291166:=Z
def tw8551778374916150922:=Z
def tw11736894320393038632:=Z
def tw13941363874099347800:=Z
def tw15555948813401192694:=Z
def tw9511373783790345370:=Z
def tw11860566732907218716:=Z
def tw14127156401977327016:=Z
def tw12005422925667045778:=Z
def tw10935647120240786815:=Z
def tw16923601649926039337:=Z
def tw2137968745589399357:=Z
def tw11576985251867251274:=Z
def tw7435763971849968914:=Z
def tw10301389709142264793:=Z
def tw7861991253816580056:=Z
def tw4338042204897046940:=Z
def tw15035525603332921366:=Z
def tw9992293326469853334:=Z
def tw11530328024187280753:=Z
def tw8843392758490502240:=Z
def tw3565530969041880595:=Z
def tw16076577318925106416:=Z
def tw12957529521876257146:=Z
def tw7412271898587350188:=Z
def tw608420132225601144:=Z
def tw8506652535450551289:=Z
def tw1656190733945113431:=Z
def tw15627176885709568787:=Z
def tw15758780800825831995:=Z
def tw6377009894745780059:=Z
def tw14624078317280429489:=Z
def tw5763764916347741894:=Z
def tw20504458675307111:=Z
def tw3341838733963492955:=Z
def tw3499503907633513558:=Z
def tw12497343096101569506:=Z
def tw13557292081370979962:=Z
def tw16849959401839090955:=Z
def tw12682190703702600769:=Z
def tw9625445354707961453:=Z
def tw3398923799171258141:=Z
def tw11583092902143737857:=Z
def tw1127200412102464680:=Z
def tw6274881215260517339:=Z
def tw682063634728486105:=Z
def tw4100262595989861212:=Z
def tw2239018847887351622:=Z
def tw12897974791132243103:=Z
def tw279508415045458657:=Z
def tw729520850029535334:=Z
def tw8149397753602297037:=Z
def tw3039016483131917470:=Z
def tw524752538888687930:=Z
def tw138281857043969204:=Z
def tw4116424765753998570:=Z
def tw7836110795001627478:=Z
def tw16829643515171047567:=Z
def tw1115023664851304003:=Z
def tw15829933137705960929:=Z
def tw382114078809158953:=Z
def tw4590978873758748523:=Z
def tw12284248753887746828:=Z
def tw7766571227521303493:=Z
def tw3367691559291068825:=Z
def tw18109098159324659674:=Z
def tw5113702395522283726:=Z
def tw18245636977459028649:=Z
def tw16469861100198507011:=Z
def tw964201100569000037:=Z
def tw9725340854202950059:=Z
def tw10132441610296775461:=Z
def tw9973379357092534656:=Z
def tw15045037196502738065:=Z
def tw1497424952359760128:=Z
def tw7138764498646593297:=Z
def tw2417812088235811267:=Z
def tw13185396225975945284:=Z
def tw4132140520859370157:=Z
def tw16230969610124470401:=Z
def tw17948984233991540434:=Z
def tw15063908120416040944:=Z
def tw8938545887812090586:=Z
def tw6167177504827844489:=Z
def tw17026978849098115038:=Z
def tw6649133787541246814:=Z
def tw14053828597348721579:=Z
def tw4597721143194430708:=Z
def tw484229932651040376:=Z
def tw864008858954820078:=Z
def tw9276921993861345208:=Z
def tw17166848411688370959:=Z
def tw18141106448466520447:=Z
def tw7021192953995441781:=Z
def tw17469124516834112647:=Z
def tw4299089873720334138:=Z
def tw11274187951208140073:=Z
def tw11009920728260435443:=Z
def tw16638026180718057178:=Z
def tw5697171969632136053:=Z
def tw3660043011692749698:=Z
def tw7092451307011568287:=Z
def tw4441218750005108428:=Z
def tw1351975619286905837:=Z
def tw4077823510032871023:=Z
def tw4800232577981955304:=Z
def tw11920921980151734233:=Z
def tw14031650265902057826:=Z
def tw12662804951580107046:=Z
def tw12007133922732701519:=Z
def tw16693484448836494044:=Z
def tw13606360682724376978:=Z
def tw15184216047600707262:=Z
def tw13626692278168013832:=Z
def tw4707503987861442274:=Z
def tw14514733957409833814:=Z
def tw10494078373533703015:=Z
def tw3865118700220991344:=Z
def tw11191957253227012628:=Z
def tw11369861733699137235:=Z
def tw11592514687949105666:=Z
def tw7104067568196122234:=Z
def tw11226799542832077223:=Z
def tw15310216923356722301:=Z
def tw14231808303525880957:=Z
def tw2892780829173201334:=Z
def tw12507769584282931053:=Z
def tw4473246555335412809:=Z
def tw17657783133068596261:=Z
def tw6815942203194602401:=Z
def tw6595788061279884292:=Z
def tw310609772852816019:=Z
def tw17759993808395902050:=Z
def tw7296536021080888031:=Z
def tw3809583642113257885:=Z
def tw6156512946361832269:=Z
def tw1196365579364798380:=Z
end PySem.W.Fast
set_option maxRecDepth 100000 in
set_option maxHeartbeats 0 in
theorem PySem.Challenge.cw_cluemaker_k45_what_a_supposing_rests_on_holds : PySem.Challenge.rw_cluemaker_k45_what_a_supposing_rests_on.Holds := by
  w_on; o_law; k_head; (case hw => w_witness2)
  k_fill
  refine L2.walk (l := PySem.Challenge.rw_cluemaker_k45_what_a_supposing_rests_on) rfl rfl (fun w h Y => PySem.W.kIn_of Y) ?F
  case F =>
    intro w mg fa h KX G hmg
    refine' L2.J3 KX G hmg ?_ ?_ ?_ ?_ ?_ ?_ ?_ ?_ ?_ ?_ ?_ ?_ ?_ ?_ ?_ ?_ ?_ ?_ ?_ ?_ ?_ ?_ ?_ ?_ ?_ ?_ ?_ ?_ ?_ ?_ ?_ ?_ ?_ ?_ ?_ ?_ ?_ ?_ ?_ ?_ ?_ ?_ ?_ ?_ ?_ ?_ ?_ ?_ ?_ ?_ ?_ ?_ ?_ ?_ ?_ ?_ ?_ ?_ ?_ ?_ ?_ ?_ ?_ ?_ ?_ ?_ ?_ ?_ ?_ ?_ ?_ ?_ ?_ ?_ ?_ ?_ ?_ ?_ ?_ ?_ ?_ ?_ ?_ ?_ ?_ ?_ ?_ ?_ ?_ ?_ ?_ ?_ ?_ ?_ ?_ ?_ ?_ ?_ ?_ ?_ ?_ ?_ ?_ ?_ ?_ ?_ ?_ ?_ ?_ ?_ ?_ ?_ ?_ ?_ ?_ ?_ ?_ ?_ ?_ ?_ ?_ ?_ ?_ ?_ ?_ ?_ ?_ ?_ ?_ ?_ ?_ ?_ ?_ ?_ ?_ ?_ ?_ ?_ ?_ ?_ ?_ ?_ ?_ ?_ ?_ ?_ ?_ ?_ ?_ ?_ ?_ ?_ ?_ ?_ ?_ ?_ ?_ ?_ ?_ ?_ ?_ ?_ ?_ ?_ ?_ ?_
    all_goals first
      | (refine' L2.De.of ?a (L2.FL ?l ?c ?k); (case a => k_is); (case l => k_is); (case c => k_is); case k => k_is)
      | (refine' L2.Me.of (L2.FL ?l ?c ?k) ?n; (case l => k_is); (case c => k_is); (case k => k_is); case n => k_is)
      | (refine' L2.ClsP.mk ?a ?b ?c ?d ⟨?e, ?f, ?g, ?h⟩; (case a => k_is); (case b => k_is); (case c => k_is); (case d => k_is); (case e => k_is); (case f => k_is); (case g => k_is); case h => k_is)
      | (unfold L2.At8; refine' ⟨?_, ?_, ?_, ?_, ?_, ?_, ?_, ?_⟩ <;> k_is)
      | (refine' L2.GT0.mk' ?a ?b ?x ?y ?c ?d; (case a => k_is); (case b => k_is); (case x => rfl); (case y => rfl); (case c => exact Nat.le_of_lt (L2.aJ (by decide))); (case d => repeat' (first | exact .nil | refine' .cons ⟨_, rfl⟩ ?_)))
      | (refine' L2.ve ?a ?b ?k0 ?h0 ?k1 ?h1 ?k2 ?h2 ?k3 ?h3 ?k4 ?h4 ?k5 ?h5 ?k6 ?h6 ?k7 ?h7 ?k8 ?h8; (case a => k_is); (case b => k_is); (case k0 => k_is); (case h0 => first | exact rfl | with_unfolding_all rfl); (case k1 => k_is); (case h1 => first | exact rfl | with_unfolding_all rfl); (case k2 => k_is); (case h2 => first | exact rfl | with_unfolding_all rfl); (case k3 => k_is); (case h3 => first | exact rfl | with_unfolding_all rfl); (case k4 => k_is); (case h4 => first | exact rfl | with_unfolding_all rfl); (case k5 => k_is); (case h5 => first | exact rfl | with_unfolding_all rfl); (case k6 => k_is); (case h6 => first | exact rfl | with_unfolding_all rfl); (case k7 => k_is); (case h7 => first | exact rfl | with_unfolding_all rfl); (case k8 => k_is); case h8 => first | exact rfl | with_unfolding_all rfl)
      | (unfold L2.Zn; refine' ⟨?_, ?_, ?_, ?_, ?_, ?_, ?_, ?_, ?_, ?_, ?_, ?_, ?_, ?_, ?_, ?_, ?_, ?_, ?_⟩ <;> (unfold L2.Nn; k_is))
      | (unfold L2.Nn; k_is)
      | k_is
      | skip
