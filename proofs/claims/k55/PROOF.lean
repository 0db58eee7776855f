import PyProof.Rows.All
import Wide.All
import OpenK.AllK
import Wide.FinOn
import Lean
import PyProof.EqAt
import PyProof.EqKinds
import PyProof.TupleCall
import PyProof.ZipIter
import PyProof.ConsumeS
import PyProof.StrCalls2
import PyProof.StrWalks
import PyProof.SliceStr2
import PyProof.StrBlock
import PyProof.StrBlockL
import PyProof.ListIndex
import PyProof.StrLawsTight
import PyProof.StrLawsChain
import PyProof.StrLaws
import PyProof.StrLawsFirst
import PyProof.StationsW
import PyProof.ExcClass3
import PyProof.NsDelKeeps
import PyProof.RulesAs
import PyProof.ExcBaseAll.ValueError
import PyProof.ExcArgsOwn
import PyProof.ExcAttrAll.ValueError
import KE.KTryMore
import KE.RegKTryMore
import KE.RegKIsAll
import PyProof.Rows.Range3
import PyProof.Rows.SumGenD
import PyProof.Rows.RuleM_int
import PyProof.EnumMake
import PyProof.EnumFor
import PyProof.EnumStmt
import PyProof.Rows.EnumRows
import KE.KRevIter
import PyProof.ListNew
import PyProof.CollectIter
import PyProof.ListRange
import PyProof.CallStr
import PyProof.StrBlock2
import PyProof.Rows.StrMadeLen
import PyProof.Rows.SetFrom
import PyProof.SetRoads
import PyProof.MeetsStr2
import KE.KRevSl
import PyProof.Conv_int
import PyProof.WalkInts
import PyProof.Rows.SeqMore
import KE.KSortKey
import KE.KLam
import PySem.Challenge.RW_cluemaker_k55_whole_solved
set_option compiler.extract_closed false
set_option Elab.async false
set_option linter.all false
set_option maxRecDepth 100000
open PySem.W (Frag nsIn findIn fnOf isFn codeIn keepIn)
set_option maxHeartbeats 40000000
section
local macro_rules|`(universe $x)=>do
 let mut a:=#[`PySem.Challenge.rw_cluemaker_k55_whole_solved,`PySem.Challenge.pw_cluemaker_k55_whole_solved]
 for i in [0:1207] do a:=a.push (x.getId.str s!"o_{i}")
 for g in ["env 41","heap 39 46 1207","sts 49 71 86 101 116 166 250 308 385 458 538 619 693 717 799 821 850 877 906 928 957 977 1010 1076 1142","tree 47 70 85 100 115 165 249 305 384 457 537 618 692 716 798 820 849 876 905 927 956 976 1009 1075 1141 1206","view 39"] do
  let l:=g.splitOn " "
  for i in l.tail! do a:=a.push (x.getId.str (l.head!++"_"++i))
 return Lean.mkNullNode (<-a.mapM fun n=>do return (<-`(theorem $(Lean.mkIdent (.mkStr4 "PySem" "W" "Fast" s!"tw{n.hash}")):ident:True:=trivial)).raw)
universe PySem.Challenge.t9
end
section
open PySem PySem.W PyProof.Rows
set_option maxHeartbeats 0
open_top PySem.Challenge.t9 for PySem.Challenge.rw_cluemaker_k55_whole_solved
end
namespace O9
section
variable{A B C D E F I J:Type}{G a b c d e f g i:Prop}
theorem ex1{P:A->Prop}(h:∃a,P a)(k:∀a,P a->G):G:=h.elim k
theorem ex2{P:A->B->Prop}(h:∃a b,P a b)(k:∀a b,P a b->G):G:=h.elim fun a h=>ex1 h (k a)
theorem ex3{P:A->B->C->Prop}(h:∃a b c,P a b c)(k:∀a b c,P a b c->G):G:=h.elim fun a h=>ex2 h (k a)
theorem ex4{P:A->B->C->D->Prop}(h:∃a b c d,P a b c d)(k:∀a b c d,P a b c d->G):G:=h.elim fun a h=>ex3 h (k a)
theorem ex5{P:A->B->C->D->E->Prop}(h:∃a b c d e,P a b c d e)(k:∀a b c d e,P a b c d e->G):G:=h.elim fun a h=>ex4 h (k a)
theorem ex6{P:A->B->C->D->E->F->Prop}(h:∃a b c d e f,P a b c d e f)(k:∀a b c d e f,P a b c d e f->G):G:=h.elim fun a h=>ex5 h (k a)
theorem ex7{P:A->B->C->D->E->F->I->Prop}(h:∃a b c d e f g,P a b c d e f g)(k:∀a b c d e f g,P a b c d e f g->G):G:=h.elim fun a h=>ex6 h (k a)
theorem ex8{P:A->B->C->D->E->F->I->J->Prop}(h:∃a b c d e f g i,P a b c d e f g i)(k:∀a b c d e f g i,P a b c d e f g i->G):G:=h.elim fun a h=>ex7 h (k a)
theorem an2(h:a∧b)(k:a->b->G):G:=k h.1 h.2
theorem an3(h:a∧b∧c)(k:a->b->c->G):G:=an2 h.2 (k h.1)
theorem an4(h:a∧b∧c∧d)(k:a->b->c->d->G):G:=an3 h.2 (k h.1)
theorem an5(h:a∧b∧c∧d∧e)(k:a->b->c->d->e->G):G:=an4 h.2 (k h.1)
theorem an6(h:a∧b∧c∧d∧e∧f)(k:a->b->c->d->e->f->G):G:=an5 h.2 (k h.1)
theorem an7(h:a∧b∧c∧d∧e∧f∧g)(k:a->b->c->d->e->f->g->G):G:=an6 h.2 (k h.1)
theorem an8(h:a∧b∧c∧d∧e∧f∧g∧i)(k:a->b->c->d->e->f->g->i->G):G:=an7 h.2 (k h.1)
end
open Lean
abbrev PL:=Array (TSyntax ``Parser.Tactic.rcasesPatLo)
def ob(h:TSyntax `term)(ps:Array Syntax):MacroM Syntax:=do
 let n:=ps.size
 let mut xs:Array (TSyntax `ident):=#[]
 let mut q<-`(tactic|skip)
 for j in [0:n] do
  let r:=ps[n-1-j]![0]
  let p:=r[0][0]
  if p.isOfKind ``Parser.Tactic.rcasesPat.one&&p[0].getId != `rfl then xs:=xs.push ⟨p[0]⟩
  else if p.isOfKind ``Parser.Tactic.rcasesPat.ignore then xs:=xs.push (mkIdent `o0_)
  else
   let v:=mkIdent (<-Macro.addMacroScope (.mkSimple s!"e{j}"))
   xs:=xs.push v
   q<-`(tactic|(obtain $(⟨r⟩):rcasesPatMed:=$v:ident;$q))
 xs:=xs.reverse
 let x:=mkIdent `o1
 let mut t<-`(tactic|rcases $h:term with⟨$((ps.map (⟨·⟩):PL)),*⟩)
 let m:=min (n-1) 8
 let mut al:=#[(0,min n 8)]
 for j in [0:m] do al:=al.push (1,m-j)
 for j in [0:min n 8-2] do al:=al.push (0,min n 8-1-j)
 for (s,k) in al.reverse do
  let l:=mkIdent (.mkStr2 "O9" ((if s=1 then "ex" else "an")++toString k))
  let k:=k+s
  let (ys,r)<-if k=n then pure (xs,q) else
   let zs:PL:=(xs.extract (k-1) n).map fun y=>⟨mkNode ``Parser.Tactic.rcasesPatLo #[mkNode ``Parser.Tactic.rcasesPatMed #[mkNullNode #[mkNode ``Parser.Tactic.rcasesPat.one #[y]]],mkNullNode]⟩
   pure ((xs.extract 0 (k-1)).push x,(<-`(tactic|(obtain⟨$zs,*⟩:=$x:ident;$q))))
  t<-`(tactic|first|(refine $l $h ?_;(try clear $h);intro $ys*;$r)|($t:tactic))
 return t
def rn(ps:Array Syntax):MacroM Syntax:=do
 let n:=ps.size-1
 let t:=ps[n]![0]
 unless t.isOfKind ``Parser.Tactic.rcasesPat.tuple do Macro.throwUnsupported
 let mut xs:Array Term:=#[]
 for j in [0:n] do
  let p:=ps[j]![0]
  if p.isOfKind ``Parser.Tactic.rcasesPat.one&&p[0].getId != `rfl then xs:=xs.push ⟨p[0]⟩
  else if p.isOfKind ``Parser.Tactic.rcasesPat.ignore then xs:=xs.push ⟨mkNode ``Parser.Term.hole #[mkAtom "_"]⟩
  else Macro.throwUnsupported
 let x:=mkIdent `o2
 xs:=xs.push x
 `(tactic|(intro $xs*;obtain $(⟨mkNode ``Parser.Tactic.rcasesPatMed #[mkNullNode #[t]]⟩):rcasesPatMed:=$x:ident))
def W9(p:Prop):=p
theorem w9{p9:Prop}(h9:p9):W9 p9=True:=eq_true h9
theorem w8{p9:Prop}(h9:W9 p9):p9:=h9
end O9
section
local macro_rules|`(by%$k $t)=>if k.getTrailing?.any (·.toString=="\n ") then `(by refine @O9.w8 _ ?_;simp (disch:=k_dflt (refine @id _ ?_;($t))) only[↓O9.w9]) else Lean.Macro.throwUnsupported
local macro_rules|`(tactic|obtain⟨$ps,*⟩:=$h:term)=>let p:=ps.getElems.map (·.raw);if p.size<2||p.any (fun q=>q[0][0].getNumArgs != 1||q[1].getNumArgs>0) then Lean.Macro.throwUnsupported else O9.ob h p
local macro_rules|`(tactic|rintro $ps*)=>O9.rn (ps.map (·.raw))
namespace O9
open Lean
abbrev DS:=StateT (List Char) MacroM
def nx:DS Char:=do
 let l<-get
 set l.tail
 return l.head?.getD ' '
def num:DS Nat:=do
 let k<-get
 let r:=k.takeWhile (·.isDigit)
 set (k.drop (r.length+1))
 return r.foldl (fun x d=>10*x+(d.toNat-48)) 0
def hd(tb:List String):DS (Term×Nat):=do
 let c<-nx
 let c<-if "~'{}_".toList.contains c then pure (toString c++toString (<-nx)) else pure (toString c)
 let e:=((tb.find? (·.startsWith c)).getD "").toList.drop c.length
 let n:=String.ofList e.dropLast
 let r:=String.ofList (e.dropLast.drop 1)
 let m:Term:=if n="_" then ⟨mkNode ``Parser.Term.hole #[mkAtom "_"]⟩ else if n.startsWith "." then ⟨mkNode ``Parser.Term.dotIdent #[mkAtom ".",mkIdent r.toName]⟩ else if n.startsWith "%" then quote r else mkIdent n.toName
 return (m,(e.getLast?.getD '0').toNat-48)
def cmp(c:Char):MacroM Term:=do
 let t<-if c='>' then `(fun i j=>decide (j<i)) else if c='<' then `(fun i j=>decide (i<j)) else if c='(' then `(fun i j=>decide (i<=j)) else `(fun i j=>decide (j<=i))
 `($(mkIdent `cCmp) $t)
def ixs:Nat->DS (Array Term)
|0=>return #[]
|n+1=>do
 let c<-nx
 if c=' ' then return #[]
 let x<-if c='-' then `(none) else `(some $(quote (c.toNat-48)))
 return #[x]++(<-ixs n)
def dec(v:Name)(ts:Array Term)(tb:List String):Nat->DS Term
|0=>return mkIdent v
|n+1=>do
 let c<-nx
 if c.isDigit then `($(mkIdent v) $(quote (c.toNat-48)))
 else if c='|' then
  let d<-nx
  `($(mkIdent v) $(quote (d.toNat-87)))
 else if c='#' then return quote (<-num)
 else if c='`' then return ts[(<-nx).toNat-48]!
 else if c='$' then
  let t<-dec v ts tb n
  `(fun cl s H fp=>$t)
 else if c='!' then `(by decide)
 else if c='=' then `([])
 else if c=',' then
  let a<-dec v ts tb n
  let b<-dec v ts tb n
  `($(mkIdent `tCall) $a [] $(mkIdent `E0) $b)
 else if c='%' then `(by decide +kernel)
 else if c='@' then
  let t<-dec v ts tb n
  `(show ($t : List $(mkIdent `Str)).Nodup by decide +kernel)
 else if c='&' then
  let a<-ixs 99
  `([$a,*])
 else if "<>()".toList.contains c then cmp c
 else if c='.' then
  let d<-nx
  let t<-dec v ts tb n
  return ⟨mkNode ``Parser.Term.namedArgument #[mkAtom "(",mkIdent (if d='x' then `ix else .mkSimple (toString d)),mkAtom ":=",t,mkAtom ")"]⟩
 else
  modify (c::·)
  let (h,k)<-hd tb
  if k=0 then return h
  let mut a:=#[]
  for _ in [0:k] do a:=a.push (<-dec v ts tb n).raw
  return ⟨mkNode ``Parser.Term.app #[h,mkNullNode a]⟩
def tbR:List String:="atCons2 bK0 ctNil0 dtOp3 etC1 f.int1 gtSeq2 hgName1 itRet1 jc0 kcIx0 ltAsg2 md0 ntIfS3 otNext0 ptTest1 qtB1 rtCB2 scEq1 ttLst1 uiList2 v.str1 wtx1 xtComp5 ytNot1 zkLen0 AcAdd0 BaN6 CgCons2 DtTrue0 E.non0 Ffalse0 GtFor3 HcNe1 ItOr2 JtAndV2 K%list0 L.bl1 MaP1 NtTup1 OtBM5 Pc.ok0 QaS1 RtIf3 StFldK3 TcMod0 Ud.ok0 VgTup3 WgNil0 XdO0 YkIsi0 Z.ty1 *tDrop1 +iEnum2 -cMul0 /tPart1 :aX0 ;dW0 ?bH1 [cIn2 ]tGT2 ^cDiv0 ~acSub0 ~btSl4 ~ckF0 ~drNotN0 ~edA1 ~fdX3 ~gkAll0 ~htrue0 ~itMake5 ~jE00 ~kfJ0 ~lsFldK4 ~mkList0 ~nc.A1 ~oaW2 ~pgC0 ~qfC2 ~rbZ1 ~skA1 ~t%spots0 ~ugR2 ~v%rules0 ~wgX3 ~x%place0 ~ygW3 ~zbq1 ~AcP3 ~B%floor0 ~Cdu1 ~DtInG3 ~EfA1 ~FkE1 ~Ga93 ~HbC3 ~I%amount0 ~JiK1 ~KkSum0 ~L%cells0 ~M%signs_at0 ~Nik2 ~O%int0 ~Pdt1 ~Q%tuple0 ~Rim1 ~S%number0 ~Tkm2 ~Ukf0 ~V%mark0 ~WiTup2 ~XrK1 ~YmX1 ~Z%str0 ~*%laws0 ~+%given0 ~-DY4 ~/mY1 ~:sO1 ~;tOrV2 ~?kP1 ~[jv1 ~]cRepL0 ~^ke0 'acN3 'bsp0 'cjz3 'diT1 'epc1 'f%words0 'gtAnd2 'hgU1 'isComp6 'jga1 'ktNotV1 'l%bool0 'mjC1 'nrG0 'ooM1 'poO2 'qoN1 'rmQ1 's%sign0 'twd2 'ukAny0 'v%holds0 'wgS2 'xlq1 'ywj1 'zmS3 'ADP2 'BiZ1 'ClG3 'Dwm1 'EzL0 'Ffz1 'Gi73 'HoQ3 'IiStr1 'Jwc0 'Kpk1 'LrIsN0 'MiD0 'Nnv1 'O.Unlike0 'P.Sum0 'Q.Rising0 'R.Seen0 'S.Count0 'T.Joined0 'U.NoSquare0 'V.Ring0 'WsR2 'XqS1 'YiW0 'ZiI0 '*iE2 '+zj0 '-kK2 '/qV1 ':pq2 ';jL1 '?nI2 '[jN1 ']cShr0 '^rInS1 {a%name0 {bBe2 {ctIxG3 {dgd_RULES_OF_KIND0 {ekQ3 {fkS3 {gip2 {hlN2 {ipD1 {jiq2 {kcOr0 {lgY1 {miL2 {nra2 {ojT1 {pu62 {qnN1 {riM2 {stUn2 {ti92 {ujc2 {v%marked0 {wuR2 {xiZip2 {y%has_clues0 {zpG3 {AmZ3 {BpH1 {Cjd1 {DiO2 {EiP2 {FjR2 {GlZ2 {Hlr2 {IkT1 {J%clues0 {Kyo3 {LkW2 {MjP2 {Nld2 {OkZ2 {PjD0 {Qiw3 {RiF0 {Sgh3 {TpB3 {UjY2 {VnR2 {WnV2 {Xl91 {YiR3 {Zly3 {*rh3 {+lC3 {-fbin3 {/lA3 {:jZ3 {;rIn2 {?ffin3 {[me3 {]thin3 {^pN1 }awx3 }bmn3 }cmq3 }dIB4 }eO11 }fte0 }gjg3 }hpR3 }ijh3 }jpS3 }kji3 }lpT3 }mjj3 }npU3 }ojk3 }pnY1 }qmr3 }rmx3 }smy3 }tfQ3 }umB3 }vj33 }wkLenS1 }xrIxL1 }yzp0 }zeu1 }Agn1 }Bgp1 }Ctw6 }DtabP2 }E%_law_rule0 }Fgq1 }GIH1 }Hgr1 }IlI1 }Jgt1 }KuQ0 }LkStr0 }MtDGet2 }NtDisp1 }Ogu1 }Pgw1 }Qj51 }Rj61 }Sj71 }Tj81 }Ug71 }Vg81 }Wbn11 }Xbn21 }Yoi1 }ZuM1 }*bn31 }+fw1 }-jW1 }/%meets0 }:yw3 };jm3 }?oo3 }[jl3 }]jE3 }^iB3 _ajF3 _boq3 _cor3 _djG3 _ehV3 _fou3 _ggx3 _hgy3 _igz3 _jgA3 _kjr3 _lE21 _mgB3 _nmC1 _oze0 _ptF3 _qjp1 _rmH3 _soR3 _td.A1 _u.Puzzle0 _vdP3 _wmE1 _xoS3 _yIL3 _zoT3 _AgSub3 _BcPut0 _Cqt3 _Dqu3 _Eqv3 _Fvj3 _Gvk3".splitOn " "
def tbF:List String:="aaa2 brfl0 cab0 dhu0 ehr0 fad1 gac2 hae0 ikcal3 jaf1 kkix3 lnd0 maj1 n_0 oaq3 pai0 qkset3 rao4 sap4 tOr.inl1 uau1 var5 wav1 xaw1 yaD4 zay1 AaB5 Bax3 CaE8 DBz.len_0 EaM1 FaJ0 Gaz0 HaG0 Ibj0 JaT0 Kbv1 LaK2 Mbw2 NUf0 OaQ4 PbP2 Qbr5 RaO0 Sb30 TbU1 UP20 VV31 WOr.inr1 XbF1 YcE1 ZP10 *cD2 +dB6 -bV3 /Bz.list_0 :Ua0 ;cH5 ?b90 [bX0 ]Bz.isinstance_0 ^bb0 ~adF5 ~b.ty1 ~cdZ2 ~ddj0 ~ebW1 ~fcK0 ~gfX3 ~hBz.enumerate_0 ~ifZ0 ~jdw0 ~kBz.range_0 ~lcI5 ~mP80 ~nij0 ~oju0 ~pP40 ~qmT2 ~rkD0 ~sdS1 ~tf81 ~uBz.all_0 ~vkG0 ~wgO5 ~xiV0 ~yQa0 ~zQc0 ~Aki3 ~BfV1 ~CQb0 ~DoK5 ~EmU1 ~Ff70 ~GQi0 ~HQj0 ~IQl0 ~JP60 ~KU80 ~LU90 ~Mkg1 ~NBz.tuple_0 ~OlT0 ~Pge4 ~QmN0 ~RQd0 ~SP90 ~TP50 ~UQh0 ~VfW0 ~WQf0 ~XQq0 ~YUM0 ~ZUN0 ~*eD0 ~+%list0 ~-Qp0 ~/P30 ~:P70 ~;iG3 ~?%tuple0 ~[VD0 ~]VE0 ~^oH0 'aQm0 'bmW1 'cBz.sum_0 'duL0 'ezd0 'fkd0 'gQn0 'hQk0 'iQo0 'jQH0 'kzy3 'lBz.int_0 'mEe0 'nuz3 'oQw0 'pDR1 'qQt0 'rQx0 'sHK2 'tqR6 'uuP6 'vBz.set_0 'wQC0 'xo40 'yBz.sorted_0 'zqf0 'Ayc0 'BQy0 'CQu0 'DQe0 'EQS0 'F%int0 'GJc1 'H%bool0 'IBz.bool_0 'JHa0 'KDZ5 'LXy0 'MWM0 'NWN0 'Ozk0 'PcJ0 'QuJ1 'Rxh0 'SQN0 'TQD0 'UQE0 'VQW0 'WQX0 'XG9= 'YQs0 'ZQz0 '*Hf3 '+QY0 '-QO0 '/Cn1 ':Bz.any_0 ';Jz0 '?SI0 '[QP0 ']Sj0 '^RP0 {aQZ0 {bDQ3 {cSk0 {dQr0 {eQv0 {fML0 {gSl0 {hJb2 {iG21 {jOf1 {kIc0 {lOe3 {mBz.zip_0 {nuF0 {oDI4 {pG60 {qPySem.F.slot_list_pop0 {rPySem.F.type_list_pop0 {sJN0 {tgD0 {uy42 {vzM1 {wBz.max_0 {xJy0 {yOu0 {zSS0 {AOt4 {BQ00 {CR60 {DSB0 {ER70 {FNU0 {GGh6 {HSm0 {IR90 {JQF0 {KOg0 {LPj2 {MNT0 {NSF0 {OK_Sum0 {PSE0 {QSU0 {RSK0 {SSD0 {TSn0 {UST0 {VRi0 {WSo0 {XQ60 {YSG0 {ZRU0 {*Rj0 {+RV0 {-Sq0 {/Rl0 {:SL0 {;Rm0 {?Q90 {[Rp0 {]Rn0 {^Sa0 }aRz0 }bRW0 }cRX0 }d%str0 }eBz.str_0 }fJA0 }gXz0 }hPySem.F.slot_str_split0 }iPySem.F.type_str_split0 }jJC0 }kRB0 }lSb0 }mSy0 }nSr0 }oQR0 }pSd0 }qSe0 }rRa0 }sRD0 }tRq0 }uRb0 }vSM0 }wRe0 }xRZ0 }yRc0 }zR00 }AQQ0 }BRs0 }CQG0 }DSf0 }ERt0 }FRu0 }GSs0 }HSu0 }Iqe0 }JRv0 }KRf0 }LRE0 }MRF0 }NRG0 }OGA0 }PRH0 }QRg0 }RRI0 }SSv0 }TQA0 }URJ0 }VQI0 }WRL0 }XRM0 }YQJ0 }ZRN0 }*Sw0 }+QK0 }-RO0 }/QL0 }:R10 };QT0 }?QM0 }[QU0".splitOn " "
def run(s:String)(ts:Array Term):MacroM Term:=do
 let l:=s.toList
 let r:=l.head?==some ':'
 unless (r||(l.head?==some ';')) do Macro.throwUnsupported
 let (t,_)<-(dec (if r then `tVar else `pv) ts (if r then tbR else tbF) 500).run l.tail
 let h:=mkIdent `hr;let u:=mkIdent `hu;let n:=mkIdent `nd;if r then `(by exact $t) else `(fun $h $u $n=>by exact $t)
end O9
local macro_rules|`(tactic|ac_nf)=>`(tactic|dsimp only[$(Lean.mkIdent `L2.start):ident,List.map,List.length_cons,List.length_nil,Nat.reduceAdd,Nat.reduceSub,List.replicate_succ,List.replicate_zero,List.cons_append,List.nil_append])
local macro_rules|`(↑$x)=>`(some (.ref $x))
local macro_rules|`(⇑$x)=>`(some (.int $x))
local macro_rules|`(↥$x)=>`(some (.lst $x))
local macro_rules|`(∅)=>`(List Int)
local macro_rules|`(#[$ts,*])=>let a:=ts.getElems;match a[0]? with|none=>Lean.Macro.throwUnsupported|some e=>match e.raw.isStrLit? with|some s=>O9.run s (a.extract 1 a.size)|none=>match e.raw.isNatLit? with|some 0=>`(by omega)|some 4=>`(by lia)|some 1=>`(by decide)|some 3=>let i:=Lean.mkIdent;`(fun $(i `vs) $(i `H) $(i `Q) _=>$(a[1]!))|_=>Lean.Macro.throwUnsupported
local macro_rules|`(tactic|exists $t)=>if t.raw.isIdent then `(tactic|(ac_nf;unfold $(⟨t.raw⟩):ident;symm)) else `(tactic|(symm;refine $t))
local macro_rules|`(tactic|lia)=>`(tactic|first|lia-verbose|omega)
local macro_rules|`(s!$x)=>do
 let some s:=x.raw[0].isInterpolatedStrLit?|Lean.Macro.throwUnsupported
 `([$((s.toList.map fun c=>Lean.Syntax.mkNumLit (toString c.toNat)).toArray),*])
open List renaming length_map→Tn,getElem?_eq_getElem→To,getElem?_eq_some_iff→Tr,mem_of_getElem?→Tv,getElem?_map→Tw,mem_map→Tz,mem_range→TC,mem_cons_of_mem→TD,mem_singleton→TH,length_append→TJ,mem_filter→TM,mem_cons→TN,mem_cons_self→TR,getElem?_eq_none→TV,getElem_mem→T0,size_toArray→T1,map_cons→T7,length_cons→T8,getElem?_append_left→Ub,getElem?_append_right→Uc,mem_append→Ud,length_filter_le→Ue,foldl_cons→Ul,filter_cons→Um,map_map→Uq,filter_append→Us,take_of_length_le→Ut,length_take→Uu,mem_append_right→UA,nodup_cons→UB,eq_nil_of_length_eq_zero→UC,not_mem_nil→UD,getElem?_range→UE,take_length→UF,length_range→UG,map_append→UJ,lookup_cons→UO,getElem_of_mem→UP,range_succ→UQ,append_assoc→UR,drop_eq_getElem_cons→UV,countP_eq_length_filter→UX,ext_getElem?→U0,sum_cons→U4,foldl_append→U6,length_replicate→U7,set_set→Vb,take_add_one→Vc,map_congr_left→Vd,length_eq_zero_iff→Vi,filter_cons_of_pos→Vj,replicate_succ→Vk,length_pos_iff→Vl,filter_eq_nil_iff→Vn,any_eq_true→Vo,find?_cons→Vv,filter_map→Vw,mem_iff_getElem→Vy,any_cons→VA,map_take→VC,filter_eq_self→VG,drop_length→VI,mem_flatMap→VJ,filter_cons_of_neg→VL,all_map→VN,map_id'→VO,flatten_cons→VR,nodup_append→VS,mem_append_left→VT,mem_of_mem_take→VU,nodup_nil→VW,take_succ→VX,mem_or_eq_of_mem_set→V2,flatMap_append→V6,mem_filterMap→V7,mem_replicate→V9,getElem?_set_self→Wb,any_eq_false→Wc,length_pos_of_mem→Wg,findIdx_lt_length_of_exists→Wh,findIdx_cons→Wi,take_append_drop→Wl,countP_mono_left→Wm,all_cons→Wq,mem_of_mem_drop→Wu,append_nil→Wz,filterMap_cons→WE,filter_sublist→WG,mergeSort_perm→WI,map_replicate→WS,map_id→W0,flatMap_cons→W6,getElem?_set→W7,pairwise_map→W9,set_comm→Xd,length_erase_of_mem→Xe,getElem?_replicate→Xh,length_drop→Xi,nodup_range→Xl,ext_getElem→Xn,drop_eq_nil_of_le→Xv,of_mem_zip→XB,length_nil→XC,length_set→XD,length_singleton→XG,map_drop→XN,map_nil→XU
open Bool renaming and_eq_true→Tx,false_ne_true→TB,true_and→Uj,false_and→Uk,eq_iff_iff→Up,or_eq_true→Uw,false_or→UH,not_eq_true'→UU,true_or→VM,not_eq_true→Wp,not_true→Wr,not_false→WT,false_eq_true→WV,and_self→Xf
open Nat renaming le_refl→TQ,le_trans→TU,lt_of_lt_of_le→Uo,ne_of_lt→Uv,le_of_lt→Uy,le_of_ble_eq_true→UI,zero_le→UK,lt_of_le_of_lt→UW,lt_irrefl→UY,lt_succ_of_lt→Va,mul_le_mul_right→Vf,mul_le_mul→Vg,lt_or_ge→Vm,lt_succ_self→VY,le_add_right→VZ,min_eq_right→V0,add_le_add_left→V5,le_succ→Ws,pow_le_pow_right→Wv,min_eq_left→WC,ne_of_gt→WJ,succ_mul→WK,mul_assoc→Xg,le_mul_of_pos_right→Xm,testBit_lt_two_pow→Xw,sub_self→Xx,add_comm→XW,mul_comm→XX,lt_trans→XY
open Int renaming toNat_natCast→Ui,emod_lt_of_pos→US,emod_nonneg→U5,mul_nonneg→Vs,zero_add→WL,fdiv_eq_ediv_of_nonneg→WP,le_refl→W8,eq_ofNat_of_zero_le→Xk,one_mul→XL
open Option renaming map_eq_some_iff→UL,isSome_map→WY,map_some→XA
open Array renaming length_toList→V4,getElem?_eq_getElem→WW,getElem?_toList→XH
local macro_rules|`(def%$k $i:declId $s:optDeclSig $v:declVal)=>do
 let l:=(k.getTrailing?.map (·.toString)).getD ""
 if l=="  " then return <-`(noncomputable def $i:declId $s:optDeclSig $v:declVal)
 unless l==" " do Lean.Macro.throwUnsupported
 let m:=Lean.mkIdent
 let n:=(<-`(noncomputable def x:=1)).raw[0]
 let y:=s.raw[1][0][1]
 let q:=y.getId.toString
 let u(x z:Lean.Name):=`(Lean.Parser.Term.bracketedBinderF|($(m x):ident:$(m z)))
 let D(b t v:Lean.Syntax)(th:Bool):=
  let t:=Lean.mkNode ``Lean.Parser.Term.typeSpec #[Lean.mkAtom ":",t]
  Lean.mkNode ``Lean.Parser.Command.declaration #[if th then Lean.mkNode ``Lean.Parser.Command.declModifiers (.replicate 8 Lean.mkNullNode) else n,if th then Lean.mkNode ``Lean.Parser.Command.theorem #[Lean.mkAtom "theorem",i,Lean.mkNode ``Lean.Parser.Command.declSig #[b,t],v] else Lean.mkNode ``Lean.Parser.Command.definition #[Lean.mkAtom "def",i,Lean.mkNode ``Lean.Parser.Command.optDeclSig #[b,Lean.mkNullNode #[t]],v,Lean.mkNullNode]]
 if y.isIdent&&q.length=1&&q<"g" then
  let x:=(q.toList.head!).toNat-97
  let b:=#[(<-u `K `Frag),(<-u `c `XZ),(<-u `d `X8)].extract 0 (x%3+1)
  return D (Lean.mkNullNode (b.map (·.raw))) (m (if x<3 then `TS else `Sp)) v false
 let b:=s.raw[0]
 let z:=y[1].getArgs
 let g(n:Nat):Lean.Term:=⟨z[n]!⟩
 let a(n:Nat):Array Lean.Term:=(z.extract n z.size).map (⟨·⟩)
 if y[0].getId=`R then
  let h<-`(Lean.Parser.Term.bracketedBinderF|($(m `h):ident:$(g 1) $(a 3)* $(m `vs) $(m `H) $(m `Q) $(m `E)))
  let l:Array Lean.Term:=((z[0]!.isStrLit?.getD "").splitOn " ").toArray.map fun x=>Lean.quote (x.replace "'" "_law_")
  return D (Lean.mkNullNode (b.getArgs.push h)) (<-`($(g 2) $(a 3)* ($(m `eD9) $(m `Q)) ($(m `start) [$l,*] $(m `vs)) $(m `H))) v true
 if y[0].getId=`J then
  let h<-`(Lean.Parser.Term.bracketedBinderF|($(m `D):ident:$(m `De) $(m `Z.K) $(g 0) $(g 1)))
  let w:=v.raw[1]
  let f:Lean.Term:=⟨w[0]⟩
  let c:Array Lean.Term:=w[1].getArgs.map (⟨·⟩)
  return D (Lean.mkNullNode (b.getArgs.push h)) (<-`($(g 2) $(m `Z) $(a 3)*)) (v.raw.setArg 1 (<-`($(m `okc) $(m `Bz) $(m `D) $f $c*))) true
 return D b y v true
local macro_rules|`(abbrev $i:declId $s:optDeclSig $v:declVal)=>`(noncomputable abbrev $i:declId $s:optDeclSig $v:declVal)
local macro_rules|`(($a,$b,*))=>if a.raw.getTrailing?.any (·.toString==" ") then Lean.Macro.throwUnsupported else `(⟨$a,$b,*⟩)
local macro_rules|`(tactic|show $e)=>`(tactic|refine $e)
namespace L2
open PySem PySem.Spec PyProof.Rows
abbrev Tp:=@decide_eq_true
abbrev Tq:=@decide_eq_false
abbrev Tt:=@decide_eq_true_eq
abbrev Ty:=@List.all_eq_true
abbrev TF:=@of_decide_eq_true
abbrev TX:=@if_neg
abbrev TY:=@Heap.get?_push_of_some
abbrev TZ:=@if_pos
abbrev Ua:=@PySem.F.plainAttrs_list
abbrev Uf:=@PassesOwn.never
abbrev Ug:=@Heap.lt_size
abbrev Uh:=@wpAny_bind
abbrev Ur:=@Heap.get?_push_size
abbrev Ux:=@wpAny_pure
abbrev Uz:=@PyProof.Rows.callWith_type1
abbrev UM:=@PySem.F.slot_list_append
abbrev UN:=@PySem.F.type_list_append
abbrev UT:=@wpAny_mono
abbrev UZ:=@PySem.mem_of_lookup
abbrev U1:=@decide_eq_false_iff_not
abbrev U2:=@wpAny_Call_Name_kw
abbrev U3:=@PySem.W.kia_one
abbrev U8:=@PySem.F.slot_list_index
abbrev U9:=@PySem.F.type_list_index
abbrev Ve:=@Option.some.inj
abbrev Vh:=@wpAny_truthy_bool
abbrev Vp:=@Heap.size_push
abbrev Vq:=@Calls.spliced_cons
abbrev Vr:=@or_false
abbrev Vt:=@Classical.byContradiction
abbrev Vu:=@wpAny_passesOwn
abbrev Vx:=@Calls.spliced_nil
abbrev Vz:=@beq_iff_eq
abbrev VB:=@call_meets
abbrev VD:=@PySem.F.slot_list_extend
abbrev VE:=@PySem.F.type_list_extend
abbrev VF:=@beq_eq_false_iff_ne
abbrev VH:=@wpAny_getItem_str_slice
abbrev VP:=@decide_eq_true_iff
abbrev VQ:=@wpAny_pyIter_list
abbrev V1:=@PySem.F.slot_dict_getitem
abbrev V8:=@tupleKind_room_in1
abbrev Wa:=@Ne.symm
abbrev We:=@if_true
abbrev Wj:=@builtinLookup_eq_fast
abbrev Wn:=@PyProof.Rows.callWith_builtin1
abbrev Wo:=@typeIs_str
abbrev Ww:=@wpAny_execs_nil
abbrev WA:=@pushCells_keeps
abbrev WB:=@post_val_or_str
abbrev WD:=@and_congr_right
abbrev WF:=@PySem.W.plainGet_of
abbrev WH:=@ne_true_of_eq_false
abbrev WM:=@PySem.F.slot_int_bit_length
abbrev WN:=@PySem.F.type_int_bit_length
abbrev WO:=@Calls.Name_function_global
abbrev WQ:=@PySem.W.callWith_K
abbrev WR:=@F.args_str_split_2
abbrev WX:=@Option.some.injEq
abbrev WZ:=@F.entry_str_split
abbrev Xa:=@wpAny_holding
abbrev Xb:=@wpAny_standAt
abbrev Xc:=@wpAny_comprehension_free
abbrev Xj:=@F.slot_str_split
abbrev Xo:=@decide_eq_decide
abbrev Xp:=@wpAny_Name
abbrev Xq:=@PySem.W.cellsFrom_some
abbrev Xr:=@subscriptTail_builtinR
abbrev Xs:=@Calls.callWith_builtin
abbrev Xt:=@Txt.slice_le
abbrev Xy:=@PySem.F.plainAttrs_int
abbrev Xz:=@PySem.F.plainAttrs_str
abbrev XE:=@typeLookup_type
abbrev XF:=@wpAny_storeName_local
abbrev XI:=@PySem.W.methodCall_KW
abbrev XJ:=@sizeLine_eq
abbrev XM:=@Paired.length
abbrev XO:=@boot_range
abbrev XQ:=@Walks.list
abbrev XT:=@codeAny_mono
abbrev XV:=@if_false
abbrev Key:=Sum Int Str
def  keyIs:Key->Value->Bool
 | .inl k,v=>Value.isInt k v
 | .inr x,v=>Value.isStrOf x v
def  keyH(w:World):Key->Int
 | .inl k=>hashInt k
 | .inr x=>hashStr w x
def dL:∀{k:Key} {v:Value},keyIs k v=true->(∃ i t,k=Sum.inl i/\v=Value.int i t)\/(∃ x t,k=Sum.inr x/\v=Value.str x t)
 | .inl i,v,h=>by
  obtain⟨t,e⟩:=Value.isInt_shape (k:=i) (v:=v) h;show .inl (i,t,rfl,e)
 | .inr x,v,h=>by
  obtain⟨t,e⟩:=Value.isStrOf_shape (x:=x) (v:=v) h;show .inr (x,t,rfl,e)
def IY(i:Int)(t:Tok):keyIs (.inl i) (.int i t)=true:=by simp[keyIs,Value.isInt]
def IZ(x:Str)(t:Tok):keyIs (.inr x) (.str x t)=true:=by simp[keyIs,Value.isStrOf]
def NI(a b:Int):decide ((Sum.inl a:Key)=Sum.inl b)=(a==b):=by
 by_cases e:a=b
 . subst e;simp
 . have h:¬ (Sum.inl a:Key)=Sum.inl b:=λq=>e<|Sum.inl.inj q;rw[Tq h];show(VF.mpr e).symm
def NJ(a b:Str):decide ((Sum.inr a:Key)=Sum.inr b)=decide (a=b):=by
 by_cases e:a=b
 . subst e;simp
 . have h:¬ (Sum.inr a:Key)=Sum.inr b:=λq=>e<|Sum.inr.inj q;rw[Tq h,Tq e]
def  NK(a:Int)(b:Str):decide ((Sum.inl a:Key)=Sum.inr b)=false:=Tq (λq=>nomatch q)
def  NL(a:Str)(b:Int):decide ((Sum.inr a:Key)=Sum.inl b)=false:=Tq (λq=>nomatch q)
def  dE(prog:Program)(w:World):PySem.KeyKind prog w Key where
 is:=keyIs
 hash:=keyH w
 inj:=λv a b f d=>by
  rcases dL f with ⟨i,t,rfl,rfl⟩ | ⟨x,t,rfl,rfl⟩
  . rcases dL d with ⟨j,u,rfl,e⟩ | ⟨y,u,rfl,e⟩
    . injection e with e1 _;rw[e1]
    . show nomatch e
  . rcases dL d with ⟨j,u,rfl,e⟩ | ⟨y,u,rfl,e⟩
    . show nomatch e
    . injection e with e1 _;rw[e1]
 byValue:=λk v h=>by
  rcases dL h with ⟨i,t,rfl,rfl⟩ | ⟨x,t,rfl,rfl⟩ <;> rfl
 pyHash:=λc h=>by
  rcases dL c with ⟨i,t,rfl,rfl⟩ | ⟨x,t,rfl,rfl⟩
  . show wpAny_pyHash_int h
  . show wpAny_pyHash_str h
 eqBool:=λg c h=>by
  rcases dL g with ⟨i,t,rfl,rfl⟩ | ⟨x,t,rfl,rfl⟩
  . rcases dL c with ⟨j,u,rfl,rfl⟩ | ⟨y,u,rfl,rfl⟩
    . rw[NI]at h;show wpAny_eqBool_int h
    . rw[NK]at h;show SeqAt.EqAt.int_str i t y u _ _ _ _ h
  . rcases dL c with ⟨j,u,rfl,rfl⟩ | ⟨y,u,rfl,rfl⟩
    . rw[NL]at h;show SeqAt.EqAt.str_int x t j u _ _ _ _ h
    . rw[NJ]at h;show wpAny_eqBool_str h
 «strs»:=λk x t v h=>by
  rcases dL h with ⟨i,u,rfl,e⟩ | ⟨y,u,rfl,e⟩
  . show nomatch e
  . injection e with e1 _;subst e1;cases v <;> rfl
def  Gc(prog:Program)(w:World)(i:Int)(t:Tok):(dE prog w).is (.inl i) (.int i t)=true:=IY i t
def  Gd(prog:Program)(w:World)(x:Str)(t:Tok):(dE prog w).is (.inr x) (.str x t)=true:=IZ x t
inductive V where
 | non | bl (b:Bool) | int (i:Int) | str (x:Str) | byt (b:Array UInt8) | flt (b:UInt64) | ref (a:Addr) | ty (n:String)
 deriving DecidableEq
def  RelV:V->Value->Prop
 | .non,u=>u=Value.none
 | .bl b,u=>u=Value.bool b
 | .int i,u=>∃ t,u=Value.int i t
 | .str x,u=>∃ t,u=Value.str x t
 | .byt b,u=>∃ t,u=Value.bytes b t
 | .flt b,u=>∃ t,u=Value.float b t
 | .ref a,u=>u=Value.ref a
 | .ty n,u=>u=Value.type n
abbrev Vals:List V->List Value->Prop:=Paired RelV
def  Vals.length{xs:List V}{us:List Value}(r:Vals xs us):xs.length=us.length:=XM r
def Vals.get:∀{xs:List V} {us:List Value} {i:Nat} {x:V},Vals xs us->xs[i]? =some x->∃ u,us[i]? =some u/\RelV x u
 | _,_,_,_,.nil,e=>by simp at e
 | _,_,0,_,.cons r _,e=>by simp at e;subst e;show(_,rfl,r)
 | _,_,i+1,x,.cons _ t,e=>by
  obtain⟨u,h1,h2⟩:=Vals.get (i:=i) (x:=x) t (by simpa using e);show(u,by simpa using h1,h2)
def Vals.append:∀{xs ys:List V} {us a:List Value},Vals xs us->Vals ys a->Vals (xs++ys) (us++a)
 | _,_,_,_,.nil,s=>s
 | _,_,_,_,.cons r t,s=>.cons r (Vals.append t s)
def Vals.take:∀{xs:List V} {us:List Value} (n:Nat),Vals xs us->Vals (xs.take n) (us.take n)
 | _,_,0,_=>.nil
 | _,_,_+1,.nil=>.nil
 | _,_,n+1,.cons r t=>.cons r (Vals.take n t)
def Vals.drop:∀{xs:List V} {us:List Value} (n:Nat),Vals xs us->Vals (xs.drop n) (us.drop n)
 | _,_,0,r=>r
 | _,_,_+1,.nil=>.nil
 | _,_,n+1,.cons _ t=>Vals.drop n t
def  RelO:Option V->Option Value->Prop
 | some v,some u=>RelV v u
 | none,none=>True
 | _,_=>False
def  KV{κ:Type}:List (κ × V)->List (κ × Value)->Prop:=Paired λ(p:κ × V) (q:κ × Value)=>p.1=q.1/\RelV p.2 q.2
def  kV:Key->V
 | .inl i=>.int i
 | .inr x=>.str x
inductive HO where
  | lst (xs:List V)
  | tup (xs:List V)
  | dK (Tf:List (Key × V)) | dT (Tf:List (List Key × V))
  | set (S:Int->Bool) (n:Nat)
  | ins (C dx:Addr) (fs:List (Str × V))
  | own (x:Addr)
  | xd (fs:List (Str × V))
  | met (f x:Addr)
  | rng (lo hi:Int)
  | frz (o:Obj) (u:HO)
  | tbl (ps:Array Value)
  | ext (φ:Heap->Prop)
abbrev Hp:=Addr->Option HO
def  upd(H:Hp)(a:Addr)(o:HO):Hp:=λb=>if b=a then some o else H b
variable{H:Hp}{a:Addr}{o:HO}
def ah:upd H a o a=some o:=by unfold upd;rw[TZ rfl]
variable{b:Addr}
def ak(h:b≠a):upd H a o b=H b:=by unfold upd;rw[TX h]
def Pi{u:HO}(h:H a=some o)(h':H b=some u)(d:o≠u):a≠b:=by
 intro e;subst e;rw[h]at h';show d (Ve h')
def aF(h:H a=some o)(h':H b=none):a≠b:=by
 intro e;subst e;rw[h]at h';cases h'
section
variable(P:Program)(w:World)
def  ObjOk(H:Hp)(h:Heap)(a:Addr):HO->Prop
 | .lst xs=>xs.length<=sizeLine/\∃(Tg:List Value) (n:Nat),Vals xs Tg/\h.get? a=some {cls:=.type "list",data:=.seq Tg.toArray n}
 | .tup xs=>xs.length<=sizeLine/\∃ Tg:List Value,Vals xs Tg/\IsTup h a Tg.toArray
 | .dK c=>c.length<=sizeLine/\(a==sysModules)=false/\∃ vs,KV c vs/\h.DictOf (dE P w) a vs
 | .dT c=>c.length<=sizeLine/\(a==sysModules)=false/\∃ xs:List (List Key × Addr × Value),
   Paired (λ(p:List Key × V) (q:List Key × Addr × Value)=>p.1=q.1/\H q.2.1=some (.tup<|p.1.map kV)/\RelV p.2 q.2.2) c xs/\
   ∃ o e g,h.get? a=some o/\o.ExactDict/\o.data=.dict e g/\e.toList=xs.map (entryOfKey<|tupleKind<|dE P w)/\(xs.map (·.1)).Nodup
 | .set S n=>h.SetOf (intKind P w) a S n
 | .ins C d fs=>H d=some (.own a)/\fs.length<=1000/\d≠a/\h.get? a=some (PySem.W.instObj C d)/\
   ∃ b,h.Ns1 d b/\(∀ f,RelO (fs.lookup f)<|b f)/\PySem.Within b (fs.map (·.1))
 | .own _=>∃ o,h.get? a=some o
 | .xd fs=>∃ b,h.Ns1 a b/\∀ f,RelO (fs.lookup f) (b f)
 | .rng lo j=>∃ t u v,h.get? a=some {cls:=.type "range",data:=.fields #[.int lo t,.int j u,.int 1 v]}
 | .frz o u=>h.get? a=some o/\ObjOk H h a u
 | .tbl i=>h.get? a=some {cls:=.none,data:=.fields i}
 | .met f x=>h.get? a=some (PySem.W.methodObj (.ref f)<|.ref x)
 | .ext φ=>φ h/\(∃ o,h.get? a=some o)/\∀ h1 h2:Heap,φ h1->(∀ o,h1.get? a=some o->h2.get? a=some o)->φ h2
def  HOk(H:Hp)(h:Heap):Prop:=∀ a o,H a=some o->ObjOk P w H h a o
end
section
variable{P:Program}{w:World}{H H':Hp}{h h':Heap}{a:Addr}{o:HO}
def ObjOk.lt(x:ObjOk P w H h a o):a<h.objs.size:=by
 cases o with
 | lst d=>obtain⟨_,_,_,_,e⟩:=x;show Ug e
 | tup d=>obtain⟨_,_,_,p⟩:=x;show p.lt
 | dK b=>obtain⟨_,_,_,_,o,_,_,e,_⟩:=x;show Ug e
 | dT b=>obtain⟨_,_,_,_,o,_,_,e,_⟩:=x;show Ug e
 | set S n=>obtain⟨o,_,_,_,e,_⟩:=x;show Ug e
 | ins C g c=>obtain⟨_,_,_,e,_⟩:=x;show Ug e
 | own y=>obtain⟨_,e⟩:=x;show Ug e
 | xd c=>obtain⟨_,⟨_,_,_,e,_⟩,_⟩:=x;show Ug e
 | rng i k=>obtain⟨_,_,_,e⟩:=x;show Ug e
 | frz l u=>obtain⟨e,_⟩:=x;show Ug e
 | tbl j=>show Ug (show h.get? a=some _ from x)
 | met f y=>show Ug (show h.get? a=some _ from x)
 | ext φ=>obtain⟨_,⟨_,e⟩,_⟩:=x;show Ug e
def Paired.mapP{α β:Type}{F G:α->β->Prop}:∀{d:List α} {c:List β},Paired F d c->(∀ a b,F a b->G a b)->Paired G d c
 | _,_,.nil,_=>.nil
 | _,_,.cons r t,f=>.cons (f _ _ r) (Paired.mapP t f)
def ObjOk.stay (x:ObjOk P w H h a o) (k:∀ b u,(b=a\/H b=some (.own a))->h.get? b=some u->h'.get? b=some u)
  (J:∀ b,H b=some (.own a)->H' b=some (.own a)) (F:∀ b xs,H b=some (.tup xs)->H' b=some (.tup xs)):ObjOk P w H' h' a o:=by
 induction o with
 | lst xs=>obtain⟨z,m,n,r,e⟩:=x;show(z,m,n,r,k _ _ (.inl rfl) e)
 | tup xs=>obtain⟨z,m,r,g,e,c⟩:=x;show(z,m,r,g,k _ _ (.inl rfl) e,c)
 | dK D=>obtain⟨z,y,vs,r,g,j,i,e,c⟩:=x;show(z,y,vs,r,g,j,i,k _ _ (.inl rfl) e,c)
 | dT D=>
  obtain⟨z,y,xs,r,g,j,i,e,c⟩:=x;show(z,y,xs,Paired.mapP r λp q z=>(z.1,F _ _ z.2.1,z.2.2),g,j,i,k _ _ (.inl rfl) e,c)
 | set S n=>obtain⟨g,j,i,t,e,c⟩:=x;show(g,j,i,t,k _ _ (.inl rfl) e,c)
 | ins C K G=>
  obtain⟨d,z,I,e,l,⟨s,j,i,e2,c⟩,r⟩:=x;show(J _ d,z,I,k _ _ (.inl rfl) e,l,(s,j,i,k _ _ (.inr d) e2,c),r)
 | own y=>obtain⟨g,e⟩:=x;show(g,k _ _ (.inl rfl) e)
 | xd G=>obtain⟨l,⟨s,j,i,e,c⟩,r⟩:=x;show(l,(s,j,i,k _ _ (.inl rfl) e,c),r)
 | rng L M=>obtain⟨t,u,v,e⟩:=x;show(t,u,v,k _ _ (.inl rfl) e)
 | frz g u E=>obtain⟨e,q⟩:=x;show(k _ _ (.inl rfl) e,E q)
 | tbl B=>
  have e:h.get? a=some {cls:=.none,data:=.fields B}:=x;change h'.get? a=some {cls:=.none,data:=.fields B};show k a _ (.inl rfl) e
 | met f y=>
  have e:h.get? a=some (PySem.W.methodObj (.ref f)<|.ref y):=x;change h'.get? a=some (PySem.W.methodObj (.ref f)<|.ref y);show k a _ (.inl rfl) e
 | ext φ=>obtain⟨p,⟨o,e⟩,A⟩:=x;show(A _ _ p λo q=>k _ _ (.inl rfl) q,(o,k _ _ (.inl rfl) e),A)
def  HOk.lt(x:HOk P w H h)(e:H a=some o):a<h.objs.size:=(x a o e).lt
def HOk.fresh(x:HOk P w H h)(e:h.objs.size<=a):H a=none:=by
 cases q:H a with
 | none=>rfl
 | some u=>show absurd (Uo (x.lt q) e) (UY _)
def  HOk.kept(x:HOk P w H h)(k:∀ b u,h.get? b=some u->h'.get? b=some u):HOk P w H h':=λa o e=>
 (x a o e).stay (λb u _ q=>k b u q) (λ_ q=>q) λ_ _ q=>q
def  HOk.laid(x:HOk P w H h)(k:∀ b u,h.get? b=some u->h'.get? b=some u)(i:h.objs.size<=a)(d:ObjOk P w (upd H a o) h' a o):HOk P w (upd H a o) h':=λb u e=>by
 have g:=x.fresh i;by_cases f:b=a
 . subst f;rw[ah]at e;cases e;show d
 . rw[ak f]at e;show(x b u e).stay (λc v _ q=>k c v q) (λc q=>by rw[ak<|aF q g];show q) λc j q=>by rw[ak<|aF q g];show q
end
def  Rd(H:Hp)(a:Addr)(u:HO):Prop:=H a=some u\/∃ o,H a=some (.frz o u)
variable{h:Heap}
def Rd.ok{P:Program}{w:World}{u:HO}(r:Rd H a u)(x:HOk P w H h):ObjOk P w H h a u:=by
 rcases r with r | ⟨o,r⟩
 . show x a u r
 . obtain⟨_,q⟩:=x a _ r;show q
def  Mut:Option HO->Prop
 | ↥_=>True
 | some (.dK _)=>True
 | some (.dT _)=>True
 | some (.set _ _)=>True
 | some (.ins _ _ _)=>True
 | some (.ext _)=>True
 | _=>False
section
variable{P:Program}{w:World}{H:Hp}{h h':Heap}{x e:Addr}{o':HO}
def  HOk.write (t:HOk P w H h) (l:Mut (H x)) (o:e=x\/H e=some (.own x)) (k:∀ b u,b≠e->h.get? b=some u->h'.get? b=some u) (n:∃ u,h'.get? e=some u)
  (m:ObjOk P w (upd H x o') h' x o'):HOk P w (upd H x o') h':=λb u q=>by
 have d:∀ c y,H c=some (.own y)->c≠x:=λc y r z=>by subst z;rw[r]at l;show l
 have f:∀ c j,H c=some (.tup j)->c≠x:=λc j r z=>by subst z;rw[r]at l;show l
 by_cases g:b=x
 . subst g;rw[ah]at q;cases q;show m
 . rw[ak g]at q;by_cases a:b=e
   . have p:H b=some (.own x):=by
      rcases o with z | z
      . show absurd (a.trans z) g
      . rw[a];show z
     rw[q]at p;cases p;obtain⟨v,s⟩:=n;show(v,by rw[a];show s)
   . show(t b u q).stay (λc v i r=>k c v ?_ r) (λc r=>by rw[ak<|d c b r];show r) λc j r=>by rw[ak<|f c j r];show r
     rcases i with rfl | i
     . show a
     . rintro rfl;rcases o with z | z
       . show d c b i z
       . rw[i]at z;cases z;show g rfl
end
structure Un(fs ex:List Addr)(H H':Hp)(h h':Heap):Prop where
 keep:∀ b o,h.get? b=some o->H b=none->b∉fs->b∉ex->h'.get? b=some o
 slot:∀ b o,h.get? b=some o->H b=none->b∈fs->b∉ex->∃ sl,h'.get? b=some {o with slots:=sl}
 free:∀ b o,h.get? b=some o->H b=none->b∉ex->H' b=none
 there:∀ b o,h.get? b=some o->b∉ex->∃ o',h'.get? b=some o'
 tups:∀ b xs,H b=some (.tup xs)->H' b=some (.tup xs)
 frzs:∀ b o u,H b=some (.frz o u)->H' b=some (.frz o u)
 tbls:∀ b ps,H b=some (.tbl ps)->∃ more,H' b=some (.tbl<|ps++more)
section
variable{fs fs' ex ex':List Addr}{H H1 H2:Hp}{h h1 h2 h':Heap}{a x e:Addr}{o:HO}
def Un.any(u:Un fs ex H H1 h h1){b:Addr}{a:Obj}(q:h.get? b=some a)(n:H b=none)(d:b∉ex):∃ e,h1.get? b=some {a with slots:=e}:=by
 by_cases c:b∈fs
 . show u.slot b a q n c d
 . show(a.slots,u.keep b a q n c d)
def  Un.kept(k:∀ b u,h.get? b=some u->h'.get? b=some u):Un fs ex H H h h':=
 (λb a q _ _ _=>k b a q,λb a q _ _ _=>(a.slots,k b a q),λ_ _ _ n _=>n,λb a q _=>(a,k b a q),λ_ _ q=>q,λ_ _ _ q=>q,λ_ c q=>(#[],by rw[q];simp))
def  Un.refl:Un fs ex H H h h:=Un.kept λ_ _ q=>q
def  Un.laid(k:∀ b u,h.get? b=some u->h'.get? b=some u)(d:h.objs.size<=a)(c:H a=none):Un fs ex H (upd H a o) h h' where
 keep:=λb u q _ _ _=>k b u q
 slot:=λb u q _ _ _=>(u.slots,k b u q)
 free:=λb u q n _=>by rw[ak<|Uv<|Uo (Ug q) d];show n
 there:=λb u q _=>(u,k b u q)
 tups:=λb e q=>by rw[ak<|aF q c];show q
 frzs:=λb u e q=>by rw[ak<|aF q c];show q
 tbls:=λb f q=>(#[],by rw[ak<|aF q c,q];simp)
def Un.write(c:Mut (H x))(j:e=x\/H e=some (.own x))(k:∀ b u,b≠e->h.get? b=some u->h'.get? b=some u)(f:∃ u,h'.get? e=some u):Un fs ex H (upd H x o) h h':=by
 have i:∀ b,H b=none->b≠x:=λb n z=>by subst z;rw[n]at c;show c
 have g:∀ b,H b=none->b≠e:=λb n z=>by
  subst z;rcases j with r | r
  . show i b n r
  . rw[n]at r;cases r
 have d:∀ b u,H b=some u->¬ Mut (some u)->b≠x:=λb u q m z=>by subst z;rw[q]at c;show m c
 show(λb u q n _ _=>k b u (g b n) q,λb u q n _ _=>(u.slots,k b u (g b n) q),λb u q n _=>by rw[ak<|i b n];show n,λb u q _=>?_,
  λb l q=>by rw[ak<|d b _ q λz=>z];show q,λb u l q=>by rw[ak<|d b _ q λz=>z];show q,λb p q=>(#[],by rw[ak<|d b _ q λz=>z,q];simp))
 by_cases a:b=e
 . subst a;show f
 . show(u,k b u a q)
end
def  trk(h:Heap)(H:Hp):List Addr:=(List.range h.objs.size).filter λa=>(H a).isSome
def  hidT(h:Heap)(H:Hp):Heap:=PySem.W.hideAll h (trk h H)
def  Ja(h:Heap)(H:Hp):(hidT h H).objs.size=h.objs.size:=PySem.W.hideAll_size _ _
def  KY{o:Obj}(e:h.get? b=some o)(n:H b=none):(hidT h H).get? b=some o:=
 PySem.W.hideAll_get _ e λa=>by
  have q:(H b).isSome=true:=(TM.mp a).2;rw[n]at q;simp at q
def Mq{o:Obj}(e:(hidT h H).get? b=some o):h.get? b=some o/\H b=none:=by
 have a:h.get? b=some o:=PySem.W.of_hideAll (trk h H) e;show(a,?_)
 cases q:H b with
 | none=>rfl
 | some x=>
  have c:b∈trk h H:=TM.mpr (TC.mpr<|Ug a,by simp[q]);have z:(hidT h H).get? b=none:=PySem.W.hideAll_none (trk h H) c;rw[z]at e;cases e
def  rC(g h:Heap)(L:Addr):List (Addr × Obj):=(List.range h.objs.size).filterMap λa=>if a=L\/(g.get? a).isSome=true then none else(h.get? a).map λo=>(a ,o)
variable{L:Addr}
def  wX{g:Heap}{o:Obj}(h1:a≠L)(h2:g.get? a=none)(h3:h.get? a=some o):(a ,o)∈rC g h L:=
 V7.mpr (a,TC.mpr<|Ug h3,by simp[h1,h2,h3])
def A0{g:Heap}{p:Addr × Obj}(c:p∈rC g h L):p.1≠L/\g.get? p.1=none/\h.get? p.1=some p.2:=by
 obtain⟨b,_,e⟩:=V7.mp c
 split at e
 . cases e
 . rename_i a
   cases q:h.get? b with
   | none=>rw[q]at e;simp at e
   | some u=>
    rw[q]at e;simp only[XA,WX]at e;subst e;show(λz=>a<|.inl z,?_,q);change g.get? b=none
    cases r:g.get? b with
    | none=>rfl
    | some v=>show(a<|.inr (by simp[r])).elim
def  KZ{g:Heap}:News g L h (rC g h L):=λp d=>let ⟨a,b,c⟩:=A0 d;(c,a,b)
structure Mod(K:Frag)(mg:Str->Option Value)(base:Heap):Prop where
 kin:K.In base
 glob:base.Ns mainGlobals mg
 blt:∃ mb,base.Ns builtinsNs mb/\∀ x:Str,x≠"__name__"->mb x=bootBuiltins x
 nolimit:base.NoLimit
structure Cx where
 prog:Program
 w:World
 K:Frag
 mg:Str->Option Value
 base:Heap
 A:Around
 N:List Str
 s₀:Shared
 H₀:Hp
 env:Env
 outer:List Env
 stack:List Env
 ex:List Addr
 fn:Str->Bool
 calm:Bool
 pn:List (Addr × Obj)
 xe:Value->Shared->Prop
def  frs(l:List Env):List Addr:=l.filterMap (·.frame)
abbrev Cx.fs(X:Cx):List Addr:=frs X.outer
def  Vis(a:Scope)(x:Str):Prop:=a.names.lookup x=some .local\/a.names.lookup x=some .cell\/a.names.lookup x=some .free
def  Loc(a:Scope)(x:Str):Prop:=a.names.lookup x=some .local\/a.names.lookup x=some .cell
def  Look(env:Env)(h:Heap)(m:Str->Option Value)(x:Str)(u:Value):Prop:=
 (env.kindOf x=some .local/\m x=some u)\/((env.kindOf x=some .cell\/env.kindOf x=some .free)/\∃ c,env.cells.lookup x=some c/\h.IsCell c (some u))
structure Cx.Ok(X:Cx):Prop where
 mod:Mod X.K X.mg X.base
 kind:X.env.scope.kind=.function
 glob:X.env.globals=mainGlobals
 blt:X.env.builtins=builtinsNs
 above:X.s₀.heap.objs.size<=X.env.locals
 inj:∀ x y c,X.env.cells.lookup x=some c->X.env.cells.lookup y=some c->x=y
 has:∀ x,(X.env.kindOf x=some .cell\/X.env.kindOf x=some .free)->∃ c,X.env.cells.lookup x=some c
 cab:∀ x c,X.fn x=true->X.env.cells.lookup x=some c->X.s₀.heap.objs.size<=c
 hd:X.calm=true->X.A.handled=none
 frames:X.A.frames=some X.stack
 stk:X.stack=X.outer\/(X.stack=X.env::X.outer/\X.env.frame=some X.env.locals)
 exf:∀ b∈X.ex,b≠X.env.locals/\∀ x c,X.env.cells.lookup x=some c->c≠b
 bs:∀ b o,X.base.get? b=some o->X.s₀.heap.get? b=some o/\X.H₀ b=none
 bsz:X.base.objs.size<=X.s₀.heap.objs.size
 noex:∀ b o,X.base.get? b=some o->b∉X.ex
 exfs:∀ b∈X.ex,b∉X.fs
 funs:X.s₀.heap.FunFrames X.base X.outer
 frf:∀ b∈X.fs,X.H₀ b=none
structure Inv(X:Cx)(Tc:List (Addr × Obj))(σ:List (Option V))(H:Hp)(s:Shared):Prop where
 ok:X.Ok
 os:s.os=X.s₀.os
 bare:AllBare s.gens
 base:Un X.fs X.ex X.H₀ H X.s₀.heap s.heap
 loc:∃ m,s.heap.Ns X.env.locals m/\∀(i:Nat) (x:Str) (v:V),X.N[i]? =some x->σ[i]? =some (some v)->Vis X.env.scope x->∃ u,RelV v u/\Look X.env s.heap m x u
 cell:∀ x c,X.env.cells.lookup x=some c->∃ v,s.heap.IsCell c v
 free:H X.env.locals=none
 freeC:∀ x c,X.env.cells.lookup x=some c->H c=none
 pin:∀ p∈X.pn++Tc,s.heap.get? p.1=some p.2/\H p.1=none/\p.1≠X.env.locals/\p.1∉X.fs/\∀ v,p.2.data≠.cell v
 hok:HOk X.prog X.w H s.heap
 len:σ.length=X.N.length
section
variable{X:Cx}{Tc:List (Addr × Obj)}{σ:List (Option V)}{H H':Hp}{s:Shared}{h':Heap}
def  Cx.Ok.nofr(c:X.Ok){b:Addr}{o:Obj}(e:X.base.get? b=some o):b∉X.fs:=λa=>by
 have:=(c.funs.mem a).1;rw[e]at this;cases this
def  Inv.bs(I:Inv X Tc σ H s):∀ b o,X.base.get? b=some o->s.heap.get? b=some o/\H b=none:=λb o e=>
 (I.base.keep b o (I.ok.bs b o e).1 (I.ok.bs b o e).2 (I.ok.nofr e)<|I.ok.noex b o e,I.base.free b o (I.ok.bs b o e).1 (I.ok.bs b o e).2<|I.ok.noex b o e)
def  Inv.bk(I:Inv X Tc σ H s):∀ b o,X.base.get? b=some o->s.heap.get? b=some o:=λb o e=>(I.bs b o e).1
def  Inv.mod(I:Inv X Tc σ H s):Mod X.K X.mg X.base:=I.ok.mod
def  Inv.kIn(I:Inv X Tc σ H s):X.K.In s.heap:=I.ok.mod.kin.keeps I.bk
def  Inv.fr(I:Inv X Tc σ H s):∃ m,Fr X.base X.env.locals s.heap m:=
 let ⟨m,a,_⟩:=I.loc
 (m,a,I.bk,TU I.ok.bsz I.ok.above)
def  Inv.lt(I:Inv X Tc σ H s):X.env.locals<s.heap.objs.size:=let ⟨_,a,_⟩:=I.loc;a.lt
def  Inv.sz(I:Inv X Tc σ H s):X.s₀.heap.objs.size<=s.heap.objs.size:=TU I.ok.above (Uy I.lt)
def  Inv.nofs(I:Inv X Tc σ H s){a:Addr}(h:s.heap.objs.size<=a):a∉X.fs:=λb=>by
 obtain⟨_,o,c,_⟩:=I.ok.funs.mem b;show absurd (Uo (Ug c)<|TU I.sz h) (UY _)
def  Inv.cne(I:Inv X Tc σ H s):∀ x c,X.env.cells.lookup x=some c->c≠X.env.locals:=λx c e z=>by
 obtain⟨v,o,d,f⟩:=I.cell x c e;obtain⟨m,⟨h,i,g,b,a,_⟩,_⟩:=I.loc;rw[z,b]at d;cases d;rw[a]at f;cases f
def Inv.funs(I:Inv X Tc σ H s):s.heap.FunFrames X.base X.outer:=by
 have c:∀(l:List Env),(∀ b∈frs l,b∈X.fs)->X.s₀.heap.FunFrames X.base l->s.heap.FunFrames X.base l:=by
  intro l
  induction l with
  | nil=>intro _ _;trivial
  | cons q r h=>
   intro g p;obtain⟨j,⟨L,o,a,n,m,k⟩,i⟩:=p;have f:L∈X.fs:=g L (by unfold frs;rw[WE,a];show TR);obtain⟨t,e⟩:=I.base.slot L o m (I.ok.frf L f) f λz=>I.ok.exfs L z f;show(j,(L,_,a,n,e,k),h (λb d=>g b (by unfold frs;rw[WE,a];show TD _ d)) i)
 show c X.outer (λ_ d=>d) I.ok.funs
def Inv.stack(I:Inv X Tc σ H s):s.heap.FunFrames X.base X.stack:=by
 rcases I.ok.stk with e | ⟨e,b⟩
 . rw[e];show I.funs
 . rw[e];obtain⟨m,a,_⟩:=I.loc;show .cons (by rw[I.ok.kind];decide) b a ?_ I.funs;show Heap.get?_none_of_le (TU I.ok.bsz I.ok.above)
def  Inv.stkSub(I:Inv X Tc σ H s):∀ b∈frs X.stack,b∈X.env.locals::X.fs:=λb a=>by
 rcases I.ok.stk with e | ⟨e,c⟩
 . rw[e]at a;show TD _ a
 . rw[e]at a;unfold frs at a;rw[WE,c]at a;show a
def  Inv.stkFree(I:Inv X Tc σ H s):∀ b∈frs X.stack,H b=none:=λb a=>by
 rcases TN.mp (I.stkSub b a) with e | a
 . rw[e];show I.free
 . obtain⟨_,o,c,_⟩:=I.ok.funs.mem a;show I.base.free b o c (I.ok.frf b a) λz=>I.ok.exfs b z a
def  Inv.step {g':Array GenState} {t':Nat} {d':Drawn} {ch:List Addr} (I:Inv X Tc σ H s)
  (j:∀ b∈ch,(b∈X.ex\/X.s₀.heap.objs.size<=b)/\b≠X.env.locals/\(∀ x c,X.env.cells.lookup x=some c->c≠b)/\∀ p∈X.pn++Tc,p.1≠b)
  (h:∀ b o,b≠X.env.locals->b∉X.fs->b∉ch->s.heap.get? b=some o->H b=none->h'.get? b=some o)
  (A:∀ b o,b≠X.env.locals->b∈X.fs->b∉ch->s.heap.get? b=some o->H b=none->∃ N,h'.get? b=some {o with slots:=N}) (f:∀ b o,b∉ch->s.heap.get? b=some o->H b=none->H' b=none)
  (C:∀ b o,b∉ch->s.heap.get? b=some o->∃ F,h'.get? b=some F)
  (K:∀ b xs,H b=some (.tup xs)->H' b=some (.tup xs)) (E:∀ b o u,H b=some (.frz o u)->H' b=some (.frz o u)) (J:∀ b L,H b=some (.tbl L)->∃ more,H' b=some (.tbl<|L++more))
  (ns:∀ m,s.heap.Ns X.env.locals m->h'.Ns X.env.locals m) (P:HOk X.prog X.w H' h') (Z:AllBare g'):
  Inv X Tc σ H' {s with heap:=h',gens:=g',drawn:=d',toks:=t'}:=by
 have G:∀ b o,X.s₀.heap.get? b=some o->b≠X.env.locals:=λb o e=>Uv (Uo (Ug e) I.ok.above)
 have y:∀ b o,X.s₀.heap.get? b=some o->b∉X.ex->b∉ch:=λb o e a B=>by
  rcases(j b B).1 with z | z
  . show a z
  . show absurd (Uo (Ug e) z) (UY _)
 have t:∀ x c,X.env.cells.lookup x=some c->∀ v,s.heap.IsCell c v->h'.IsCell c v:=λx c e v ⟨o,D,O⟩=>by
  have g:c∉ch:=λz=>(j c z).2.2.1 x c e rfl;by_cases R:c∈X.fs
  . obtain⟨N,q⟩:=A c o (I.cne x c e) R g D<|I.freeC x c e;show(_,q,O)
  . show(o,h c o (I.cne x c e) R g D<|I.freeC x c e,O)
 show(I.ok,I.os,Z,(λb o e n B a=>?_,λb o e n B a=>?_,λb o e n a=>?_,λb o e a=>?_,λb xs e=>K b xs<|I.base.tups b xs e,λb o xs e=>E b o xs<|I.base.frzs b o xs e,λb L e=>?_),?_,λx c e=>?_,?_,λx c e=>?_,λp T=>?_,P,I.len)
 . show h b o (G b o e) B (y b o e a) (I.base.keep b o e n B a) (I.base.free b o e n a)
 . obtain⟨N,e1⟩:=I.base.slot b o e n B a;obtain⟨M,e2⟩:=A b _ (G b o e) B (y b o e a) e1<|I.base.free b o e n a;show(M,e2)
 . obtain⟨F,e1⟩:=I.base.there b o e a;show f b F (y b o e a) e1 (I.base.free b o e n a)
 . obtain⟨F,e1⟩:=I.base.there b o e a;show C b F (y b o e a) e1
 . obtain⟨m1,e1⟩:=I.base.tbls b L e;obtain⟨W,e2⟩:=J b _ e1;show(m1++W,by rw[e2,Array.append_assoc])
 . obtain⟨m,hn,Y⟩:=I.loc;show(m,ns m hn,λi x v e1 e2 U=>?_);obtain⟨u,r,l⟩:=Y i x v e1 e2 U;show(u,r,?_);rcases l with l | ⟨k,c,e,z⟩
   . show .inl l
   . show .inr (k,c,e,t x c e _ z)
 . obtain⟨v,z⟩:=I.cell x c e;show(v,t x c e v z)
 . obtain⟨m,⟨o,_,_,D,_⟩,_⟩:=I.loc;show f _ o (λz=>(j _ z).2.1 rfl) D I.free
 . obtain⟨v,o,D,O⟩:=I.cell x c e;show f c o (λz=>(j c z).2.2.1 x c e rfl) D (I.freeC x c e)
 . obtain⟨e,n,S,Q,d⟩:=I.pin p T;have g:p.1∉ch:=λz=>(j p.1 z).2.2.2 p T rfl;show(h p.1 p.2 S Q g e n,f p.1 p.2 g e n,S,Q,d)
def Inv.un{t':Nat}(I:Inv X Tc σ H s)(u:Un X.fs [] H H' s.heap h')(c:HOk X.prog X.w H' h'):Inv X Tc σ H' {s with heap:=h',toks:=t'}:=by
 obtain⟨m,⟨o,q,l,h,r⟩,_⟩:=id I.loc;obtain⟨v,j⟩:=u.any h I.free (by simp)
 show I.step (g':=s.gens) (d':=s.drawn) (ch:=[]) (λ_ z=>nomatch z) (λb o _ d _ e n=>u.keep b o e n d (by simp)) (λb o _ d _ e n=>u.slot b o e n d (by simp)) (λb o _ e n=>u.free b o e n (by simp)) (λb o _ e=>u.there b o e (by simp)) u.tups u.frzs u.tbls (λt i=>by
  obtain⟨p,f,g,a,k⟩:=i;rw[h]at a;cases a;show(_,f,g,j,k)) c I.bare
def Inv.call {g':Array GenState} {t':Nat} {d':Drawn} {ch:List Addr} (I:Inv X Tc σ H s) (u:Un (frs X.stack) ch H H' s.heap h') (g:HOk X.prog X.w H' h') (l:AllBare g')
  (d:∀ b∈ch,(b∈X.ex\/X.s₀.heap.objs.size<=b)/\b≠X.env.locals/\(∀ x c,X.env.cells.lookup x=some c->c≠b)/\∀ p∈X.pn++Tc,p.1≠b):
  Inv X Tc σ H' {s with heap:=h',gens:=g',drawn:=d',toks:=t'}:=by
 obtain⟨m,⟨o,C,y,k,r⟩,_⟩:=id I.loc;obtain⟨D,i⟩:=u.any k I.free λz=>(d _ z).2.1 rfl
 show I.step (ch:=ch) d (λb o i q a e n=>u.keep b o e n (λz=>(TN.mp<|I.stkSub b z).elim i q) a) (λb o _ _ a e n=>u.any e n a) (λb o a e n=>u.free b o e n a) (λb o a e=>u.there b o e a) u.tups u.frzs u.tbls (λB t=>by
  obtain⟨A,h,j,f,v⟩:=t;rw[k]at f;cases f;show(_,h,j,i,v)) g l
def Inv.turned {t':Nat} {it:Addr} (I:Inv X Tc σ H s) (k:∀ b o,b≠it->s.heap.get? b=some o->h'.get? b=some o) (t:H it=none) (f:it≠X.env.locals)
  (h1:it∈X.ex\/X.s₀.heap.objs.size<=it) (h2:∀ x c,X.env.cells.lookup x=some c->c≠it) (h3:∀ p∈X.pn++Tc,p.1≠it):Inv X Tc σ H {s with heap:=h',toks:=t'}:=by
 have d:∀ b u,H b=some u->b≠it:=λb u e z=>by rw[z,t]at e;cases e
 show I.step (g':=s.gens) (d':=s.drawn) (ch:=[it]) (λb h=>?_) (λb o _ _ a e _=>k b o (λz=>a (by simp[z])) e) (λb o _ _ a e _=>(o.slots,k b o (λz=>a (by simp[z])) e)) (λ_ _ _ _ n=>n)
  (λb o a e=>(o,k b o (λz=>a (by simp[z])) e)) (λ_ _ e=>e) (λ_ _ _ e=>e) (λb w e=>(#[],by rw[e];simp)) (λm i=>?_) (λb u e=>?_) I.bare
 . have e:b=it:=by simpa using h
   subst e;show(h1,f,h2,h3)
 . obtain⟨o,j,g,l,r⟩:=i;show(o,j,g,k _ o (Wa f) l,r)
 . show(I.hok b u e).stay (λc v a q=>k c v ?_ q) (λ_ q=>q) λ_ _ q=>q;rcases a with z | z
   . rw[z];show d b u e
   . show d c _ z
def  Inv.tok(I:Inv X Tc σ H s)(t:Nat):Inv X Tc σ H {s with toks:=t}:=I.un (h':=s.heap) (t':=t) Un.refl I.hok
def  Inv.kept{t':Nat}(I:Inv X Tc σ H s)(k:∀ b u,s.heap.get? b=some u->h'.get? b=some u):Inv X Tc σ H {s with heap:=h',toks:=t'}:=I.un (Un.kept k) (I.hok.kept k)
def  Inv.laid{a:Addr}{o:HO}{t':Nat}(I:Inv X Tc σ H s)(k:∀ b u,s.heap.get? b=some u->h'.get? b=some u)(d:s.heap.objs.size<=a)(c:ObjOk X.prog X.w (upd H a o) h' a o):
  Inv X Tc σ (upd H a o) {s with heap:=h',toks:=t'}:=I.un (Un.laid k d<|I.hok.fresh d) (I.hok.laid k d c)
def  Inv.write {x e:Addr} {o:HO} {t':Nat} (I:Inv X Tc σ H s) (d:Mut (H x)) (f:e=x\/H e=some (.own x)) (k:∀ b u,b≠e->s.heap.get? b=some u->h'.get? b=some u) (a:∃ u,h'.get? e=some u)
  (c:ObjOk X.prog X.w (upd H x o) h' x o):Inv X Tc σ (upd H x o) {s with heap:=h',toks:=t'}:=I.un (Un.write d f k a) (I.hok.write d f k a c)
def  Inv.pins_of{a:List (Addr × Obj)}(I:Inv X Tc σ H s)(h:∀ p∈a,s.heap.get? p.1=some p.2/\H p.1=none/\p.1≠X.env.locals/\p.1∉X.fs/\∀ v,p.2.data≠.cell v):Inv X a σ H s:=
 (I.ok,I.os,I.bare,I.base,I.loc,I.cell,I.free,I.freeC,λp b=>(Ud.mp b).elim (λz=>I.pin p<|VT _ z)<|h p,I.hok,I.len)
def DN{N:List Str}(c:N.Nodup){i j:Nat}{x:Str}(a:N[i]? =some x)(b:N[j]? =some x):i=j:=by
 obtain⟨h1,e1⟩:=Tr.mp a;obtain⟨h2,e2⟩:=Tr.mp b;show(List.getElem_inj c).mp (e1.trans e2.symm)
def Cb {M:Model} {A:Around} {E:Value->Shared->Prop} {i:Nat} {x:Str} {v:V} {u:Value} {Q:Unit->Shared->Prop} (I:Inv X Tc σ H s) (hN:X.N.Nodup) (O:X.N[i]? =some x) (t:Loc X.env.scope x) (r:RelV v u)
  (h:∀ s',Inv X Tc (σ.set i<|some v) H s'->(∃ a,Heap.SameBut a s.heap s'.heap/\(a=X.env.locals\/X.env.cells.lookup x=some a))->Q () s') (hf:X.fn x=true\/X.env.scope.names.lookup x=some .local:=by first | show .inl rfl | show .inr rfl | assumption):wpAny M A (storeName X.env x u) Q E s:=by
 obtain⟨m,hn,hl⟩:=id I.loc;have K:(X.env.scope.kind==.class||(X.env.scope.kind==.module&&X.env.locals != X.env.globals))=false:=by rw[I.ok.kind];rfl
 have S:i<σ.length:=by rw[I.len];show(Tr.mp O).1
 have J:=I.cne
 have g:∀{a:Addr} {h':Heap},(∃ o,s.heap.get? a=some o/\H a=none)->Heap.SameBut a s.heap h'->HOk X.prog X.w H h':=λ{a h'} ha f b ob e=>by
  obtain⟨_,_,B⟩:=ha;show(I.hok b ob e).stay (λc U l q=>(f.2 c ?_).trans q) (λ_ q=>q) λ_ _ q=>q;rintro rfl;rcases l with rfl | l
  . rw[B]at e;cases e
  . rw[B]at l;cases l
 rcases t with C | C
 . show XF C hn (λh' ae f=>?_) K;obtain⟨oL,_,_,ab,_⟩:=id hn;show h _ (I.ok,I.os,I.bare,(λb o e n G t=>?_,λb o e n G t=>?_,I.base.free,λb o e t=>?_,I.base.tups,I.base.frzs,I.base.tbls),(_,ae,λj y v' e1 e2 Z=>?_),λy c e=>?_,I.free,I.freeC,λp hp=>?_,g (oL,ab,I.free) f,by simpa using I.len) (_,f,.inl rfl)
   . show(f.2 b<|Uv<|Uo (Ug e) I.ok.above).trans (I.base.keep b o e n G t)
   . obtain⟨sl,e1⟩:=I.base.slot b o e n G t;show(sl,(f.2 b<|Uv<|Uo (Ug e) I.ok.above).trans e1)
   . obtain⟨o',e1⟩:=I.base.there b o e t;show(o',(f.2 b<|Uv<|Uo (Ug e) I.ok.above).trans e1)
   . by_cases F:j=i
     . subst F;rw[O]at e1;cases e1;rw[Wb S]at e2;cases e2;show(u,r,.inl (C,by simp))
     . rw[List.getElem?_set_ne<|Wa F]at e2;obtain⟨u',r',q⟩:=hl j y v' e1 e2 Z;show(u',r',?_);rcases q with ⟨k,e⟩ | ⟨k,c,e,z⟩
       . show .inl (k,?_);have:y≠x:=λe=>F<|DN hN e1<|e ▸ O;simp[this,e]
       . show .inr (k,c,e,z.sameBut f<|J y c e)
   . obtain⟨U,z⟩:=I.cell y c e;show(U,z.sameBut f<|J y c e)
   . obtain⟨e,n,W,nf,d⟩:=I.pin p hp;show((f.2 p.1 W).trans e,n,W,nf,d)
 . have D:X.fn x=true:=by
    rcases hf with z | z
    . show z
    . rw[z]at C;cases C
   obtain⟨c,l⟩:=I.ok.has x<|.inl C;obtain⟨U,z⟩:=I.cell x c l;show wpAny_storeName_cell I.ok.kind C l z<|λh' R f=>?_;obtain⟨oc,T,L⟩:=id z;show h {s with heap:=h'} (I.ok,I.os,I.bare,(λb o e n G t=>?_,λb o e n G t=>?_,I.base.free,λb o e t=>?_,I.base.tups,I.base.frzs,I.base.tbls),(m,hn.sameBut f<|Wa<|J x c l,λj y v' e1 e2 Z=>?_),λy Y e=>?_,I.free,I.freeC,λp hp=>?_,g (oc,T,I.freeC x c l) f,by simpa using I.len) (c,f,.inr l)
   . show(f.2 b<|Uv<|Uo (Ug e)<|I.ok.cab x c D l).trans (I.base.keep b o e n G t)
   . obtain⟨sl,e1⟩:=I.base.slot b o e n G t;show(sl,(f.2 b<|Uv<|Uo (Ug e)<|I.ok.cab x c D l).trans e1)
   . obtain⟨o',e1⟩:=I.base.there b o e t;show(o',(f.2 b<|Uv<|Uo (Ug e)<|I.ok.cab x c D l).trans e1)
   . by_cases F:j=i
     . subst F;rw[O]at e1;cases e1;rw[Wb S]at e2;cases e2;show(u,r,.inr (.inl C,c,l,R))
     . rw[List.getElem?_set_ne<|Wa F]at e2;obtain⟨u',r',q⟩:=hl j y v' e1 e2 Z;show(u',r',?_);rcases q with q | ⟨k,Y,e,z'⟩
       . show .inl q
       . show .inr (k,Y,e,z'.sameBut f ?_);rintro rfl;show F (DN hN e1<|I.ok.inj _ _ _ e l ▸ O)
   . by_cases P:Y=c
     . subst P;show(_,R)
     . obtain⟨w2,z2⟩:=I.cell y Y e;show(w2,z2.sameBut f P)
   . obtain⟨e,n,W,nf,d⟩:=I.pin p hp;show((f.2 p.1 ?_).trans e,n,W,nf,d);intro q;rw[q,T]at e;have q':oc=p.2:=Ve e;show d U (by rw[← q'];show L)
def  DO {M:Model} {A:Around} {E:Value->Shared->Prop} {i:Nat} {x:Str} {v:V} {u:Value} {Q:Unit->Shared->Prop} (I:Inv X Tc σ H s) (c:X.N.Nodup) (e:X.N[i]? =some x) (d:Loc X.env.scope x) (r:RelV v u)
  (h:∀ s',Inv X Tc (σ.set i<|some v) H s'->Q () s') (a:X.fn x=true\/X.env.scope.names.lookup x=some .local:=by first | show .inl rfl | show .inr rfl | assumption):wpAny M A (storeName X.env x u) Q E s:=
 Cb I c e d r (λs' b _=>h s' b) a
def Inv.call' {s':Shared} {ch:List Addr} (I:Inv X Tc σ H s) (k:s'.os=s.os) (u:Un (frs X.stack) ch H H' s.heap s'.heap) (d:HOk X.prog X.w H' s'.heap) (i:AllBare s'.gens)
  (a:∀ b∈ch,(b∈X.ex\/X.s₀.heap.objs.size<=b)/\b≠X.env.locals/\(∀ x c,X.env.cells.lookup x=some c->c≠b)/\∀ p∈X.pn++Tc,p.1≠b):Inv X Tc σ H' s':=by
 obtain⟨h',h,f,g,j⟩:=s';have e:j=s.os:=k;subst e;show I.call (g':=h) (t':=g) (d':=f) u d i a
end
abbrev XK:=Value->Option Addr->Hp->Prop
abbrev St:=List (Option V)
abbrev VK:=V->Hp->Prop
abbrev TE:=St->Hp->VK->Prop
abbrev TT:=St->Hp->(Bool->Hp->Prop)->Prop
abbrev TA:=St->Hp->(List V->Hp->Prop)->Prop
structure Ends where
 nx:St->Hp->Prop
 rt:VK
 bk:St->Hp->Prop:=λ_ _=>False
 ct:St->Hp->Prop:=λ_ _=>False
abbrev TS:=Ends->St->Hp->Prop
def  EP(X:Cx)(b:List (Addr × Obj))(σ:St)(Q:VK)(u:Value)(s':Shared):Prop:=∃ v a,Inv X b σ a s'/\RelV v u/\Q v a
def  TP(X:Cx)(c:List (Addr × Obj))(σ:St)(Q:Bool->Hp->Prop)(b:Bool)(s':Shared):Prop:=∃ a,Inv X c σ a s'/\Q b a
def  AP(X:Cx)(b:List (Addr × Obj))(σ:St)(Q:List V->Hp->Prop)(us:List Value)(s':Shared):Prop:=∃ vs a,Inv X b σ a s'/\Vals vs us/\Q vs a
def  SP(X:Cx)(c:List (Addr × Obj))(D:Ends)(f:Flow)(s':Shared):Prop:=
 match f with
 | .next=>∃ b a,Inv X c b a s'/\D.nx b a
 | .brk=>∃ b a,Inv X c b a s'/\D.bk b a
 | .cont=>∃ b a,Inv X c b a s'/\D.ct b a
 | .ret u=>∃ v b a,Inv X c b a s'/\RelV v u/\D.rt v a
def  PE(X:Cx)(e:Expr)(t:TE):Prop:=
 ∀(a:List (Addr × Obj)) (s:Shared) (σ:St) (H:Hp) (Q:VK),Inv X a σ H s->t σ H Q->wpAny (model X.prog X.w) X.A (eval e X.env) (EP X a σ Q) X.xe s
def  PT(X:Cx)(e:Expr)(t:TT):Prop:=
 ∀(a:List (Addr × Obj)) (s:Shared) (σ:St) (H:Hp) (Q:Bool->Hp->Prop),Inv X a σ H s->t σ H Q->wpAny (model X.prog X.w) X.A (isTrue e X.env<|eval e X.env) (TP X a σ Q) X.xe s
def  PW(X:Cx)(e:Expr)(t:TT):Prop:=
 ∀(b:Sem Value) (a:List (Addr × Obj)) (s:Shared) (σ:St) (H:Hp) (Q:Bool->Hp->Prop),Inv X a σ H s->t σ H Q->wpAny (model X.prog X.w) X.A (isTrue e X.env b) (TP X a σ Q) X.xe s
def  PW.pt{X:Cx}{e:Expr}{t:TT}(h:PW X e t):PT X e t:=h _
abbrev V3:=@PW.pt
def  PA(X:Cx)(c:List Expr)(t:TA):Prop:=
 ∀(a:Pos) (b:List (Addr × Obj)) (s:Shared) (σ:St) (H:Hp) (Q:List V->Hp->Prop),Inv X b σ H s->t σ H Q->wpAny (model X.prog X.w) X.A (spliced<|backTo a<|starEach c X.env) (AP X b σ Q) X.xe s
def  PS(X:Cx)(st:Stmt)(t:TS):Prop:=
 ∀(a:List (Addr × Obj)) (s:Shared) (σ:St) (H:Hp) (D:Ends),Inv X a σ H s->t D σ H->wpAny (model X.prog X.w) X.A (exec st X.env) (SP X a D) X.xe s
def  PSs(X:Cx)(st:List Stmt)(t:TS):Prop:=
 ∀(a:List (Addr × Obj)) (s:Shared) (σ:St) (H:Hp) (D:Ends),Inv X a σ H s->t D σ H->wpAny (model X.prog X.w) X.A (execs st X.env) (SP X a D) X.xe s
def  thn{α:Type}{t:Sem α}{Q b:α->Shared->Prop}{M:Model}{A:Around}{E:Value->Shared->Prop}{s:Shared}(h:wpAny M A t Q E s)(c:∀ a s,Q a s->b a s):wpAny M A t b E s:=UT h c λ_ _ x=>x
section
variable{X:Cx}
def  vB:Option (Option V)->(V->Prop)->Prop
 | some (some v),k=>k v
 | _,_=>False
def L3{o:Option (Option V)}{k:V->Prop}(h:vB o k):∃ v,o=some (some v)/\k v:=by
 rcases o with _ | _ | v
 . cases h
 . cases h
 . show(v,rfl,h)
def  oF{o:Option (Option V)}{k:V->Prop}{v:V}(e:o=some (some v))(h:k v):vB o k:=by subst e;show h
def  tVar(i:Nat):TE:=λσ H Q=>vB σ[i]? λv=>Q v H
def  tC(v:V):TE:=λ_ H Q=>Q v H
def NM{i:Nat}{x:Str}{pos:Pos}(k:X.N[i]? =some x)(p:Vis X.env.scope x)(g:(x==("__debug__":Str))=false:=by decide)(f:(x==("__classdict__":Str))=false:=by decide):PE X (.Name x pos) (tVar i):=by
 intro n s σ H Q I h;obtain⟨v,e,h⟩:=L3 h;obtain⟨m,t,o⟩:=I.loc;obtain⟨u,r,l⟩:=o i x v k e p;have d:EP X n σ Q u s:=(v,H,I,r,h);rcases l with ⟨b,q⟩ | ⟨b,c,j,a⟩
 . show Xp (wpAny_loadName_local I.ok.kind b t q d) g
 . rcases b with b | b
   . show Xp (wpAny_loadName_cell I.ok.kind b j a d) g
   . show Xp (wpAny_loadName_free I.ok.kind b j a d f) g
def  ae{i j pos}:PE X (.Constant (.int i) j pos) (tC<|.int i):=λ_ _ _ H _ I h=>wpAny_Constant_int (.int i,H,I.tok _,(_,rfl),h)
def  b3{b j pos}:PE X (.Constant (.bool b) j pos) (tC<|.bl b):=λ_ _ _ H _ I h=>Constant_bool (.bl b,H,I,rfl,h)
def  bj{j pos}:PE X (.Constant .none j pos) (tC .non):=λ_ _ _ H _ I h=>Constant_none (.non,H,I,rfl,h)
def  aG{x j pos}:PE X (.Constant (.str x) j pos) (tC<|.str x):=λ_ _ _ H _ I h=>Calls.Constant_str (.str x,H,I.tok _,(_,rfl),h)
def  Gl(X:Cx)(x:Str):Prop:=X.env.kindOf x=some .globalImplicit
def  A4 {E:Value->Shared->Prop} {d:List (Addr × Obj)} {s:Shared} {σ:St} {H:Hp} {x:Str} {u:Value} {pos:Pos} {Q:Value->Shared->Prop} (I:Inv X d σ H s) (a:Gl X x) (b:X.mg x=some u) (h:Q u s)
  (c:(x==("__debug__":Str))=false:=by decide):wpAny (model X.prog X.w) X.A (eval (.Name x pos) X.env) Q E s:=
 WO I.ok.kind a (Calls.loadGlobal_global (by rw[I.ok.glob];show I.mod.glob.keeps I.bk) b h) c
def fY {E:Value->Shared->Prop} {b:List (Addr × Obj)} {s:Shared} {σ:St} {H:Hp} {x:Str} {u:Value} {pos:Pos} {Q:Value->Shared->Prop} (I:Inv X b σ H s) (a:Gl X x) (c:X.mg x=none) (d:bootBuiltins x=some u) (h:Q u s)
  (f:x≠"__name__":=by decide) (e:(x==("__debug__":Str))=false:=by decide):wpAny (model X.prog X.w) X.A (eval (.Name x pos) X.env) Q E s:=by
 obtain⟨g,h1,h2⟩:=I.mod.blt;show WO I.ok.kind a (Calls.loadGlobal_builtin (by rw[I.ok.glob];show I.mod.glob.keeps I.bk) c (by rw[I.ok.blt];show h1.keeps I.bk) ((h2 x f).trans d) h) e
def bQ{x:Str}{v:V}{u:Value}{pos:Pos}(a:Gl X x)(c:X.mg x=some u)(r:RelV v u)(b:(x==("__debug__":Str))=false:=by decide):PE X (.Name x pos) (tC v):=
 λ_ _ _ H _ I h=>A4 I a c (v,H,I,r,h) b
def dF{x:Str}{v:V}{u:Value}{pos:Pos}(a:Gl X x)(b:X.mg x=none)(c:bootBuiltins x=some u)(r:RelV v u)(e:x≠"__name__":=by decide)(d:(x==("__debug__":Str))=false:=by decide):PE X (.Name x pos) (tC v):=
 λ_ _ _ H _ I h=>fY I a b c (v,H,I,r,h) e d
variable{a b:Expr}{ta tb:TE}{pos:Pos}
def  tB(t:TE):TT:=λσ H Q=>t σ H λx a=>∃ c,x=.bl c/\Q c a
def au{e:Expr}{t:TE}(h:PE X e t)(c:∀ a,isTrue e X.env a=(do let v ← a;standAt e.pos;holding [v]<|truthy v):=by intro _;rfl):PT X e (tB t):=by
 intro b s σ H Q I hw;show isTrue_plain (thn (h b s σ H _ I hw) λv s1 ⟨x,i,f,r1,g⟩=>?_)<|c _;obtain⟨d,rfl,q⟩:=g;cases r1;show Vh (i,f,q)
variable{tA tB':TT}{rest:List Expr}
def  tAnd(t u:TT):TT:=λσ H Q=>t σ H λc a=>if c=true then u σ a Q else Q false a
def  tOr(t u:TT):TT:=λσ H Q=>t σ H λc a=>if c=true then Q true a else u σ a Q
def  tNot(t:TT):TT:=λσ H Q=>t σ H λc a=>Q (!c) a
def G2(b:PT X a tA):PW X (.BoolOp .And [a] pos) tA:=by
 intro f d s σ H Q I h;show isTrue_and (thn (b d s σ H Q I h) λc s1 e=>?_)
 cases c with
 | true=>show isTrue_and_nil e
 | false=>show e
def cE(b:PT X a tA):PW X (.BoolOp .Or [a] pos) tA:=by
 intro f d s σ H Q I h;show isTrue_or (thn (b d s σ H Q I h) λc s1 e=>?_)
 cases c with
 | false=>show isTrue_or_nil e
 | true=>show e
def Jb(k:PT X a tA)(j:PW X (.BoolOp .And (b::rest) pos) tB'):PW X (.BoolOp .And (a::b::rest) pos) (tAnd tA tB'):=by
 intro i d s σ H Q I h;show isTrue_and (thn (k d s σ H _ I h) λc s1 ⟨g,e,f⟩=>?_)
 cases c with
 | true=>show j i d s1 σ g Q e f
 | false=>show(g,e,f)
def bP(k:PT X a tA)(j:PW X (.BoolOp .Or (b::rest) pos) tB'):PW X (.BoolOp .Or (a::b::rest) pos) (tOr tA tB'):=by
 intro i d s σ H Q I h;show isTrue_or (thn (k d s σ H _ I h) λc s1 ⟨g,e,f⟩=>?_)
 cases c with
 | true=>show(g,e,f)
 | false=>show j i d s1 σ g Q e f
def aM(b:PT X a tA):PT X (.UnaryOp .Not a pos) (tNot tA):=by
 intro e s σ H Q I h;show isTrue_not (b e s σ H (λc d=>Q (!c) d) I h)
def  tAndV(ta tb:TE):TE:=λσ H Q=>ta σ H λx a=>∃ c,x=.bl c/\if c=true then tb σ a Q else Q (.bl false) a
def  tOrV(ta tb:TE):TE:=λσ H Q=>ta σ H λx a=>∃ c,x=.bl c/\if c=true then Q (.bl true) a else tb σ a Q
def  tNotV(ta:TE):TE:=λσ H Q=>ta σ H λx a=>∃ c,x=.bl c/\Q (.bl<|!c) a
def  bU{op}{t:TE}(h:PE X a t):PE X (.BoolOp op [a] pos) t:=λb s σ H Q I hw=>BoolOp_one (h b s σ H Q I hw)
def bw(j:PE X a ta)(i:PE X (.BoolOp .And (b::rest) pos) tb):PE X (.BoolOp .And (a::b::rest) pos) (tAndV ta tb):=by
 intro e s σ H Q I h;show BoolOp_and<|thn (j e s σ H _ I h) λv s1 ⟨x,g,f,r1,d⟩=>?_;obtain⟨c,rfl,d⟩:=d;cases r1;show Vh ?_
 cases c with
 | true=>show i e s1 σ g Q f d
 | false=>show(.bl false,g,f,rfl,d)
def HK(j:PE X a ta)(i:PE X (.BoolOp .Or (b::rest) pos) tb):PE X (.BoolOp .Or (a::b::rest) pos) (tOrV ta tb):=by
 intro e s σ H Q I h;show BoolOp_or<|thn (j e s σ H _ I h) λv s1 ⟨x,g,f,r1,d⟩=>?_;obtain⟨c,rfl,d⟩:=d;cases r1;show Vh ?_
 cases c with
 | false=>show i e s1 σ g Q f d
 | true=>show(.bl true,g,f,rfl,d)
def Jc(f:PE X a ta):PE X (.UnaryOp .Not a pos) (tNotV ta):=by
 intro d s σ H Q I h;show UnaryOp_<|thn (f d s σ H _ I h) λv s1 ⟨x,g,e,r1,b⟩=>?_;obtain⟨c,rfl,b⟩:=b;cases r1;show not_of (Vh (.bl<|!c,g,e,rfl,b))
def  tIf(t:TT)(ta tb:TE):TE:=λσ H Q=>t σ H λc a=>if c=true then ta σ a Q else tb σ a Q
def bV{c:Expr}(k:PT X c tA)(l:PE X a ta)(j:PE X b tb):PE X (.IfExp c a b pos) (tIf tA ta tb):=by
 intro e s σ H Q I h;show wpAny_IfExp (thn (k e s σ H _ I h) λd s1 ⟨i,f,g⟩=>?_)
 cases d with
 | true=>show l e s1 σ i Q f g
 | false=>show j e s1 σ i Q f g
end
def  SqL(K:Frag)(H:Hp)(a:Addr)(xs:List V):Prop:=
 Rd H a (.lst xs)\/
  ∃(o:Obj) (b:Array Value) (n:Nat),K.lookup a=some o/\o.cls=.type "list"/\o.dict=none/\o.data=.seq b n/\b.size<=sizeLine/\Vals xs b.toList
def  SqT(K:Frag)(H:Hp)(a:Addr)(xs:List V):Prop:=
 Rd H a (.tup xs)\/
  ∃(o:Obj) (b:Array Value) (n:Nat),K.lookup a=some o/\o.cls=.type "tuple"/\o.data=.seq b n/\b.size<=sizeLine/\Vals xs b.toList
def  absV:Value->Option V
 | .none=>some .non
 | .bool b=>some (.bl b)
 | .int i _=>⇑i
 | .str x _=>some (.str x)
 | .bytes b _=>some (.byt b)
 | .float b _=>some (.flt b)
 | .ref a=>↑a
 | .type n=>some (.ty n)
 | _=>none
variable{u:Value}
def RelV.abs{x:V}(r:RelV x u):absV u=some x:=by
 cases x with
 | non=>cases r;rfl
 | bl _=>cases r;rfl
 | int _=>obtain⟨t,rfl⟩:=r;rfl
 | str _=>obtain⟨t,rfl⟩:=r;rfl
 | byt _=>obtain⟨t,rfl⟩:=r;rfl
 | flt _=>obtain⟨t,rfl⟩:=r;rfl
 | ref _=>cases r;rfl
 | ty _=>cases r;rfl
def  RelV.inj{x y:V}(r:RelV x u)(q:RelV y u):x=y:=Ve (r.abs.symm.trans q.abs)
def Vals.inj:∀{xs ys:List V} {us:List Value},Vals xs us->Vals ys us->xs=ys
 | _,_,_,.nil,.nil=>rfl
 | _,_,_,.cons r t,.cons r' t'=>by rw[r.inj r',Vals.inj t t']
section
variable{X:Cx}{Tc:List (Addr × Obj)}{σ:St}{H:Hp}{s:Shared}{a:Addr}{xs ys:List V}
def  SqL.of{K:Frag}(h:H a=↥xs):SqL K H a xs:=.inl (.inl h)
abbrev TW:=@SqL.of
def  SqT.of{K:Frag}(h:H a=some (.tup xs)):SqT K H a xs:=.inl (.inl h)
abbrev XR:=@SqT.of
def Inv.list(I:Inv X Tc σ H s)(h:SqL X.K H a xs):∃ Tg:List Value,Vals xs Tg/\PlainL s.heap a Tg.toArray/\xs.length<=sizeLine:=by
 rcases h with h | ⟨o,Tg,n,c,b,f,d,g,r⟩
 . obtain⟨z,Tg,n,r,e⟩:=h.ok I.hok;show(Tg,r,(_,n,e,rfl,rfl,rfl),z)
 . show(Tg.toList,r,(o,n,I.kIn a o c,b,f,by simpa using d),?_);have e:=r.length;simp only[V4]at e;lia
def Inv.tuple(I:Inv X Tc σ H s)(h:SqT X.K H a xs):∃ Tg:List Value,Vals xs Tg/\IsTup s.heap a Tg.toArray/\xs.length<=sizeLine:=by
 rcases h with h | ⟨o,Tg,n,d,c,b,f,r⟩
 . obtain⟨z,Tg,r,p⟩:=h.ok I.hok;show(Tg,r,p,z)
 . show(Tg.toList,r,(o,I.kIn a o d,c,n,by simpa using b),?_);have e:=r.length;simp only[V4]at e;lia
def Inv.list_inj(I:Inv X Tc σ H s)(h:SqL X.K H a xs)(h':SqL X.K H a ys):xs=ys:=by
 obtain⟨g,r,⟨o,n,e,_,_,d⟩,_⟩:=I.list h;obtain⟨b,i,⟨j,k,c,_,_,f⟩,_⟩:=I.list h';rw[e]at c;cases c;rw[d]at f;injection f with d1 _;have:g=b:=by simpa using congrArg Array.toList d1
 subst this;show r.inj i
def Inv.tuple_inj(I:Inv X Tc σ H s)(h:SqT X.K H a xs)(h':SqT X.K H a ys):xs=ys:=by
 obtain⟨g,r,⟨o,e,_,n,d⟩,_⟩:=I.tuple h;obtain⟨b,i,⟨j,c,_,k,f⟩,_⟩:=I.tuple h';rw[e]at c;cases c;rw[d]at f;injection f with d1 _;have:g=b:=by simpa using congrArg Array.toList d1
 subst this;show r.inj i
end
abbrev Cx.wish(X:Cx)(E:Value->Shared->Prop):Cx:={X with xe:=E}
abbrev Cx.nox(X:Cx):Cx:=X.wish λ_ _=>False
variable{X:Cx}
def  Cx.Ok.wish(a:X.Ok)(E:Value->Shared->Prop):(X.wish E).Ok:=
 (a.mod,a.kind,a.glob,a.blt,a.above,a.inj,a.has,a.cab,a.hd,a.frames,a.stk,a.exf,a.bs,a.bsz,a.noex,a.exfs,a.funs,a.frf)
variable{E:Value->Shared->Prop}
def  Cx.Ok.unwish(a:(X.wish E).Ok):X.Ok:=
 (a.mod,a.kind,a.glob,a.blt,a.above,a.inj,a.has,a.cab,a.hd,a.frames,a.stk,a.exf,a.bs,a.bsz,a.noex,a.exfs,a.funs,a.frf)
section
variable{X:Cx}{Tc:List (Addr × Obj)}{σ:St}{H:Hp}{s:Shared}{E:Value->Shared->Prop}
def  Inv.wish(I:Inv X Tc σ H s)(E:Value->Shared->Prop):Inv (X.wish E) Tc σ H s:=(I.ok.wish E,I.os,I.bare,I.base,I.loc,I.cell,I.free,I.freeC,I.pin,I.hok,I.len)
def  Inv.unwish(I:Inv (X.wish E) Tc σ H s):Inv X Tc σ H s:=(I.ok.unwish,I.os,I.bare,I.base,I.loc,I.cell,I.free,I.freeC,I.pin,I.hok,I.len)
def SP.unwish{D:Ends}{f:Flow}{s':Shared}(h:SP (X.wish E) Tc D f s'):SP X Tc D f s':=by
 cases f with
 | next=>obtain⟨b,a,I,q⟩:=h;show(b,a,I.unwish,q)
 | brk=>obtain⟨b,a,I,q⟩:=h;show(b,a,I.unwish,q)
 | cont=>obtain⟨b,a,I,q⟩:=h;show(b,a,I.unwish,q)
 | ret u=>obtain⟨v,b,a,I,r,q⟩:=h;show(v,b,a,I.unwish,r,q)
def  PSs.nox{st:List Stmt}{t:TS}(h:PSs X.nox st t):PSs X st t:=λTc s σ H D I hw=>
 UT (h Tc s σ H D (I.wish _) hw) (λ_ _ q=>q.unwish) λ_ _ z=>False.elim z
end
section
variable{X:Cx}{st:Stmt}{rest:List Stmt}{t u:TS}{e:Expr}{te:TE}{pos:Pos}
def  tNext:TS:=λD σ H=>D.nx σ H
def  tSeq(t u:TS):TS:=λD σ H=>t {D with nx:=u D} σ H
def  ai:PSs X [] tNext:=λ_ _ σ H _ I h=>Ww (σ,H,I,h)
def ac(h1:PS X st t)(h2:PSs X rest u):PSs X (st::rest) (tSeq t u):=by
 intro a s σ H D I h;show wpAny_execs_cons (thn (h1 a s σ H {D with nx:=u D} I h) λf s1 q=>?_)
 cases f with
 | next=>
  obtain⟨d,b,c,q⟩:=q;show h2 a s1 d b D c q
 | ret v=>show q
 | brk=>show q
 | cont=>show q
def ad(h1:PS X st t):PSs X [st] t:=by
 intro a s σ H D I h;show wpAny_execs_cons (thn (h1 a s σ H D I h) λf s1 q=>?_)
 cases f with
 | next=>show Ww q
 | ret v=>show q
 | brk=>show q
 | cont=>show q
def Inv.quiet{a:List (Addr × Obj)}{σ:St}{H:Hp}{s:Shared}(I:Inv X a σ H s):interactive X.env=false:=by simp[interactive,I.ok.kind]
def  tDrop(te:TE):TS:=λD σ H=>te σ H λ_ a=>D.nx σ a
def dS(b:PE X e te)(f:swapsWith e none pos.line X.env=pure false:=by rfl):PS X (.Expr e pos) (tDrop te):=by
 intro a s σ H D I h;show wpAny_Expr_any (thn (b a s σ H _ I h) λv s1 ⟨x,g,c,r1,d⟩=>(σ,g,c,d)) I.quiet f
def  tRet(te:TE):TS:=λD σ H=>te σ H D.rt
def af(b:PE X e te):PS X (.Return (some e) pos) (tRet te):=by
 intro a s σ H D I h;show wpAny_Return_some (thn (b a s σ H _ I h) λv s1 ⟨x,f,c,r1,d⟩=>(x,σ,f,c,r1,d))
def  tRetN:TS:=λD _ H=>D.rt .non H
def  tIfS(c:TT)(t u:TS):TS:=λD σ H=>c σ H λb a=>if b=true then t D σ a else u D σ a
def aq{c:Expr}{a b:List Stmt}{i:TT}(l:PT X c i)(m:PSs X a t)(k:PSs X b u):PS X (.If c a b pos) (tIfS i t u):=by
 intro e s σ H D I h;show wpAny_If (thn (l e s σ H _ I h) λd s1 ⟨j,f,g⟩=>?_)
 cases d with
 | true=>show m e s1 σ j D f g
 | false=>show k e s1 σ j D f g
def  dO:TS:=λ_ _ _=>False
def  b9:PS X st dO:=λ_ _ _ _ _ _ h=>h.elim
end
abbrev TG:=V->St->Hp->(St->Hp->Prop)->Prop
abbrev TGs:=List V->St->Hp->(St->Hp->Prop)->Prop
def  PG(X:Cx)(a:Expr)(t:TG):Prop:=
 ∀(b:List (Addr × Obj)) (s:Shared) (σ:St) (H:Hp) (v:V) (u:Value) (Q:St->Hp->Prop),Inv X b σ H s->RelV v u->t v σ H Q->
  wpAny (model X.prog X.w) X.A (assign a X.env u) (λ_ e=>∃ c d,Inv X b c d e/\Q c d) X.xe s
def  PGs(X:Cx)(ts:List Expr)(t:TGs):Prop:=
 ∀(a:List (Addr × Obj)) (s:Shared) (σ:St) (H:Hp) (vs:List V) (c:List Value) (Q:St->Hp->Prop),Inv X a σ H s->Vals vs c->t vs σ H Q->
  wpAny (model X.prog X.w) X.A (assignInOrder ((assignEach ts X.env).map (·.2)) c) (λ_ e=>∃ b d,Inv X a b d e/\Q b d) X.xe s
abbrev TSet:=V->V->V->Hp->(Hp->Prop)->Prop
def  PSet(X:Cx)(t:TSet):Prop:=
 ∀(b:List (Addr × Obj)) (s:Shared) (σ:St) (H:Hp) (o i v:V) (c a u:Value) (Q:Hp->Prop),Inv X b σ H s->RelV o c->RelV i a->RelV v u->t o i v H Q->
  wpAny (model X.prog X.w) X.A (setItem c a u) (λ_ e=>∃ d,Inv X b σ d e/\Q d) X.xe s
section
variable{X:Cx}{pos:Pos}
def  gName(i:Nat):TG:=λv σ H Q=>Q (σ.set i<|some v) H
def ap{i:Nat}{x:Str}(c:X.N.Nodup)(e:X.N[i]? =some x)(d:Loc X.env.scope x)(a:X.fn x=true\/X.env.scope.names.lookup x=some .local:=by first | show .inl rfl | show .inr rfl | assumption):PG X (.Name x pos) (gName i):=by
 intro f s σ H v u Q I r h;show wpAny_assign_Name (DO I c e d r (λg b=>(_,H,b,h)) a)
def  gNil:TGs:=λvs σ H Q=>vs=[]/\Q σ H
def  gCons(t:TG)(u:TGs):TGs:=λvs σ H Q=>∃ v r,vs=v::r/\t v σ H λb a=>u r b a Q
def dj:PGs X [] gNil:=by
 intro a s σ H vs b Q I r h;obtain⟨e,h⟩:=h;subst e;cases r;show assignInOrder_nil (σ,H,I,h)
def aK {e:Expr} {a:List Expr} {t:TG} {u:TGs} (h1:PG X e t) (h2:PGs X a u)
  (g:(assignEach (e::a) X.env).map (·.2)=assign e X.env::(assignEach a X.env).map (·.2):=by rfl):PGs X (e::a) (gCons t u):=by
 intro b s σ H vs l Q I r h;obtain⟨v,k,e1,h⟩:=h;subst e1
 cases r with
 | cons r i=>
  rw[g];show assignInOrder_cons<|thn (h1 b s σ H _ _ _ I r h) λ_ s1 ⟨c,j,d,f⟩=>?_;show h2 b s1 c j _ _ Q d i f
def  gTup(K:Frag)(n:Nat)(t:TGs):TG:=λv σ H Q=>∃ a b,v=.ref a/\SqT K H a b/\b.length=n/\t b σ H Q
def dZ {c:List Expr} {k:Nat} {t:TGs} {n:Nat} (l:X.calm=true) (h:PGs X c t)
  (q:(assignEach c X.env).length=n:=by rfl) (d:(assignEach c X.env).findIdx? (·.1)=none:=by rfl):PG X (.Tuple c k pos) (gTup X.K n t):=by
 intro f s σ H v u Q I r hw;obtain⟨a,w,e1,y,x,hw⟩:=hw;subst e1;cases r;obtain⟨z,g,j,A⟩:=I.tuple y;show assign_Tuple_tuple (I.ok.hd l) j (by simp[q,← x,g.length]) d λi p=>?_;have m:Inv X f σ H {s with heap:=i}:=I.kept (t':=s.toks) λb o e=>p b o (Uv<|Ug e) e;show h f _ σ H w _ Q m (by simpa using g) hw
def  gSub(d a:TE)(t:TSet):TG:=λv σ H Q=>d σ H λo e=>a σ e λi b=>t o i v b λc=>Q σ c
def NN {o i:Expr} {e d:TE} {t:TSet} (q:PE X o e) (k:PE X i d) (j:PSet X t)
  (p:∀ v,assign (.Subscript o i pos) X.env v=(do
   let a ← holding [v] (eval o X.env);let b ← holding [v,a] (eval i X.env)
   standAt pos
   holding [v,a,b] (setItem a b v)
   release [v,a,b] []):=by intro _;rfl):PG X (.Subscript o i pos) (gSub e d t):=by
 intro c s σ H v u Q I r h;rw[p];show Uh<|Xa<|thn (q c s σ H _ I h) λa s1 ⟨x,C,f,r1,B⟩=>?_;show Uh<|Xa<|thn (k c s1 σ C _ f B) λb z ⟨y,m,l,r2,n⟩=>?_;show Uh<|Xb<|Uh<|Xa<|thn (j c z σ m x y v a b u _ l r1 r2 r n) λ_ D ⟨g,w,A⟩=>?_;show wpAny_release (σ,g,w,A)
def  tAsg(te:TE)(g:TG):TS:=λD σ H=>te σ H λx a=>g x σ a D.nx
def  y4 {a e:Expr} {te:TE} {g:TG} (d:PE X e te) (c:PG X a g) (j:swapsWithSole [a] e pos.line X.env=pure false:=by rfl) (hw:swappedStores [a] e X.env=pure none:=by rfl)
  (h1:(assignEach [a] X.env).map (·.2)=[assign a X.env]:=by rfl):PS X (.Assign [a] e pos) (tAsg te g):=by
 intro b s σ H D I h;show wpAny_Assign_stores (thn (d b s σ H _ I h) λv s1 ⟨x,k,f,r1,i⟩=>?_) j hw;rw[h1];show thn (c b s1 σ k x v _ f r1 i) λ_ l q=>q
def  cH{i:Nat}{x:Str}{e:Expr}{te:TE}{a:Pos}(d:X.N.Nodup)(n:X.N[i]? =some x)(g:Loc X.env.scope x)(j:PE X e te)(m:swapsWith e (some<|.Name x a) pos.line X.env=pure false:=by rfl)(b:X.fn x=true\/X.env.scope.names.lookup x=some .local:=by first | show .inl rfl | show .inr rfl | assumption):
  PS X (.Assign [.Name x a] e pos) (tAsg te<|gName i):=by
 intro f s σ H D I h;show wpAny_Assign_Name (thn (j f s σ H _ I h) λv s1 ⟨y,o,k,r1,l⟩=>?_) m;show DO k d n g r1 (λp c=>(_,o,c,l)) b
end
section
variable{X:Cx}{pos:Pos}
def  DP(c:TT)(g:TS):TS:=λD σ H=>∃ W:Nat->St->Hp->Prop,(∃ m,W m σ H)/\∀ m σ H,W m σ H->
 c σ H λb f=>if b=true then ∃ N:St->Hp->Prop,(∀ a e,N a e->∃ d,d<m/\W d a e)/\g {D with nx:=N,ct:=N,bk:=D.nx} σ f else D.nx σ f
def DQ{c:Expr}{a:List Stmt}{C:TT}{x:TS}(z:PassesOwn (model X.prog X.w) X.A X.env X.xe)(P:PT X c C)(O:PSs X a x):PS X (.While c a [] pos) (DP C x):=by
 intro l s σ H D I h;obtain⟨W,⟨J,G⟩,e⟩:=h;show wpAny_While<|codeAny_whileLoop (λn M=>∃ y E,Inv X l y E M/\W n y E) ?_ J (σ,H,I,G);rintro n s1 ⟨i,F,K,L⟩;show Vu z (thn (P l s1 i F _ K<|e n i F L) λb Q ⟨u,t,j⟩=>?_)
 cases b with
 | true=>
  obtain⟨N,B,j⟩:=j;rw[TZ rfl];show Vu z (thn (O l Q i u _ t j) λf R k=>?_)
  cases f with
  | next=>
   obtain⟨g,d,q,m⟩:=k;obtain⟨p,r,o⟩:=B g d m;show(p,r,g,d,q,o)
  | cont=>
   obtain⟨g,d,q,m⟩:=k;obtain⟨p,r,o⟩:=B g d m;show(p,r,g,d,q,o)
  | brk=>show k
  | ret v=>show k
 | false=>
  rw[TX TB];show Ww (i,u,t,j)
end
structure It where
 go:Nat->Hp->Prop
 yld:Nat->Hp->V->Hp->Prop
 stop:Nat->Hp->Prop
def  FpOk(X:Cx)(a:List (Addr × Obj))(H:Hp)(b:Addr):Prop:=
 H b=none/\b≠X.env.locals/\b∉X.fs/\(b∈X.ex\/X.s₀.heap.objs.size<=b)/\(∀ x c,X.env.cells.lookup x=some c->c≠b)/\∀ p∈X.pn++a,p.1≠b
def Inv.fpOk{d:List (Addr × Obj)}{σ:St}{H f:Hp}{s:Shared}{b:Addr}(I:Inv X d σ H s)(a:s.heap.objs.size<=b)(g:f b=none):FpOk X d f b:=by
 show(g,WJ<|Uo I.lt a,I.nofs a,.inr<|TU I.sz a,λx c e z=>?_,λp h z=>?_)
 . obtain⟨v,q⟩:=I.cell x c e;show absurd (Uo q.lt (by rw[z];show a)) (UY _)
 . show absurd (Uo (Ug (I.pin p h).1) (by rw[z];show a)) (UY _)
structure Turn(P:Program)(w:World)(K:Frag)(tg:Expr)(J:It)(fp:List Addr)(it:Addr)(tn:Nat->Heap->Prop):Prop where
 mem:it∈fp
 obj:∀ i h,tn i h->∀ b∈fp,∃ o,h.get? b=some o/\∀ v,o.data≠.cell v
 keep:∀ i h h',tn i h->(∀ b∈fp,∀ o,h.get? b=some o->h'.get? b=some o)->tn i h'
 item:∀(X:Cx),X.prog=P->X.w=w->X.K=K->X.calm=true->∀(i:Nat) (Tc:List (Addr × Obj)) (s:Shared) (σ:St) (H:Hp) (E:Value->Shared->Prop),Inv X Tc σ H s->(∀ b∈fp,FpOk X Tc H b)->tn i s.heap->J.go i H->
  wpAny (model P w) X.A (pyNext<|.ref it) (λr s1=>∃ u,r=some u/\
   wpAny (model P w) X.A (letOwnedTupleGo tg (.ref it) u) (λ_ s2=>∃ x H',Inv X Tc σ H' s2/\RelV x u/\J.yld i H x H'/\tn (i+1) s2.heap/\∀ b∈fp,H' b=none) E s1) E s
 done:∀(X:Cx),X.prog=P->X.w=w->X.K=K->X.calm=true->∀(i:Nat) (Tc:List (Addr × Obj)) (s:Shared) (σ:St) (H:Hp) (E:Value->Shared->Prop),Inv X Tc σ H s->(∀ b∈fp,FpOk X Tc H b)->tn i s.heap->J.stop i H->
  wpAny (model P w) X.A (pyNext<|.ref it) (λr s1=>r=none/\Inv X Tc σ H s1) E s
 self:∀(A:Around) (i:Nat) (s:Shared) (Q:Value->Shared->Prop) (E:Value->Shared->Prop),tn i s.heap->Q (.ref it) s->wpAny (model P w) A (pyIter<|.ref it) Q E s
abbrev TI:=St->Hp->(It->Hp->Prop)->Prop
def  PIE(X:Cx)(e:List (Addr × Obj))(σ:St)(i:Expr)(R:It->Hp->Prop)(a:Value)(h:Shared):Prop:=
 ∃(d:Addr) (f:List Addr) (g:Nat->Heap->Prop) (J:It) (c:Hp),a=.ref d/\Inv X e σ c h/\Turn X.prog X.w X.K i J f d g/\g 0 h.heap/\(∀ b∈f,FpOk X e c b)/\R J c
def  PI(X:Cx)(c a:Expr)(d:TI):Prop:=
 ∀(b:List (Addr × Obj)) (s:Shared) (σ:St) (H:Hp) (R:It->Hp->Prop),Inv X b σ H s->d σ H R->
  wpAny (model X.prog X.w) X.A (eval a X.env) (λv s1=>wpAny (model X.prog X.w) X.A (pyIter v) (PIE X b σ c R) X.xe s1) X.xe s
variable{tg:Expr}
def DH {M:Model} {A:Around} {s:Shared} {it:Addr} {o:Obj} {n:String} {vs:Array Value} {Q:Unit->Shared->Prop} (d:s.heap.get? it=some o) (b:o.cls=.type n) (c:o.data=.fields vs)
  (e:["enumerate","zip","dict_itemiterator","dict_reverseitemiterator","odict_iterator","itertools.zip_longest","itertools.pairwise"].contains n=false) (a:Q () s):wpAny M A (letOwnedTupleGo tg (.ref it) u) Q E s:=by
 unfold letOwnedTupleGo
 cases tg <;> first
  | show Ux a
  | (cases u <;> first
    | show Ux a
    | (show Uh (wpAny_load d ?_)
       rw[b,c];change wpAny M A (if (["enumerate","zip","dict_itemiterator","dict_reverseitemiterator","odict_iterator","itertools.zip_longest","itertools.pairwise"].contains n&&vs[0]? ==some (rawInt _))=true then _ else _) Q E s;rw[TX (by intro h;rw[e,Uk]at h;cases h)];show Ux a))
def  Itl(K:Frag)(a:Addr):It:=
 (λi H=>∃ b x,SqL K H a b/\b[i]? =some x,λi H x c=>c=H/\∀ b,SqL K H a b->b[i]? =some x,λi H=>∃ b,SqL K H a b/\b.length<=i)
def  Itt(K:Frag)(a:Addr):It:=
 (λi H=>∃ b x,SqT K H a b/\b[i]? =some x,λi H x c=>c=H/\∀ b,SqT K H a b->b[i]? =some x,λi H=>∃ b,SqT K H a b/\b.length<=i)
def  Itr(lo:Int)(n:Nat):It:=(λi _=>i<n,λi H x a=>a=H/\x=.int (lo+i),λi _=>n<=i)
variable{P:Program}{w:World}{K:Frag}
def  Jd(a it:Addr):Turn P w K tg (Itl K a) [it] it (λi h=>h.IsListIter it a i) where
 mem:=by simp
 obj:=λi h f b g=>by
  have e:b=it:=by simpa using g
  subst e;obtain⟨o,e,c,d⟩:=f;show(o,e,λv z=>by rw[d]at z;cases z)
 keep:=λi h n f k=>f.at λo e=>k it (by simp) o e
 item:=by
  intro X G hw C L i J s σ H E I l f A;subst G hw C;obtain⟨N,x,m,t⟩:=A;obtain⟨W,B,p,Q⟩:=I.list m;obtain⟨u,U,R⟩:=B.get t;obtain⟨y,D,Y,r,q,F⟩:=l it (by simp);show wpAny_pyNext_list_item f p.isList (x:=u) (by simpa using U) λn j T=>?_;have M:Inv X J σ H {s with heap:=n}:=I.turned (t':=s.toks) (λb o g e=>(T.2 b g).trans e) y D r q F;obtain⟨o,e,c,d⟩:=id j;show(u,rfl,DH (s:={s with heap:=n}) e c d #[1] (x,H,M,R,(rfl,λys S=>by rw[I.list_inj S m];show t),j,λb g=>(l b g).1))
 done:=by
  intro X G hw C L i J s σ H E I l f A;subst G hw C;obtain⟨N,m,t⟩:=A;obtain⟨W,B,p,Q⟩:=I.list m;obtain⟨y,D,Y,r,q,F⟩:=l it (by simp);have Z:=B.length;show wpAny_pyNext_list_end (I.ok.hd L) f p.isList (by simp;omega) λn O=>(rfl,I.turned (t':=s.toks) (λb o g e=>O b o g e) y D r q F)
 self:=λ_ _ _ _ _ f h=>wpAny_pyIter_listiter f h
def  HL(a it:Addr):Turn P w K tg (Itt K a) [it] it (λi h=>h.IsTupleIter it a i) where
 mem:=by simp
 obj:=λi h f b g=>by
  have e:b=it:=by simpa using g
  subst e;obtain⟨o,e,c,d⟩:=f;show(o,e,λv z=>by rw[d]at z;cases z)
 keep:=λi h n f k=>f.at λo e=>k it (by simp) o e
 item:=by
  intro X J hw C M i L s σ H E I l f A;subst J hw C;obtain⟨O,x,m,t⟩:=A;obtain⟨G,B,p,R⟩:=I.tuple m;obtain⟨u,W,S⟩:=B.get t;obtain⟨y,D,Y,r,q,F⟩:=l it (by simp);show wpAny_pyNext_tuple_item f (show s.heap.IsTuple a G.toArray from p) (x:=u) (by simpa using W) λn j U=>?_;have N:Inv X L σ H {s with heap:=n}:=I.turned (t':=s.toks) (λb o g e=>(U.2 b g).trans e) y D r q F;obtain⟨o,e,c,d⟩:=id j;show(u,rfl,DH (s:={s with heap:=n}) e c d #[1] (x,H,N,S,(rfl,λys T=>by rw[I.tuple_inj T m];show t),j,λb g=>(l b g).1))
 done:=by
  intro X J hw C M i L s σ H E I l f A;subst J hw C;obtain⟨O,m,t⟩:=A;obtain⟨G,B,p,R⟩:=I.tuple m;obtain⟨y,D,Y,r,q,F⟩:=l it (by simp);have Z:=B.length;show wpAny_pyNext_tuple_end (I.ok.hd M) f (show s.heap.IsTuple a G.toArray from p) (by simp;omega) λn Q=>(rfl,I.turned (t':=s.toks) (λb o g e=>Q b o g e) y D r q F)
 self:=λ_ _ _ _ _ f h=>wpAny_pyIter_tupleiter f h
def  HM(it:Addr)(lo:Int)(n:Nat):Turn P w K tg (Itr lo n) [it] it (λi h=>IsRangeIter h it (lo+(i:Nat)*1) ((n:Int) - (i:Nat)) 1) where
 mem:=by simp
 obj:=λi h a b c=>by
  have e:b=it:=by simpa using c
  subst e
  show(_,a,λv z=>by
   have D:Data.fields _=Data.cell v:=z;cases D)
 keep:=λi h g a k=>k it (by simp) _ a
 item:=by
  intro X y hw r m i A s σ H E I f a q;subst y hw r;obtain⟨p,u,L,l,j,x⟩:=f it (by simp);have W:=Walks.range (prog:=X.prog) (w:=X.w) (I.ok.hd m) it lo 1 n;show W.item i s _ _ q a λv g B J d C=>?_;obtain⟨t,rfl⟩:=J;have F:Inv X A σ H {s with heap:=g,toks:=B}:=I.turned (λb o c e=>C b o (by simpa using c) e) p u l j x;show(_,rfl,DH (s:={s with heap:=g,toks:=B}) (n:="range_iterator") d rfl rfl #[1] (.int<|lo+i,H,F,(t,?_),(rfl,rfl),d,λb c=>(f b c).1));rw[Int.mul_one]
 done:=by
  intro X y hw r m i A s σ H E I f a q;subst y hw r;obtain⟨p,u,L,l,j,x⟩:=f it (by simp);show wpAny_pyNext_range_end (I.ok.hd m) a (by have:n<=i:=q;omega) λg G=>(rfl,I.turned (t':=s.toks) (λb o c e=>G b o c e) p u l j x)
 self:=λ_ _ _ _ _ a h=>wpAny_pyIter_rangeiter a h
section
variable{X:Cx}{tg:Expr}
def  iList(K:Frag)(c:TE):TI:=λσ H R=>c σ H λx b=>∃ a,x=.ref a/\(∃ d,SqL K b a d)/\R (Itl K a) b
def  iTup(K:Frag)(c:TE):TI:=λσ H R=>c σ H λx b=>∃ a,x=.ref a/\(∃ d,SqT K b a d)/\R (Itt K a) b
def ay{l:Expr}{d:TE}(k:PE X l d):PI X tg l (iList X.K d):=by
 intro g s σ H R I h;show thn (k g s σ H _ I h) λv s1 ⟨x,j,c,r1,i⟩=>?_;obtain⟨a,e,⟨u,m⟩,q⟩:=i;subst e;cases r1;obtain⟨n,t,p,r⟩:=c.list m;show VQ p.isList ?_;show(s1.heap.objs.size,[s1.heap.objs.size],_,_,j,rfl,c.kept (t':=s1.toks) λb o e=>TY _ e,Jd a _,(_,Ur _ rfl,rfl,rfl),λb f=>?_,q);have e:b=s1.heap.objs.size:=by simpa using f
 subst e;show c.fpOk (TQ _) (c.hok.fresh<|TQ _)
def DR{l:Expr}{d:TE}(m:PE X l d):PI X tg l (iTup X.K d):=by
 intro i s σ H R I h;show thn (m i s σ H _ I h) λv s1 ⟨x,k,c,r1,j⟩=>?_;obtain⟨a,e,⟨u,n⟩,q⟩:=j;subst e;cases r1;obtain⟨f,t,p,r⟩:=c.tuple n;show wpAny_pyIter_tuple (show s1.heap.IsTuple a f.toArray from p) ?_;show(s1.heap.objs.size,[s1.heap.objs.size],_,_,k,rfl,c.kept (t':=s1.toks) λb o e=>TY _ e,HL a _,(_,Ur _ rfl,rfl,rfl),λb g=>?_,q);have e:b=s1.heap.objs.size:=by simpa using g
 subst e;show c.fpOk (TQ _) (c.hok.fresh<|TQ _)
def DS {d:List (Addr × Obj)} {σ:St} {H:Hp} {s:Shared} {R:It->Hp->Prop} {E:Value->Shared->Prop} {lo a:Int} {t u v:Tok} {c:Nat} (I:Inv X d σ H s) (h1: -(2^62)<=lo) (h2:lo<2^62) (h3: -(2^62)<=a) (h4:a<2^62)
  (q:R (Itr lo (a-lo).toNat) H):wpAny (model X.prog X.w) X.A (pyIter<|.ref s.heap.objs.size) (PIE X d σ tg R) E {s with heap:=s.heap.push {cls:=.type "range",data:=.fields #[.int lo t,.int a u,.int 1 v]},toks:=c}:=by
 show wpAny_pyIter_range (IsRange.new ..) (small_one h1 h2 h3 h4) ?_;have f:Inv X d σ H {s with heap:=s.heap.push {cls:=.type "range",data:=.fields #[.int lo t,.int a u,.int 1 v]},toks:=c}:=I.kept λb o e=>TY _ e
 show((s.heap.push {cls:=.type "range",data:=.fields #[.int lo t,.int a u,.int 1 v]}).objs.size,[(s.heap.push {cls:=.type "range",data:=.fields #[.int lo t,.int a u,.int 1 v]}).objs.size],_,_,H,rfl,
  f.kept (t':=c) λb o e=>TY _ e,HM _ lo (a-lo).toNat,?_,λb g=>?_,q)
 . have e1:lo+((0:Nat):Int)*1=lo:=by simp
   have e2:(((a-lo).toNat:Nat):Int) - ((0:Nat):Int)=Builtin.Range.rangeSize lo a 1:=by rw[rangeSize_one];split <;> lia
   change IsRangeIter _ _ (lo+((0:Nat):Int)*1) ((((a-lo).toNat:Nat):Int) - ((0:Nat):Int)) 1;rw[e1,e2];show Ur _ rfl
 . have e:b=(s.heap.push {cls:=.type "range",data:=.fields #[.int lo t,.int a u,.int 1 v]}).objs.size:=by simpa using g
   subst e;show f.fpOk (TQ _) (f.hok.fresh<|TQ _)
def  kA(b:TA):TI:=λσ H R=>b σ H λvs a=>∃ j:Int,vs=[.int j]/\ -(2^62)<=j/\j<2^62/\R (Itr 0 j.toNat) a
def  sO(b:TA):TI:=λσ H R=>b σ H λvs a=>∃ i j:Int,vs=[.int i,.int j]/\(-(2^62)<=i/\i<2^62/\ -(2^62)<=j/\j<2^62)/\R (Itr i (j-i).toNat) a
def iG{a:Expr}{c:TA}{p pos:Pos}(d:Gl X "range")(i:X.mg "range"=none)(l:PA X [a] c)(m:starEach [a] X.env=[(false ,eval a X.env)]:=by rfl):PI X tg (.Call (.Name "range" p) [a] [] pos) (kA c):=by
 intro g s σ H R I h;show Call_<|fY I d i XO<|Uz (thn (l pos g s σ H _ I h) λo s1 ⟨vs,u,k,r1,b⟩=>?_) m rfl;obtain⟨j,e,b,f,q⟩:=b;subst e
 cases r1 with
 | cons r n=>
  cases n;obtain⟨t,rfl⟩:=r;show call_range_1 (DS k #[4] #[4] b f (by simpa using q))
def uz{a b:Expr}{g:TA}{p pos:Pos}(k:Gl X "range")(v:X.mg "range"=none)(u:PA X [a,b] g)(w:starEach [a,b] X.env=[(false ,eval a X.env),(false ,eval b X.env)]:=by rfl)(c:starEach [b] X.env=[(false ,eval b X.env)]:=by rfl):
  PI X tg (.Call (.Name "range" p) [a,b] [] pos) (sO g):=by
 intro m s σ H R I h;show Call_ (fY I k v XO<|Uz (thn (u pos m s σ H _ I h) λA s1 ⟨vs,B,o,r1,d⟩=>?_) (by rw[w,c]) (by rw[c];rfl));obtain⟨i,j,e,⟨d,l,y,n⟩,q⟩:=d;subst e
 cases r1 with
 | cons r f=>
  cases f with
  | cons x f=>
   cases f;obtain⟨t,rfl⟩:=r;obtain⟨z,rfl⟩:=x;show call_range_2 (DS o d l y n q)
def  tFor(h:TI)(g:TG)(d:TS):TS:=λD σ H=>h σ H λJ j=>∃ W:Nat->Nat->St->Hp->Prop,(∃ m,W 0 m σ j)/\∀ i m σ H,W i m σ H->
 (J.stop i H/\D.nx σ H)\/(J.go i H/\∃ N:St->Hp->Prop,(∀ b a,N b a->∃ c,c<m/\W (i+1) c b a)/\∀ x a,J.yld i H x a->g x σ a λe f=>d {D with nx:=N,ct:=N,bk:=D.nx} e f)
def  uA(fp:List Addr)(h:Heap):List (Addr × Obj):=fp.filterMap λb=>(h.get? b).map λo=>(b ,o)
def  oG{fp:List Addr}{h:Heap}{b:Addr}{o:Obj}(a:b∈fp)(e:h.get? b=some o):(b ,o)∈uA fp h:=V7.mpr (b,a,by rw[e];rfl)
def Je{fp:List Addr}{h:Heap}{p:Addr × Obj}(d:p∈uA fp h):p.1∈fp/\h.get? p.1=some p.2:=by
 obtain⟨b,c,e⟩:=V7.mp d
 cases q:h.get? b with
 | none=>rw[q]at e;cases e
 | some o=>
  rw[q]at e;have a:(b ,o)=p:=Ve e;subst a;show(c,q)
def  Inv.pinned{a:List (Addr × Obj)}{σ:St}{H:Hp}{s:Shared}{fp:List Addr}(I:Inv X a σ H s)(g:∀ b∈fp,FpOk X a H b)(h:∀ b∈fp,∃ o,s.heap.get? b=some o/\∀ v,o.data≠.cell v):Inv X (a++uA fp s.heap) σ H s:=
 I.pins_of λp i=>(Ud.mp i).elim (λz=>I.pin p<|UA _ z) λz=>by
  obtain⟨f,e⟩:=Je z;obtain⟨k,j,l,_⟩:=g p.1 f;obtain⟨o,c,d⟩:=h p.1 f;rw[e]at c;cases c;show(e,k,j,l,d)
def  Inv.unpinned{a pl:List (Addr × Obj)}{σ:St}{H:Hp}{s:Shared}(I:Inv X (a++pl) σ H s):Inv X a σ H s:=I.pins_of λp b=>I.pin p (UA _<|VT _ b)
def br {l:Expr} {z:List Stmt} {wi:TI} {g:TG} {tb:TS} {pos:Pos} (Q:PassesOwn (model X.prog X.w) X.A X.env X.xe) (hc:X.calm=true) (hi:PI X tg l wi) (hg:PG X tg g) (k:PSs X z tb)
  (hs:∀ x,foldedSetIterable l X.env x=pure x:=by intro _;rfl):PS X (.For tg l z [] pos) (tFor wi g tb):=by
 intro B s σ H D I h;show wpAny_For (thn (hi B s σ H _ I h) λv s1 h1=>thn h1 λae s2 h2=>?_) hs;obtain⟨it,E,tn,J,H2,e,I2,T,Y,f2,W,⟨m0,w0⟩,F⟩:=h2;subst e;have q:∀{t:Hp},(∀ b∈E,t b=none)->∀ b∈E,FpOk X B t b:=λhn b k=>(hn b k,(f2 b k).2);show codeAny_forLoop_any (λn s'=>∃ i P t,Inv X B P t s'/\tn i s'.heap/\(∀ b∈E,t b=none)/\W i n P t) ?_ m0 (0,σ,H2,I2,Y,λb k=>(f2 b k).1,w0);rintro n s3 ⟨i,G,S,I3,K,R,w3⟩;rcases F i n G S w3 with ⟨L,qn⟩ | ⟨go,N,hN,O⟩
 . show Vu Q<|thn (T.done X rfl rfl rfl hc i B s3 G S X.xe I3 (q R) K L) λr s4 ⟨hr,I4⟩=>?_;subst hr;show Ww (G,S,I4,qn)
 . show Vu Q<|thn (T.item X rfl rfl rfl hc i B s3 G S X.xe I3 (q R) K go) λr s4 ⟨u,hr,h4⟩=>?_;subst hr;show Vu Q<|thn h4 λ_ s5 ⟨x,H5,I5,r5,y5,C,ab⟩=>?_;have U:=I5.pinned (q ab)<|T.obj _ _ C;show Vu Q<|thn (hg _ s5 G H5 x u _ U r5<|O x H5 y5) λ_ s6 ⟨σ6,H6,I6,q6⟩=>?_;show Vu Q (thn (k _ s6 σ6 H6 _ I6 q6) λf Z y=>?_)
   have j:∀{p:St} {a:Hp},Inv X (B++uA E s5.heap) p a Z->N p a->∃ m,m<n/\∃ i P t,Inv X B P t Z/\tn i Z.heap/\(∀ b∈E,t b=none)/\W i m P t:=λ{p a} c M=>by
    obtain⟨m',hm,w7⟩:=hN p a M;show(m',hm,i+1,p,a,c.unpinned,T.keep _ _ _ C λb k o e=>(c.pin (b ,o)<|UA _<|UA _<|oG k e).1,λb k=>?_,w7);obtain⟨o,e,d⟩:=T.obj _ _ C b k;show(c.pin (b ,o)<|UA _<|UA _<|oG k e).2.1
   cases f with
   | next=>obtain⟨p,a,c,M⟩:=y;show j c M
   | cont=>obtain⟨p,a,c,M⟩:=y;show j c M
   | brk=>obtain⟨p,a,c,y⟩:=y;show(p,a,c.unpinned,y)
   | ret v=>obtain⟨x7,p,a,c,r7,y⟩:=y;show(x7,p,a,c.unpinned,r7,y)
end
def bI {K:Frag} {a:Addr} {xs:List V} {g:TG} {k:TS} {D:Ends} {σ:St} {H:Hp} (b:Nat->St->Hp->Prop) (h0:b 0 σ H) (r:∀ i σ H,i<=xs.length->b i σ H->SqL K H a xs)
  (n:∀ i x σ H,xs[i]? =some x->b i σ H->g x σ H λf h=>k {D with nx:=b<|i+1,ct:=b<|i+1,bk:=D.nx} f h) (l:∀ σ H,b xs.length σ H->D.nx σ H):
  ∃ W:Nat->Nat->St->Hp->Prop,(∃ m,W 0 m σ H)/\∀ i m σ H,W i m σ H->
   ((Itl K a).stop i H/\D.nx σ H)\/((Itl K a).go i H/\∃ N:St->Hp->Prop,(∀ j c,N j c->∃ m',m'<m/\W (i+1) m' j c)/\∀ x c,(Itl K a).yld i H x c->g x σ c λf h=>k {D with nx:=N,ct:=N,bk:=D.nx} f h):=by
 show(λi m σ H=>m=xs.length-i/\i<=xs.length/\b i σ H,(xs.length,by simp,UK _,h0),?_);rintro i m σ H ⟨rfl,o,p⟩;have q:=r i σ H o p;by_cases d:i<xs.length
 . show .inr ((xs,xs[i],q,by simp[d]),b<|i+1,λj c s=>(xs.length - (i+1),by lia,rfl,d,s),λx c y=>?_);obtain⟨e,y⟩:=y;subst e;show n i x σ _ (y xs q) p
 . have e:i=xs.length:=by lia
   subst e;show .inl ((xs,q,TQ _),l σ H p)
def qd {lo:Int} {n:Nat} {g:TG} {j:TS} {D:Ends} {σ:St} {H:Hp} (a:Nat->St->Hp->Prop) (h0:a 0 σ H)
  (l:∀ i σ H,i<n->a i σ H->g (.int<|lo+i) σ H λd f=>j {D with nx:=a<|i+1,ct:=a<|i+1,bk:=D.nx} d f) (k:∀ σ H,a n σ H->D.nx σ H):
  ∃ W:Nat->Nat->St->Hp->Prop,(∃ m,W 0 m σ H)/\∀ i m σ H,W i m σ H->
   ((Itr lo n).stop i H/\D.nx σ H)\/((Itr lo n).go i H/\∃ N:St->Hp->Prop,(∀ h b,N h b->∃ m',m'<m/\W (i+1) m' h b)/\∀ x b,(Itr lo n).yld i H x b->g x σ b λd f=>j {D with nx:=N,ct:=N,bk:=D.nx} d f):=by
 show(λi m σ H=>m=n-i/\i<=n/\a i σ H,(n,by simp,UK _,h0),?_);rintro i m σ H ⟨rfl,q,p⟩;by_cases c:i<n
 . show .inr (c,a<|i+1,λh b o=>(n - (i+1),by lia,rfl,c,o),λx b y=>?_);obtain⟨e,y⟩:=y;subst e y;show l i σ _ c p
 . have e:i=n:=by lia
   subst e;show .inl (TQ _,k σ H p)
abbrev R2:=V->V->Hp->VK->Prop
def  OpR(X:Cx)(f:Value->Value->Sem Value)(r:R2):Prop:=
 ∀(a:List (Addr × Obj)) (s:Shared) (σ:St) (H:Hp) (x y:V) (v u:Value) (Q:VK),Inv X a σ H s->RelV x v->RelV y u->r x y H Q->
  wpAny (model X.prog X.w) X.A (f v u) (EP X a σ Q) X.xe s
def  UnR(X:Cx)(f:Value->Sem Value)(r:V->Hp->VK->Prop):Prop:=
 ∀(a:List (Addr × Obj)) (s:Shared) (σ:St) (H:Hp) (x:V) (v:Value) (Q:VK),Inv X a σ H s->RelV x v->r x H Q->
  wpAny (model X.prog X.w) X.A (f v) (EP X a σ Q) X.xe s
def  CallR(X:Cx)(f:Value)(r:List V->Hp->VK->Prop):Prop:=
 ∀(b:List (Addr × Obj)) (s:Shared) (σ:St) (H:Hp) (a:List V) (c:List Value) (Q:VK),Inv X b σ H s->Vals a c->r a H Q->
  wpAny (model X.prog X.w) X.A (call f c) (EP X b σ Q) X.xe s
def  tOp(r:R2)(d a:TE):TE:=λσ H Q=>d σ H λx b=>a σ b λy c=>r x y c Q
def  tUn(r:V->Hp->VK->Prop)(b:TE):TE:=λσ H Q=>b σ H λx a=>r x a Q
def  rI(C:Int->Int->Prop)(g:Int->Int->V):R2:=λx y H Q=>∃ i j,x=.int i/\y=.int j/\C i j/\Q (g i j) H
def  rI0(g:Int->Int->V):R2:=λx y H Q=>∃ i j,x=.int i/\y=.int j/\Q (g i j) H
def  rU(g:Int->V):V->Hp->VK->Prop:=λx H Q=>∃ i,x=.int i/\Q (g i) H
section
variable{X:Cx}{a b c:Expr}{ta tb tc:TE}{pos:Pos}
def binT (o:PE X a ta) (m:PE X b tb) {d:List (Addr × Obj)} {s:Shared} {σ:St} {H:Hp} {R:V->V->Hp->Prop} (I:Inv X d σ H s)
  (h:ta σ H λx g=>tb σ g λy c=>R x y c) {Q:Value->Shared->Prop} {f:Value->Value->Sem Value}
  (j:∀ v u e x y c,Inv X d σ c e->RelV x v->RelV y u->R x y c->wpAny (model X.prog X.w) X.A (f v u) Q X.xe e):
  wpAny (model X.prog X.w) X.A (eval a X.env) (λv q=>wpAny (model X.prog X.w) X.A (eval b X.env) (λu i=>wpAny (model X.prog X.w) X.A (f v u) Q X.xe i) X.xe q) X.xe s:=by
 show thn (o d s σ H _ I h) λv s1 ⟨x,g,n,r1,p⟩=>?_;show thn (m d s1 σ g _ n p) λu e ⟨y,c,k,r2,l⟩=>?_;show j v u e x y c k r1 r2 l
def ax{c:Operator}{r:R2}(l:OpR X (binaryOp c) r)(k:PE X a ta)(g:PE X b tb):PE X (.BinOp a c b pos) (tOp r ta tb):=by
 intro i s σ H Q I h;show wpAny_BinOp (binT k g I h λv u m x y f d e j q=>l i m σ f x y v u Q d e j q)
def Pj{c:UnaryOp}{r:V->Hp->VK->Prop}(g:UnR X (unaryOp c) r)(e:PE X a ta):PE X (.UnaryOp c a pos) (tUn r ta):=by
 intro b s σ H Q I h;show UnaryOp_ (thn (e b s σ H _ I h) λv s1 ⟨x,i,d,r1,f⟩=>g b s1 σ i x v Q d r1 f)
def opI {f:Value->Value->Sem Value} {C:Int->Int->Prop} {g:Int->Int->Int}
  (a:∀(i j:Int) (t u:Tok) (s:Shared) (Q:Value->Shared->Prop) (E:Value->Shared->Prop),C i j->Q (.int (g i j) s.toks) {s with toks:=s.toks+1}->wpAny (model X.prog X.w) X.A (f (.int i t)<|.int j u) Q E s):
  OpR X f (rI C λi j=>.int<|g i j):=by
 intro k s σ H x y v u Q I b c h;obtain⟨i,j,rfl,rfl,d,q⟩:=h;obtain⟨t,rfl⟩:=b;obtain⟨e,rfl⟩:=c;show a i j t e s _ _ d (.int<|g i j,H,I.tok _,(_,rfl),q)
def K0 {f:Value->Value->Sem Value} {g:Int->Int->Int}
  (a:∀(i j:Int) (t u:Tok) (s:Shared) (Q:Value->Shared->Prop) (E:Value->Shared->Prop),Q (.int (g i j) s.toks) {s with toks:=s.toks+1}->wpAny (model X.prog X.w) X.A (f (.int i t)<|.int j u) Q E s):
  OpR X f (rI0 λi j=>.int<|g i j):=by
 intro e s σ H x y v u Q I b c h;obtain⟨i,j,rfl,rfl,q⟩:=h;obtain⟨t,rfl⟩:=b;obtain⟨d,rfl⟩:=c;show a i j t d s _ _ (.int<|g i j,H,I.tok _,(_,rfl),q)
def HN {f:Value->Value->Sem Value} {g:Int->Int->Bool}
  (a:∀(i j:Int) (t u:Tok) (s:Shared) (Q:Value->Shared->Prop) (E:Value->Shared->Prop),Q (.bool<|g i j) s->wpAny (model X.prog X.w) X.A (f (.int i t)<|.int j u) Q E s):
  OpR X f (rI0 λi j=>.bl<|g i j):=by
 intro e s σ H x y v u Q I b c h;obtain⟨i,j,rfl,rfl,q⟩:=h;obtain⟨t,rfl⟩:=b;obtain⟨d,rfl⟩:=c;show a i j t d s _ _ (.bl<|g i j,H,I,rfl,q)
def  CDiv(i j:Int):Prop:=0<j/\j<1073741824
def  CPow(i j:Int):Prop:=0<=j/\j<=1000000/\i.natAbs<2^64
def  CMul(i j:Int):Prop:=(-(2^64)<i/\i<2^64)\/(-(2^64)<j/\j<2^64)
def CMul.ok{i j:Int}(h:CMul i j):IntMulOk i j:=by
 rcases h with ⟨h1,h2⟩ | ⟨h1,h2⟩
 . show .of_left (intBits_le_64 h1 h2)
 . show .of_right (intBits_le_64 h1 h2)
def HP(k:Nat):(0:Int)<=2^k:=by
 rw[two_pow_cast];show Int.natCast_nonneg _
def  NO:OpR X (binaryOp .Add) (rI0 λi j=>.int<|i+j):=K0 λ_ _ _ _ _ _ _ q=>add_int q
def  NP:OpR X (binaryOp .Sub) (rI0 λi j=>.int<|i-j):=K0 λ_ _ _ _ _ _ _ q=>sub_int q
def  NQ:OpR X (binaryOp .Mult) (rI CMul λi j=>.int<|i*j):=opI λ_ _ _ _ _ _ _ a q=>mul_int q a.ok
def  Mr:OpR X (binaryOp .FloorDiv) (rI CDiv λi j=>.int<|i/j):=opI λi j _ _ _ _ _ a q=>by
 have h1:(0:Int)<j:=a.1;have h2:j<1073741824:=a.2;show floordiv_int #[0] (by rw[WP i #[0]];show q) (.inl<|PyProof.noPylong_small #[0])
def  NR:OpR X (binaryOp .Mod) (rI (λ_ j=>0<j) λi j=>.int<|i%j):=opI λi j _ _ _ _ _ a q=>by
 have h1:(0:Int)<j:=a;show mod_int' #[0] (by rw[Int.fmod_eq_emod_of_nonneg i #[0]];show q)
def  NS:OpR X (binaryOp .RShift) (rI (λ_ j=>0<=j) λi j=>.int<|i/2^j.toNat):=opI λi j _ _ _ _ _ a q=>
 rshift_int a (by rw[WP i<|HP _];show q)
def  Pk:OpR X (binaryOp .BitOr) (rI0 λi j=>.int<|Builtin.bitOr i j):=K0 λ_ _ _ _ _ _ _ q=>or_int q
def unI {f:Value->Sem Value} {g:Int->Int}
  (a:∀(i:Int) (t:Tok) (s:Shared) (Q:Value->Shared->Prop) (E:Value->Shared->Prop),Q (.int (g i) s.toks) {s with toks:=s.toks+1}->wpAny (model X.prog X.w) X.A (f<|.int i t) Q E s):
  UnR X f (rU λi=>.int<|g i):=by
 intro c s σ H x v Q I b h;obtain⟨i,rfl,q⟩:=h;obtain⟨t,rfl⟩:=b;show a i t s _ _ (.int<|g i,H,I.tok _,(_,rfl),q)
def  NT:UnR X (unaryOp .USub) (rU λi=>.int<|-i):=unI λ_ _ _ _ _ q=>neg_int q
end
def  scal:V->V->Bool
 | .non,.non=>true | .non,.int _=>true | .int _,.non=>true | .non,.bl _=>true | .bl _,.non=>true | .non,.str _=>true | .str _,.non=>true
 | .int _,.int _=>true | .bl _,.bl _=>true | .str _,.str _=>true | .byt _,.byt _=>true
 | .int _,.str _=>true | .str _,.int _=>true | .bl _,.str _=>true | .str _,.bl _=>true
 | _,_=>false
def  rEq:R2:=λx y H Q=>scal x y=true/\Q (.bl<|decide<|x=y) H
def  rNe:R2:=λx y H Q=>scal x y=true/\Q (.bl<|!decide (x=y)) H
def G3{i j:Int}:decide (V.int i=V.int j)=(i==j):=by
 rw[Up];simp
def Jf{i j:Bool}:decide (V.bl i=V.bl j)=(i==j):=by
 rw[Up];simp
def G4{i j:Str}:decide (V.str i=V.str j)=(i==j):=by
 rw[Up];simp
def G5{i j:Array UInt8}:decide (V.byt i=V.byt j)=(i.toList==j.toList):=by
 rw[Up];cases i;cases j;simp
section
variable{X:Cx}{a b c:Expr}{ta tb tc:TE}{pos:Pos}
def bc{a:List (Addr × Obj)}{σ:St}{H:Hp}{s:Shared}{Q:VK}{k b:Bool}(I:Inv X a σ H s)(q:Q (.bl k) H)(e:k=b):EP X a σ Q (.bool b) s:=by
 subst e;show(.bl k,H,I,rfl,q)
def HQ:OpR X (compareOp .Eq) rEq:=by
 intro e s σ H x y v u Q I d a h;obtain⟨c,q⟩:=h
 cases x with
 | non=>
  cases d
  cases y with
  | non=>cases a;show PySem.EqNone.eq_none_none (bc I q (by simp))
  | bl j=>cases a;show PySem.EqNone.eq_none_bool (bc I q (by simp))
  | int j=>obtain⟨b,rfl⟩:=a;show PySem.EqNone.eq_none_int (bc I q (by simp))
  | str j=>obtain⟨b,rfl⟩:=a;show PySem.EqNone.eq_none_str (bc I q (by simp))
  | _=>show absurd (show false=true from c) TB
 | bl i=>
  cases d
  cases y with
  | non=>cases a;show PySem.EqNone.eq_bool_none (bc I q (by simp))
  | bl j=>cases a;show eq_bool (bc I q Jf)
  | str j=>obtain⟨b,rfl⟩:=a;show PySem.EqMixed.eq_bool_str (bc I q (by simp))
  | _=>show absurd (show false=true from c) TB
 | int i=>
  obtain⟨t,rfl⟩:=d
  cases y with
  | non=>cases a;show PySem.EqNone.eq_int_none (bc I q (by simp))
  | int j=>obtain⟨b,rfl⟩:=a;show eq_int (bc I q G3)
  | str j=>obtain⟨b,rfl⟩:=a;show PySem.EqMixed.eq_int_str (bc I q (by simp))
  | _=>show absurd (show false=true from c) TB
 | str i=>
  obtain⟨t,rfl⟩:=d
  cases y with
  | non=>cases a;show PySem.EqNone.eq_str_none (bc I q (by simp))
  | bl j=>cases a;show PySem.EqMixed.eq_str_bool (bc I q (by simp))
  | int j=>obtain⟨b,rfl⟩:=a;show PySem.EqMixed.eq_str_int (bc I q (by simp))
  | str j=>obtain⟨b,rfl⟩:=a;show eq_str (bc I q G4)
  | _=>show absurd (show false=true from c) TB
 | byt i=>
  obtain⟨t,rfl⟩:=d
  cases y with
  | byt j=>obtain⟨b,rfl⟩:=a;show PySem.W.eq_bytes (bc I q G5)
  | _=>show absurd (show false=true from c) TB
 | _=>cases y <;> show absurd (show false=true from c) TB
def HR:OpR X (compareOp .NotEq) rNe:=by
 intro e s σ H x y v u Q I d a h;obtain⟨c,q⟩:=h
 cases x with
 | non=>
  cases d
  cases y with
  | non=>cases a;show PySem.EqNone.ne_none_none (bc I q (by simp))
  | bl j=>cases a;show PySem.EqNone.ne_none_bool (bc I q (by simp))
  | int j=>obtain⟨b,rfl⟩:=a;show PySem.EqNone.ne_none_int (bc I q (by simp))
  | str j=>obtain⟨b,rfl⟩:=a;show PySem.EqNone.ne_none_str (bc I q (by simp))
  | _=>show absurd (show false=true from c) TB
 | bl i=>
  cases d
  cases y with
  | non=>cases a;show PySem.EqNone.ne_bool_none (bc I q (by simp))
  | bl j=>cases a;show ne_bool (bc I q<|congrArg not Jf)
  | str j=>obtain⟨b,rfl⟩:=a;show PySem.EqMixed.ne_bool_str (bc I q (by simp))
  | _=>show absurd (show false=true from c) TB
 | int i=>
  obtain⟨t,rfl⟩:=d
  cases y with
  | non=>cases a;show PySem.EqNone.ne_int_none (bc I q (by simp))
  | int j=>obtain⟨b,rfl⟩:=a;show ne_int (bc I q<|congrArg not G3)
  | str j=>obtain⟨b,rfl⟩:=a;show PySem.EqMixed.ne_int_str (bc I q (by simp))
  | _=>show absurd (show false=true from c) TB
 | str i=>
  obtain⟨t,rfl⟩:=d
  cases y with
  | non=>cases a;show PySem.EqNone.ne_str_none (bc I q (by simp))
  | bl j=>cases a;show PySem.EqMixed.ne_str_bool (bc I q (by simp))
  | int j=>obtain⟨b,rfl⟩:=a;show PySem.EqMixed.ne_str_int (bc I q (by simp))
  | str j=>obtain⟨b,rfl⟩:=a;show ne_str (bc I q<|congrArg not G4)
  | _=>show absurd (show false=true from c) TB
 | byt i=>
  obtain⟨t,rfl⟩:=d
  cases y with
  | byt j=>obtain⟨b,rfl⟩:=a;show PySem.W.ne_bytes (bc I q<|congrArg not G5)
  | _=>show absurd (show false=true from c) TB
 | _=>cases y <;> show absurd (show false=true from c) TB
def  Pl:OpR X (compareOp .Lt) (rI0 λi j=>.bl<|decide<|i<j):=HN λ_ _ _ _ _ _ _ q=>lt_int q
def  Pm:OpR X (compareOp .LtE) (rI0 λi j=>.bl<|decide<|i<=j):=HN λ_ _ _ _ _ _ _ q=>le_int q
def  Pn:OpR X (compareOp .Gt) (rI0 λi j=>.bl<|decide<|j<i):=HN λ_ _ _ _ _ _ _ q=>gt_int q
def  Po:OpR X (compareOp .GtE) (rI0 λi j=>.bl<|decide<|j<=i):=HN λ_ _ _ _ _ _ _ q=>ge_int q
def Jg:OpR X (compareOp .In) (λx y H Q=>∃ i j,x=.str i/\y=.str j/\Q (.bl<|!(Builtin.Str.occurrences j i 0 j.length 1).isEmpty) H):=by
 intro d s σ H x y v u Q I a b h;obtain⟨i,j,rfl,rfl,q⟩:=h;obtain⟨t,rfl⟩:=a;obtain⟨c,rfl⟩:=b;show in_str (bc I q rfl)
def NU:OpR X (compareOp .Is) (λx y H Q=>y=.non/\Q (.bl<|decide<|x=.non) H):=by
 intro c s σ H x y v u Q I a b h;obtain⟨rfl,q⟩:=h;cases b;show is_none_gen (bc I q ?_)
 cases x <;> first
  | (cases a;rfl)
  | (obtain⟨t,rfl⟩:=a;rfl)
def iV:OpR X (compareOp .IsNot) (λx y H Q=>y=.non/\Q (.bl<|!decide (x=.non)) H):=by
 intro c s σ H x y v u Q I a b h;obtain⟨rfl,q⟩:=h;cases b;show isnot_none_gen (bc I q ?_)
 cases x <;> first
  | (cases a;rfl)
  | (obtain⟨t,rfl⟩:=a;rfl)
def aj(b:Expr){a:CmpOp}(h:a≠.In:=by decide)(h2:a≠.NotIn:=by decide):behindInMarks a b=false:=by
 have e1:(a==CmpOp.In)=false:=by cases a <;> first | rfl | show absurd rfl h
 have e2:(a==CmpOp.NotIn)=false:=by cases a <;> first | rfl | show absurd rfl h2
 cases b <;> simp[behindInMarks,e1,e2]
def aD{c:CmpOp}{r:R2}(m:OpR X (compareOp c) r)(l:PE X a ta)(g:PE X b tb)(k:behindInMarks c b=false):PE X (.Compare a [c] [b] pos) (tOp r ta tb):=by
 intro i s σ H Q I h;show wpAny_Compare1 (binT l g I h λv u n x y f d e j q=>m i n σ f x y v u Q d e j q) k
def  tTest(t:TE):TT:=λσ H Q=>t σ H λx a=>∃ k,x=.bl k/\Q k a
def ao{d:CmpOp}{r:R2}(t:OpR X (compareOp d) r)(o:PE X a ta)(j:PE X b tb)(m:behindInMarks d b=false):PT X (.Compare a [d] [b] pos) (tTest<|tOp r ta tb):=by
 intro f s σ H Q I h
 show wpAny_isTrue_Compare1 (thn (o f s σ H _ I h) λv s1 ⟨x,A,n,r1,p⟩=>thn (j f s1 σ A _ n p) λu B ⟨y,l,g,r2,i⟩=>
  thn (t f B σ l x y v u _ g r1 r2 i) λc D ⟨z,q,w,r3,k,e,C⟩=>?_) m
 subst e;cases r3;show Vh (q,w,C)
def uB:(sizeLine:Nat)<2^63:=by rw[XJ];decide
def HS:OpR X (binaryOp .Add) (λx y H Q=>∃ i j,x=.str i/\y=.str j/\i.length+j.length<=sizeLine/\Q (.str<|i++j) H):=by
 intro f s σ H x y v u Q I a b h;obtain⟨i,j,rfl,rfl,d,q⟩:=h;obtain⟨t,rfl⟩:=a;obtain⟨c,rfl⟩:=b;show add_str (λc e=>(.str<|i++j,H,I.tok _,(_,rfl),q)) d
def fU{x:V}{us:List Value}(r:Vals [x] us):∃ u,us=[u]/\RelV x u:=by
 cases r with
 | cons r1 r2=>cases r2;show(_,rfl,r1)
def L4{x y:V}{us:List Value}(r:Vals [x,y] us):∃ u a,us=[u,a]/\RelV x u/\RelV y a:=by
 cases r with
 | cons r1 r2=>
  cases r2 with
  | cons r3 r4=>cases r4;show(_,_,rfl,r1,r3)
def Cd:CallR X (.type "int") (λxs H Q=>(∃ i,xs=[.int i]/\Q (.int i) H)\/∃ k,xs=[.bl k]/\Q (.int (if k then 1 else 0)) H):=by
 intro a s σ H xs b Q I r h;rcases h with ⟨i,rfl,q⟩ | ⟨k,rfl,q⟩
 . obtain⟨u,rfl,t,rfl⟩:=fU r;show call_int_int (.int i,H,I,(_,rfl),q)
 . obtain⟨u,rfl,r1⟩:=fU r;cases r1;show call_int_bool (.int (if k then 1 else 0),H,I.tok _,(_,rfl),q)
end
structure ObjM(h:Heap)(x dx C:Addr)(mA:Str->Option Value):Prop where
 obj:h.get? x=some (PySem.W.instObj C dx)
 ns:h.Ns1 dx mA
 ne:dx≠x
variable{mA:Str->Option Value}
def Jh{h:Heap}{c:Addr}(n:h.Ns1 c mA):∃ f,h.get? c=some f/\∀ name,PySem.W.lookIn name f=some (mA name):=by
 obtain⟨o,d,p,l,k,j,_,i⟩:=n;show(o,l,λname=>?_);have e:=i name;unfold nsFind findBy at e;rw[← Array.find?_toList]at e;unfold PySem.W.lookIn;rw[k];dsimp only
 split
 . rename_i y q
   rw[q]at e;show congrArg some e
 . rename_i q
   rw[q]at e
   have a:d.toList.any (·.refKey)=false:=by
    rw[Wc];intro y m;obtain⟨z,t,b⟩:=j y<|Array.mem_toList_iff.mp m;simp[DictEntry.refKey,b]
   have g:¬ d.toList.any (·.refKey)=true:=by rw[a];show TB
   rw[TX g];show congrArg some e
variable{C:Addr}
def  ObjM.look{h:Heap}{x b:Addr}(I:ObjM h x b C mA):∃ a,PySem.W.InstAt h x (PySem.W.instObj C b) C (some a)/\∀ name,PySem.W.lookIn name a=some (mA name):=
 let ⟨a,d,c⟩:=Jh I.ns
 (a,(I.obj,rfl,rfl,d),c)
section
variable{prog:Program}{w:World}{A:Around}{E:Value->Shared->Prop}{s:Shared}{K:Frag}{x dx C f:Addr}{mA:Str->Option Value}{name:Str}{v:Value}
def Mt {a:Bool} {Q:Value->Shared->Prop} (X:K.In s.heap) (I:ObjM s.heap x dx C mA) (c:PySem.W.plainGet K C name=true) (g:PySem.W.hasDictIn K C=true)
  (d:findIn K (.ref C) name=some none) (e:mA name=some v) (b:PySem.W.handedIn v=true) (h:Q v {s with toks:=s.toks+1}):
  wpAny (model prog w) A (getAttr (.ref x) name a) Q E s:=by
 obtain⟨i,J,f⟩:=I.look;show PySem.W.get_value X J (WF c).1 (PySem.W.findObj_own g d rfl (by rw[f,e])) b h
def K1 {pl:Sem Bool} {Q:Value × List Value->Shared->Prop} (X:K.In s.heap) (I:ObjM s.heap x dx C mA) (a:PySem.W.plainGet K C name=true)
  (b:findIn K (.ref C) name=some ↑f) (c:isFn K (.ref f)=true) (d:mA name=none) (h:Q (.ref f ,[.ref x]) s):
  wpAny (model prog w) A (getMethod (.ref x) name pl) Q E s:=by
 obtain⟨e,J,g⟩:=I.look;show PySem.W.method_fn X J (WF a).1 (WF a).2 b (Vz.mp c) (by change(PySem.W.lookIn name e).map (·.isSome)=some false;rw[g,d];rfl) h
def Mu {ns:List Str} {Q:Unit->Shared->Prop} (X:K.In s.heap) (I:ObjM s.heap x dx C mA)
  (n:findIn K (.ref C) "__setattr__"=some (some<|.builtin "object.__setattr__")) (p:PySem.W.plainOver K C=true) (k:PySem.W.takerIn K C name=some none) (q:PySem.W.hasDictIn K C=true)
  (hw:PySem.Within mA ns) (hsz:ns.length<=sizeLine)
  (h:∀ h',ObjM h' x dx C (λy=>if y=name then some v else mA y)->Heap.SameBut dx s.heap h'->Q () {s with heap:=h',toks:=s.toks+2}):
  wpAny (model prog w) A (setAttr (.ref x) name v) Q E s:=by
 obtain⟨t,J,z⟩:=I.look;show PySem.W.set_plain X J n<|PySem.W.osa_open (s:={s with toks:=s.toks+1}) (r:=none) X J p k λb=>?_;obtain⟨u,l,i⟩:=PySem.W.any_some q;have m:s.heap.get? x=some (.ref C,some dx,.plain,#[]):=I.obj;show Uh<|Ux<|Uh<|Uh<|wpAny_loadPart m<|Uh<|PySem.W.Looks.here (s:={s with toks:=s.toks+1}) (PySem.W.looks_clsIn X l) ?_;rw[i];show Ux (a:=some dx)<|Uh<|Ux<|Uh ?_;show wpAny_nsSet1 (s:={s with toks:=s.toks+1}) I.ns λh' d c=>?_;obtain⟨B,j,o,g,e,f⟩:=d.count<|PySem.Within.cons name v hw;show Uh (wpAny_lookBehind g (by rw[e];show pastItsLine_dict<|TU f (by rw[T8];lia)) ?_);show Ux (h _ ((c.2 _<|Wa I.ne).trans I.obj,d,I.ne) c)
def K2 {R:Result->Shared->Prop} {vs:List Value} {b:List (Str × Value)} (X:K.In s.heap) (e:PySem.W.makesIn K C=true)
  (i:findIn K (.ref C) "__init__"=some ↑f) (c:PySem.W.typeIn K (.ref f)=some (.type "function"))
  (h:codeAny (model prog w) (A.under<|.builtin "type.__call__" (.ref C::vs,b)) (.call (.ref f) (.ref (s.heap.objs.size+1)::vs,b)) (PySem.W.InitBack (s.heap.objs.size+1) R)
   {s with heap:=(s.heap.push PySem.W.emptyDict).push (PySem.W.instObj C s.heap.objs.size)}):
  codeAny (model prog w) A (.call (.ref C) (vs,b)) R s:=by
 obtain⟨k,g,d,t,j⟩:=s;show PySem.W.make_core (PySem.W.makes_of X e) (PySem.W.looks_findIn X i) (λa=>PySem.W.bind_fn X a c) (.inl rfl) h
end
def  putF(f:Str)(v:V):List (Str × V)->List (Str × V)
 | []=>[(f ,v)]
 | (g ,x)::r=>if g=f then(g ,v)::r else(g ,x)::putF f v r
def wY(f g:Str)(v:V):∀ fs:List (Str × V),(putF f v fs).lookup g=if g=f then some v else fs.lookup g
 | []=>by
  change List.lookup g [(f ,v)]=_;by_cases h:g=f
  . have a:(g==f)=true:=Vz.mpr h;simp only[List.lookup,a,TZ h]
  . have a:(g==f)=false:=VF.mpr h;simp only[List.lookup,a,TX h]
 | (k ,x)::r=>by
  have c:=wY f g v r;rw[show putF f v ((k ,x)::r)=(if k=f then(k ,v)::r else(k ,x)::putF f v r) from rfl];by_cases b:k=f
  . rw[TZ b];by_cases h:g=k
    . have a:(g==k)=true:=Vz.mpr h;simp only[List.lookup,a,TZ<|h.trans b]
    . have a:(g==k)=false:=VF.mpr h;simp only[List.lookup,a,TX (λe:g=f=>h<|e.trans b.symm)]
  . rw[TX b];by_cases h:g=k
    . have a:(g==k)=true:=Vz.mpr h;simp only[List.lookup,a,TX (λe:g=f=>b<|h.symm.trans e)]
    . have a:(g==k)=false:=VF.mpr h;simp only[List.lookup,a];show c
def uC(f:Str)(v:V):∀ fs:List (Str × V),f∈(putF f v fs).map (·.1)/\∀ g,g∈fs.map (·.1)->g∈(putF f v fs).map (·.1)
 | []=>(by simp[putF],λg h=>by simp at h)
 | (k ,x)::r=>by
  obtain⟨b,c⟩:=uC f v r;rw[show putF f v ((k ,x)::r)=(if k=f then(k ,v)::r else(k ,x)::putF f v r) from rfl];by_cases a:k=f
  . rw[TZ a];subst a;show(by simp,λg h=>by simpa using h)
  . rw[TX a];show(?_,λg h=>?_)
    . rw[T7];show TD _ b
    . rw[T7]at h ⊢;rcases TN.mp h with e | e
      . show TN.mpr (.inl e)
      . show TD _ (c g e)
def wZ(f:Str)(v:V):∀ fs:List (Str × V),(putF f v fs).length<=fs.length+1
 | []=>by simp[putF]
 | (k ,x)::r=>by
  have b:=wZ f v r;rw[show putF f v ((k ,x)::r)=(if k=f then(k ,v)::r else(k ,x)::putF f v r) from rfl];by_cases a:k=f
  . rw[TZ a,T8,T8];lia
  . rw[TX a,T8,T8];lia
variable{o:Option Value}
def RelO.some_of{v:V}(r:RelO (some v) o):∃ u,o=some u/\RelV v u:=by
 cases o with
 | none=>show(show False from r).elim
 | some u=>show(u,rfl,r)
abbrev XS:=@RelO.some_of
def RelO.none_of(r:RelO none o):o=none:=by
 cases o with
 | none=>rfl
 | some u=>show(show False from r).elim
def Ji{v:V}{u:Value}(r:RelV v u):PySem.W.handedIn u=true:=by
 cases v with
 | non=>cases (show u=Value.none from r);rfl
 | bl b=>cases (show u=Value.bool b from r);rfl
 | int i=>obtain⟨t,e⟩:=(show ∃ t,u=Value.int i t from r);cases e;rfl
 | str x=>obtain⟨t,e⟩:=(show ∃ t,u=Value.str x t from r);cases e;rfl
 | byt b=>obtain⟨t,e⟩:=(show ∃ t,u=Value.bytes b t from r);cases e;rfl
 | flt b=>obtain⟨t,e⟩:=(show ∃ t,u=Value.float b t from r);cases e;rfl
 | ref a=>cases (show u=Value.ref a from r);rfl
 | ty n=>cases (show u=Value.type n from r);rfl
section
variable{P:Program}{w:World}{H H':Hp}{h h':Heap}{a C dx:Addr}{fs fs':List (Str × V)}
def vV(b:HOk P w H h)(e:H a=some (.ins C dx fs)):∃ mA,ObjM h a dx C mA/\(∀ f,RelO (fs.lookup f)<|mA f)/\PySem.Within mA (fs.map (·.1))/\fs.length<=1000/\H dx=some (.own a):=by
 obtain⟨d,z,c,g,mA,n,r,q⟩:=(show ObjOk P w H h a (.ins C dx fs) from b a _ e);show(mA,(g,n,c),r,q,z,d)
end
structure Cls(K:Frag)(C:Addr):Prop where
 pg:PySem.W.plainGet K C Str.empty=true
 hd:PySem.W.hasDictIn K C=true
 po:PySem.W.plainOver K C=true
 sa:findIn K (.ref C) "__setattr__"=some (some<|.builtin "object.__setattr__")
def  Cls.get{K:Frag}(c:Cls K C)(f:Str):PySem.W.plainGet K C f=true:=c.pg
def  NoAttr(K:Frag)(C:Addr)(f:Str):Prop:=findIn K (.ref C) f=some none
def NoAttr.taker{K:Frag}{f:Str}(n:NoAttr K C f):PySem.W.takerIn K C f=some none:=by
 unfold PySem.W.takerIn;rw[show findIn K (.ref C) f=some none from n];rfl
structure Meth(K:Frag)(C:Addr)(m:Str)(f:Addr):Prop where
 at_:findIn K (.ref C) m=some ↑f
 fn:isFn K (.ref f)=true
 kp:keepIn K (.ref f)=true
section
variable{X:Cx}{Tc:List (Addr × Obj)}{σ:St}{H:Hp}{s:Shared}{a C dx:Addr}{fs:List (Str × V)}{f:Str}{v:V}{A:Around}{E:Value->Shared->Prop}
def HU {b:Bool} {Q:Value->Shared->Prop} (I:Inv X Tc σ H s) (e:H a=some (.ins C dx fs)) (c:Cls X.K C) (n:NoAttr X.K C f) (l:fs.lookup f=some v)
  (h:∀ u s',Inv X Tc σ H s'->RelV v u->Q u s'):wpAny (model X.prog X.w) A (getAttr (.ref a) f b) Q E s:=by
 obtain⟨mA,O,r,_,_,_⟩:=vV I.hok e;obtain⟨u,g,d⟩:=XS (v:=v) (o:=mA f) (by rw[← l];show r f);show Mt I.kIn O (c.get f) c.hd n g (Ji d) (h u _ (I.tok _) d)
def y7 {m:Str} {g:Addr} {pl:Sem Bool} {Q:Value × List Value->Shared->Prop} (I:Inv X Tc σ H s) (e:H a=some (.ins C dx fs)) (c:Cls X.K C) (k:Meth X.K C m g) (l:fs.lookup m=none)
  (h:Q (.ref g ,[.ref a]) s):wpAny (model X.prog X.w) A (getMethod (.ref a) m pl) Q E s:=by
 obtain⟨mA,O,r,_,_,_⟩:=vV I.hok e;have b:mA m=none:=RelO.none_of (by rw[← l];show r m);show K1 I.kIn O (c.get m) k.at_ k.fn b h
def HV {y:V} {u:Value} {Q:Unit->Shared->Prop} (I:Inv X Tc σ H s) (e:H a=some (.ins C dx fs)) (c:Cls X.K C) (n:NoAttr X.K C f) (F:fs.length<1000) (v:RelV y u)
  (h:∀ s',Inv X Tc σ (upd H a<|.ins C dx<|putF f y fs) s'->Q () s'):wpAny (model X.prog X.w) A (setAttr (.ref a) f u) Q E s:=by
 obtain⟨mA,O,r,i,_,j⟩:=vV I.hok e;have B:(fs.map (·.1)).length<=sizeLine:=by rw[Tn,XJ];lia
 show Mu I.kIn O c.sa c.po n.taker c.hd i B λp d l=>h _ ?_;have D:∃ o,p.get? dx=some o:=let ⟨o,_,_,m,_⟩:=d.ns;(o,m);show I.write (x:=a) (e:=dx) (by rw[e];show True.intro) (.inr j) (λb q t z=>(l.2 b t).trans z) D ?_;show(by rw[ak O.ne];show j,?_,O.ne,d.obj,_,d.ns,λg=>?_,λg k=>?_)
 . have:=wZ f y fs;lia
 . change RelO ((putF f y fs).lookup g) (if g=f then some u else mA g);rw[wY];by_cases q:g=f
   . rw[TZ q,TZ q];show v
   . rw[TX q,TX q];show r g
 . by_cases q:g=f
   . rw[q];show(uC f y fs).1
   . show(uC f y fs).2 g<|i g λz=>k ?_;change(if g=f then some u else mA g)=none;rw[TX q];show z
def Inv.made(I:Inv X Tc σ H s):Inv X Tc σ (upd (upd H s.heap.objs.size<|.own<|s.heap.objs.size+1) (s.heap.objs.size+1)<|.ins C s.heap.objs.size [])
  {s with heap:=(s.heap.push PySem.W.emptyDict).push (PySem.W.instObj C s.heap.objs.size)}:=by
 have e1:(s.heap.push PySem.W.emptyDict).get? s.heap.objs.size=some PySem.W.emptyDict:=Ur s.heap rfl
 have e2:((s.heap.push PySem.W.emptyDict).push<|PySem.W.instObj C s.heap.objs.size).get? (s.heap.objs.size+1)=some (PySem.W.instObj C s.heap.objs.size):=by
  have:=Ur (s.heap.push PySem.W.emptyDict) (o:=PySem.W.instObj C s.heap.objs.size) rfl
  rwa [Vp]at this
 have g:(s.heap.push PySem.W.emptyDict).Ns s.heap.objs.size (λ_=>none):=(PySem.W.emptyDict,#[],_,e1,rfl,(λe d=>absurd d (by simp)),λ_=>rfl);have f:=I.laid (a:=s.heap.objs.size) (o:=.own (s.heap.objs.size+1)) (h':=s.heap.push PySem.W.emptyDict) (t':=s.toks) (λb u q=>TY _ q) (TQ _) (_,e1);show f.laid (a:=s.heap.objs.size+1) (o:=.ins C s.heap.objs.size []) (t':=s.toks) (λb u q=>TY _ q) (Nat.le_of_eq<|Vp _ _) ?_;have c:s.heap.objs.size≠s.heap.objs.size+1:=Uv<|VY _;show(by rw[ak c,ah],UK _,c,e2,λ_=>none,(Heap.Ns1.of_empty g).at λo q=>TY _ q,λ_=>True.intro,λy h=>absurd rfl h)
def  Mv {prog:Program} {w:World} {env:Env} {e:Expr} {f:Str} {pos:Pos} {s:Shared} {Q:Value->Shared->Prop} (a:attributeBase e f env (eval e env)=eval e env)
  (h:wpAny (model prog w) A (eval e env) (λo b=>wpAny (model prog w) A (getAttr o f true) Q E b) E s):wpAny (model prog w) A (eval (.Attribute e f pos) env) Q E s:=
 Attribute_any_ h (by rw[arm_eval_Attribute,a])
end
section
variable{X:Cx}{o e value:Expr}{f:Str}{pos pos' tpos:Pos}{ta tv:TE}
end
section
variable{X:Cx}{Tc:List (Addr × Obj)}{σ:St}{H:Hp}{s:Shared}{A:Around}{E:Value->Shared->Prop}{Q:Value->Shared->Prop}{c:Value}{b:Bool}
inductive TyOf(K:Frag)(H:Hp):V->Value->Prop where
 | non:TyOf K H .non (.type "NoneType")
 | bl (x:Bool):TyOf K H (.bl x) (.type "bool")
 | int (i:Int):TyOf K H (.int i) (.type "int")
 | str (x:Str):TyOf K H (.str x) (.type "str")
 | flt (x:UInt64):TyOf K H (.flt x) (.type "float")
 | lst {a:Addr} {xs:List V} (e:H a=↥xs):TyOf K H (.ref a) (.type "list")
 | frz {a:Addr} {o:Obj} {xs:List V} (e:H a=some (.frz o<|.lst xs)):TyOf K H (.ref a) (.type "list")
 | tup {a:Addr} {xs:List V} (e:H a=some (.tup xs)):TyOf K H (.ref a) (.type "tuple")
 | dK {a:Addr} {Tf:List (Key × V)} (e:H a=some (.dK Tf)):TyOf K H (.ref a) (.type "dict")
 | dT {a:Addr} {Tf:List (List Key × V)} (e:H a=some (.dT Tf)):TyOf K H (.ref a) (.type "dict")
 | ins {a C dx:Addr} {fs:List (Str × V)} (e:H a=some (.ins C dx fs)) (cl:Cls K C) (ha:findIn K (.ref C) "__class__"=some (some<|.builtin "object.__class__"))
   (hn:PySem.W.specialIn K (.builtin "object.__class__") "__get__"=some (some<|.builtin "getset_descriptor.__get__")) (htk:PySem.W.takesIn K (.builtin "object.__class__")=some true)
   (hm:PySem.W.mroIn K C (.type "object")=some true):TyOf K H (.ref a) (.ref C)
def Jj{x:V}{u t:Value}(I:Inv X Tc σ H s)(d:RelV x u)(F:TyOf X.K H x t)(e:PySem.W.kitOne X.K t c=some b)(h:∀ m,Q (.bool b) {s with toks:=m}):
  wpAny (model X.prog X.w) A (call (.builtin "isinstance") [u,c]) Q E s:=by
 cases F with
 | non=>cases (show u=Value.none from d);show U3 PySem.W.kitx_none I.kIn True.intro e (λz=>nomatch z) h
 | bl y=>cases (show u=Value.bool y from d);show U3 PySem.W.kitx_bool I.kIn True.intro e (λz=>nomatch z) h
 | int i=>obtain⟨t,q⟩:=(show ∃ t,u=Value.int i t from d);cases q;show U3 PySem.W.kitx_int I.kIn True.intro e (λz=>nomatch z) h
 | str y=>obtain⟨t,q⟩:=(show ∃ t,u=Value.str y t from d);cases q;show U3 PySem.W.kitx_str I.kIn True.intro e (λz=>nomatch z) h
 | flt y=>obtain⟨t,q⟩:=(show ∃ t,u=Value.float y t from d);cases q;show U3 PySem.W.kitx_float I.kIn True.intro e (λz=>nomatch z) h
 | @lst a g f=>
  cases (show u=Value.ref a from d);obtain⟨_,_,n,_,h1⟩:=(show ObjOk X.prog X.w H s.heap a (.lst g) from I.hok a _ f);show U3 PySem.W.kitx_list I.kIn (_,h1,rfl) e (λz=>nomatch z) h
 | @frz a L g f=>
  cases (show u=Value.ref a from d);obtain⟨_,_,_,n,_,h1⟩:=(show ObjOk X.prog X.w H s.heap a (.frz L<|.lst g) from I.hok a _ f);show U3 PySem.W.kitx_list I.kIn (_,h1,rfl) e (λz=>nomatch z) h
 | @tup a g f=>
  cases (show u=Value.ref a from d);obtain⟨_,_,_,p⟩:=(show ObjOk X.prog X.w H s.heap a (.tup g) from I.hok a _ f);obtain⟨o,h1,h2,_⟩:=p;show U3 PySem.W.kitx_tuple I.kIn (o,h1,h2) e (λz=>nomatch z) h
 | @dK a j f=>
  cases (show u=Value.ref a from d);obtain⟨_,_,vs,_,p⟩:=(show ObjOk X.prog X.w H s.heap a (.dK j) from I.hok a _ f);obtain⟨o,B,r,h1,h2,_⟩:=p;show U3 PySem.W.kitx_dict I.kIn (o,h1,h2.1) e (λz=>nomatch z) h
 | @dT a j f=>
  cases (show u=Value.ref a from d);obtain⟨_,_,g,_,o,B,r,h1,h2,_⟩:=(show ObjOk X.prog X.w H s.heap a (.dT j) from I.hok a _ f);show U3 PySem.W.kitx_dict I.kIn (o,h1,h2.1) e (λz=>nomatch z) h
 | @ins a C M N f l D G k v=>
  cases (show u=Value.ref a from d);obtain⟨mA,O,_⟩:=vV I.hok f;obtain⟨P,J,_⟩:=O.look;show U3 (PySem.W.kitx_own (l.get _) l.hd D G k v) I.kIn J e (λz=>nomatch z) h
end
structure Room(k:Nat)(A:Around):Prop where
 hd:A.handled=none
 dp:A.depth+3*k+5<recursionLimit
 un:A.units+16*k+200<cLine
variable{A:Around}
def  Room.mono{j k:Nat}(r:Room k A)(h:j<=k):Room j A:=(r.hd,by have:=r.dp;omega,by have:=r.un;omega)
def  Room.deeper{k:Nat}(r:Room (k+1) A)(env:Env):Room k (A.deeper env):=
 (r.hd,by have:=r.dp;change A.depth+1+3*k+5<_;omega,by have:=r.un;change A.units+3+16*k+200<_;omega)
variable{us:List Value}{kw:List (Str × Value)}
def HW{C:Addr}:(A.under<|.builtin "type.__call__" (.ref C::us,kw)).depth=A.depth+1:=by
 first | rfl | simp[Around.under,Code.weight,Code.isCreation,Code.isGuard,Code.isCaller,Code.frames,Code.isFrame,guardIds]
def HX{C:Addr}:(A.under<|.builtin "type.__call__" (.ref C::us,kw)).units=A.units+1:=by
 first | rfl | simp[Around.under,Code.cUnits,Code.frames,Code.isFrame]
def  Room.make{k:Nat}(r:Room (k+1) A)(C:Addr)(us:List Value)(kw:List (Str × Value)):Room k (A.under<|.builtin "type.__call__" (.ref C::us,kw)):=
 (r.hd,by have:=r.dp;rw[HW];omega,by have:=r.un;rw[HX];omega)
def  Room.depth{k:Nat}(r:Room k A):A.depth<recursionLimit:=by have:=r.dp;omega
def  Room.units{k:Nat}(r:Room k A):A.units+64<cLine:=by have:=r.un;omega
def  tNil:TA:=λ_ H Q=>Q [] H
def  tCons(e:TE)(a:TA):TA:=λσ H Q=>e σ H λx d=>a σ d λc b=>Q (x::c) b
section
variable{X:Cx}{e:Expr}{es:List Expr}{te:TE}{t:TA}{pos:Pos}
def  ab:PA X [] tNil:=λ_ _ _ _ H Q I h=>Vx ([],H,I,.nil,h)
def aa(i:PE X e te)(f:PA X es t)(k:starEach (e::es) X.env=(false ,eval e X.env)::starEach es X.env:=by rfl):PA X (e::es) (tCons te t):=by
 intro pos a s σ H Q I h;rw[k];change wpAny _ _ (spliced ((false ,eval e X.env)::backTo pos (starEach es X.env))) _ _ s;show Vq<|thn (i a s σ H _ I h) λu s1 ⟨x,m,g,r1,j⟩=>?_;show thn (f pos a s1 σ m _ g j) λus n ⟨l,d,b,r2,c⟩=>(x::l,d,b,.cons r1 r2,c)
def  tTup(t:TA):TE:=λσ H Q=>t σ H λb a=>b.length<=sizeLine/\∀ p,a p=none->Q (.ref p) (upd a p<|.tup b)
def  tLst(t:TA):TE:=λσ H Q=>t σ H λb a=>b.length<=sizeLine/\∀ p,a p=none->Q (.ref p) (upd a p<|.lst b)
def bW{x1}(h:PA X es t):PE X (.Tuple es x1 pos) (tTup t):=by
 intro f s σ H Q I i;show wpAny_Tuple_spliced (thn (h pos f s σ H _ I i) λus s1 ⟨g,c,a,r,z,q⟩=>(by rw[← r.length];show z,?_));have d:c s1.heap.objs.size=none:=a.hok.fresh<|TQ _;show(.ref s1.heap.objs.size,upd c s1.heap.objs.size<|.tup g,a.laid (t':=s1.toks) (λb u e=>TY _ e) (TQ _) ?_,rfl,q _ d);show(z,us,r,(_,Ur _ rfl,rfl,_,rfl))
def aw(h:PA X es t):PE X (.List es pos) (tLst t):=by
 intro f s σ H Q I i;show wpAny_List_spliced (thn (h pos f s σ H _ I i) λus s1 ⟨g,c,a,r,z,q⟩=>(by rw[← r.length];show z,?_));have d:c s1.heap.objs.size=none:=a.hok.fresh<|TQ _;show(.ref s1.heap.objs.size,upd c s1.heap.objs.size<|.lst g,a.laid (t':=s1.toks) (λb u e=>TY _ e) (TQ _) ?_,rfl,q _ d);show(z,us,0,r,Ur _ rfl)
end
abbrev Sp:=List V->Hp->VK->XK->Prop
abbrev CXT:=List Env->Hp->Shared->XK->Value->Shared->Prop
structure Env0(P:Program)(w:World)(K:Frag)(mg:Str->Option Value)(base:Heap)(A:Around)(outer:List Env)(s:Shared)(H:Hp):Prop where
 frames:A.frames=some outer
 mod:Mod K mg base
 bs:∀ b o,base.get? b=some o->s.heap.get? b=some o/\H b=none
 bsz:base.objs.size<=s.heap.objs.size
 funs:s.heap.FunFrames base outer
 frf:∀ b∈frs outer,H b=none
 hok:HOk P w H s.heap
 bare:AllBare s.gens
def  CE(a:List Env)(P:Program)(w:World)(H:Hp)(s:Shared)(Q:VK)(u:Value)(s':Shared):Prop:=
 ∃ v b,s'.os=s.os/\AllBare s'.gens/\Un (frs a) [] H b s.heap s'.heap/\HOk P w b s'.heap/\RelV v u/\Q v b
def  CR(CX:CXT)(a:List Env)(P:Program)(w:World)(H:Hp)(s:Shared)(Q:VK)(E:XK)(r:Result)(s':Shared):Prop:=
 match r with
 | .ok (.ret u)=>CE a P w H s Q u s'
 | .ok _=>False
 | .error e=>CX a H s E e s'
structure FnOk(P:Program)(w:World)(K:Frag)(mg:Str->Option Value)(base:Heap)(CX:CXT)(k:Nat)(f:Addr)(fd:FuncData)(ps:List Str)(sp:Sp):Prop where
 len:∀ vs H Q E,sp vs H Q E->vs.length=ps.length
 run:∀(A:Around) (outer:List Env) (s:Shared) (H:Hp) (args:Args) (us:List Value) (vs:List V) (Q:VK) (E:XK),Room k A->Env0 P w K mg base A outer s H->BindsTo s fd args (ps.zip us)->Vals vs us->sp vs H Q E->
  codeAny (model P w) A (.call (.ref f) args) (CR CX outer P w H s Q E) s
variable{P:Program}{w:World}{K:Frag}{mg:Str->Option Value}{base:Heap}{CX:CXT}{f:Addr}{fd:FuncData}{ps:List Str}
def  FnOk.mono{j k:Nat}{sp:Sp}(F:FnOk P w K mg base CX j f fd ps sp)(h:j<=k):
  FnOk P w K mg base CX k f fd ps sp:=(F.len,λA a s H b us vs Q E c=>F.run A a s H b us vs Q E<|c.mono h)
def  FnOk.imp {k:Nat} {sp c:Sp} (F:FnOk P w K mg base CX k f fd ps sp)
  (h:∀ vs H Q E,c vs H Q E->sp vs H Q E):FnOk P w K mg base CX k f fd ps c:=
 (λvs H Q E q=>F.len vs H Q E<|h _ _ _ _ q,λA a s H b us vs Q E g e d i j=>F.run A a s H b us vs Q E g e d i<|h _ _ _ _ j)
variable{outer:List Env}
def  Env0.make{s:Shared}{H:Hp}(e:Env0 P w K mg base A outer s H)(C:Addr)(us:List Value)(kw:List (Str × Value)):
  Env0 P w K mg base (A.under<|.builtin "type.__call__" (.ref C::us,kw)) outer s H:=(by first | show e.frames | (simpa [Around.under,Code.envs,Code.isFrame,pushEnvs] using e.frames),e.mod,e.bs,e.bsz,e.funs,e.frf,e.hok,e.bare)
section
variable{X:Cx}{Tc:List (Addr × Obj)}{σ:St}{H:Hp}{s s':Shared}
def  Inv.env0(I:Inv X Tc σ H s):Env0 X.prog X.w X.K X.mg X.base X.A X.stack s H:=
 (I.ok.frames,I.ok.mod,I.bs,TU I.ok.bsz I.sz,I.stack,I.stkFree,I.hok,I.bare)
def Inv.after{Q:VK}{u:Value}(I:Inv X Tc σ H s)(h:CE X.stack X.prog X.w H s Q u s'):EP X Tc σ Q u s':=by
 obtain⟨v,j,i,a,f,c,r,q⟩:=h;obtain⟨k,g,d,t,e⟩:=s';obtain rfl:e=s.os:=i;show(v,j,I.call (h':=k) (g':=g) (d':=d) (t':=t) (ch:=[]) f c a (λb z=>absurd z (by simp)),r,q)
end
def  tCall(sp:Sp)(a:List V)(E:XK)(t:TA):TE:=λσ H Q=>t σ H λvs b=>sp (vs++a) b Q E
def  tMake(C:Addr)(sp:Sp)(c:List V)(E:XK)(t:TA):TE:=λσ H Q=>t σ H λvs b=>∀ x a,b x=none->b a=none->a≠x->
 sp (.ref x::(vs++c)) (upd (upd b a<|.own x) x<|.ins C a []) (λv d=>v=.non/\Q (.ref x) d) E
def  Binds(K:Frag)(fd:FuncData)(ps:List Str)(a:List Value):Prop:=
 ∀(s:Shared) (us:List Value),K.In s.heap->(us++a).length=ps.length->BindsTo s fd (us,[]) (ps.zip<|us++a)
def  Binds.all(h:∀ us:List Value,us.length=ps.length->bindArgs fd (us,[])=pure (ps.zip us)):Binds K fd ps []:=λs us _ a=>by
 rw[Wz]at a ⊢;show .of_eq (h us a)
def  uD(CX:CXT)(X:Cx)(E:XK):Prop:=∀(b:List (Addr × Obj)) (σ:St) (H:Hp) (s:Shared) (e:Value) (a:Shared),Inv X b σ H s->CX X.stack H s E e a->X.xe e a
section
variable{X:Cx}{CX:CXT}{k:Nat}{f C:Addr}{fd:FuncData}{ps:List Str}{sp:Sp}{dvs:List V}{ds:List Value}{E:XK}{x m:Str}{p pos apos:Pos}{e o:Expr}{es:List Expr}{ta:TE}{t:TA}
def DT {b:List (Addr × Obj)} {σ:St} {H:Hp} {s:Shared} {Q:VK} {us:List Value} {vs:List V} (F:FnOk X.prog X.w X.K X.mg X.base CX k f fd ps sp) (i:Room k X.A) (c:Binds X.K fd ps ds) (j:Vals dvs ds) (g:uD CX X E)
  (I:Inv X b σ H s) (r:Vals vs us) (h:sp (vs++dvs) H Q E):wpAny (model X.prog X.w) X.A (call (.ref f) us) (EP X b σ Q) X.xe s:=by
 have r2:Vals (vs++dvs) (us++ds):=r.append j;have l:(us++ds).length=ps.length:=by rw[← r2.length];show F.len _ _ _ _ h
 show wpAny_call (XT (F.run X.A X.stack s H (us,[]) (us++ds) (vs++dvs) Q E i I.env0 (c s us I.kIn l) r2 h) λr m a=>?_)
 cases r with
 | error e=>show g b σ H s e m I a
 | ok d=>
  cases d with
  | ret u=>show I.after a
  | next=>show False.elim a
  | brk=>show False.elim a
  | cont=>show False.elim a
def Mw (F:FnOk X.prog X.w X.K X.mg X.base CX k f fd ps sp) (m:Room k X.A) (d:Gl X x) (o:X.mg x=↑f) (v:keepIn X.K (.ref f)=true) (g:Binds X.K fd ps ds) (u:Vals dvs ds) (j:uD CX X E)
  (n:PA X (e::es) t) (b:(x==("__debug__":Str))=false:=by decide) (l:starEach (e::es) X.env=(false ,eval e X.env)::starEach es X.env:=by rfl) (a:(backTo pos<|starEach es X.env).any (·.1)=false:=by rfl):
  PE X (.Call (.Name x p) (e::es) [] pos) (tCall sp dvs E t):=by
 intro i s σ H Q I h;show U2<|A4 I d o ?_ b;show WQ (h₀:=X.base) I.ok.mod.kin v (thn (n pos i s σ H _ I h) λus s1 ⟨vs,y,c,r,q⟩=>(c.kIn,?_)) l a;show DT F m g u j c r q
structure Mk(K:Frag)(C f:Addr):Prop where
 makes:PySem.W.makesIn K C=true
 init:findIn K (.ref C) "__init__"=some ↑f
 fn:isFn K (.ref f)=true
 kp:keepIn K (.ref C)=true
def K3 {d:List (Addr × Obj)} {σ:St} {H:Hp} {s:Shared} {Q:VK} {us:List Value} {vs:List V} (M:Mk X.K C f) (F:FnOk X.prog X.w X.K X.mg X.base CX k f fd ps sp) (n:Room (k+1) X.A) (i:Binds X.K fd ps ds) (p:Vals dvs ds)
  (l:uD CX X E) (I:Inv X d σ H s) (r:Vals vs us)
  (h:∀ x c,H x=none->H c=none->c≠x->sp (.ref x::(vs++dvs)) (upd (upd H c<|.own x) x<|.ins C c []) (λv j=>v=.non/\Q (.ref x) j) E):
  wpAny (model X.prog X.w) X.A (call (.ref C) us) (EP X d σ Q) X.xe s:=by
 have g:=h (s.heap.objs.size+1) s.heap.objs.size (I.hok.fresh<|Ws _) (I.hok.fresh<|TQ _)<|Uv<|VY _;have b:=Inv.made (C:=C) I;have r2:Vals (V.ref (s.heap.objs.size+1)::(vs++dvs)) (Value.ref (s.heap.objs.size+1)::(us++ds)):=.cons rfl (r.append p)
 have z:(Value.ref (s.heap.objs.size+1)::us++ds).length=ps.length:=by
  have e:=r2.length;rw[F.len _ _ _ _ g]at e;show e.symm
 show wpAny_call (K2 (f:=f) I.kIn M.makes M.init (Vz.mp M.fn)<|XT (F.run _ X.stack _ _ (Value.ref (s.heap.objs.size+1)::us,[]) (Value.ref (s.heap.objs.size+1)::(us++ds)) _ _ E (n.make C us [])
  (b.env0.make C us []) (i _ (Value.ref (s.heap.objs.size+1)::us) b.kIn z) r2 g) λr B a=>?_)
 cases r with
 | error e=>show l d σ _ _ e B b a
 | ok o=>
  cases o with
  | ret u=>
   obtain⟨v,t,y,q,m,D⟩:=b.after a;subst m;show(q,(V.ref<|s.heap.objs.size+1,t,y,rfl,D))
  | next=>show False.elim a
  | brk=>show False.elim a
  | cont=>show False.elim a
def My (M:Mk X.K C f) (F:FnOk X.prog X.w X.K X.mg X.base CX k f fd ps sp) (m:Room (k+1) X.A) (d:Gl X x) (o:X.mg x=↑C) (g:Binds X.K fd ps ds) (u:Vals dvs ds) (j:uD CX X E)
  (n:PA X (e::es) t) (b:(x==("__debug__":Str))=false:=by decide) (l:starEach (e::es) X.env=(false ,eval e X.env)::starEach es X.env:=by rfl) (a:(backTo pos<|starEach es X.env).any (·.1)=false:=by rfl):
  PE X (.Call (.Name x p) (e::es) [] pos) (tMake C sp dvs E t):=by
 intro i s σ H Q I h;show U2<|A4 I d o ?_ b;show WQ (h₀:=X.base) I.ok.mod.kin M.kp (thn (n pos i s σ H _ I h) λus s1 ⟨vs,v,c,r,q⟩=>(c.kIn,?_)) l a;show K3 M F m g u j c r q
end
section
variable{X:Cx}{CX:CXT}{k:Nat}{f C:Addr}{fd:FuncData}{ps ks:List Str}{sp:Sp}{E:XK}{x m:Str}{p pos apos kpos:Pos}{e o:Expr}{es:List Expr}{kws:List Keyword}{te ta:TE}{t tk:TA}{nm:Option Str}
variable{g:List Value->List Value->List Value}{gV:List V->List V->List V}
end
structure kc(N P:List Str)(sc:Scope):Prop where
 kind:sc.kind=.function
 co:sc.isCoroutine=false
 gen:sc.isGenerator=false
 nd:N.Nodup
 pre:N.take P.length=P
 par:∀ x∈P,sc.names.lookup x=some .local\/sc.names.lookup x=some .cell
 nofree:∀ y∈sc.names,y.2≠.free
def Ce{b:Str->Option NameKind}{x:Str}:∀{a:List (Str × Value)} {m:Str->Option Value},(∀ v,(x ,v)∉a)->bindL b a m x=m x
 | [],_,_=>rfl
 | (n ,v)::r,m,h=>by
  unfold bindL;rw[Ce λw hw=>h w<|TD _ hw]
  split
  . have:x≠n:=by rintro rfl;show h v TR
    simp[this]
  . rfl
def Cf{b:Str->Option NameKind}{x:Str}:∀{a:List (Str × Value)} {m:Str->Option Value},(∀ v,(x ,v)∉a)->bindC b a m x=m x
 | [],_,_=>rfl
 | (n ,v)::r,m,h=>by
  unfold bindC;rw[Cf λw hw=>h w<|TD _ hw]
  split
  . rfl
  . have:x≠n:=by rintro rfl;show h v TR
    simp[this]
def Cg{a:Str->Option NameKind}{x:Str}{v:Value}:∀{P:List Str} {vs:List Value} {i:Nat} {m:Str->Option Value},P.Nodup->P[i]? =some x->vs[i]? =some v->a x=some .local->
  bindL a (P.zip vs) m x=some v
 | [],_,_,_,_,h,_,_=>by simp at h
 | _::_,[],_,_,_,_,h,_=>by simp at h
 | p::P,w::vs,0,m,nd,h1,h2,hk=>by
  simp at h1 h2;subst h1;subst h2;change bindL a ((p ,w)::P.zip vs) m p=_;unfold bindL;rw[Ce λv b=>(UB.mp nd).1 (XB b).1,TZ hk];simp
 | p::P,w::vs,i+1,m,nd,h1,h2,hk=>by
  change bindL a ((p ,w)::P.zip vs) m x=_;unfold bindL;show Cg (i:=i) (UB.mp nd).2 (by simpa using h1) (by simpa using h2) hk
def Ch{a:Str->Option NameKind}{x:Str}{v:Value}:∀{P:List Str} {vs:List Value} {i:Nat} {m:Str->Option Value},P.Nodup->P[i]? =some x->vs[i]? =some v->a x≠some .local->
  bindC a (P.zip vs) m x=some v
 | [],_,_,_,_,h,_,_=>by simp at h
 | _::_,[],_,_,_,_,h,_=>by simp at h
 | p::P,w::vs,0,m,nd,h1,h2,hk=>by
  simp at h1 h2;subst h1;subst h2;change bindC a ((p ,w)::P.zip vs) m p=_;unfold bindC;rw[Cf λv b=>(UB.mp nd).1 (XB b).1,TX hk];simp
 | p::P,w::vs,i+1,m,nd,h1,h2,hk=>by
  change bindC a ((p ,w)::P.zip vs) m x=_;unfold bindC;show Ch (i:=i) (UB.mp nd).2 (by simpa using h1) (by simpa using h2) hk
def  start(N:List Str)(vs:List V):St:=vs.map some++List.replicate (N.length-vs.length) none
def  cxOf(CX:CXT)(P:Program)(w:World)(K:Frag)(mg:Str->Option Value)(base:Heap)(N:List Str)(a:Str)(scope:Scope)(f:Addr)(c:Value)(A:Around)(outer:List Env)(s:Shared)(H:Hp)(E:XK):Cx where
 prog:=P
 w:=w
 K:=K
 mg:=mg
 base:=base
 A:=A.deeper (envOfC a scope s.heap.objs.size f c)
 N:=N
 s₀:=s
 H₀:=H
 env:=envOfC a scope s.heap.objs.size f c
 outer:=outer
 stack:=envOfC a scope s.heap.objs.size f c::outer
 ex:=[]
 calm:=true
 fn:=λ_=>true
 pn:=[]
 xe:=λe g=>wpAny (model P w) (A.deeper<|envOfC a scope s.heap.objs.size f c) (leaving (envOfC a scope s.heap.objs.size f c) e) (λ_ b=>CX outer H s E e b) (λd b=>CX outer H s E d b) g
def sP{a:Scope}{n:Nat}{x:Str}(h:a.names.lookup x=some .cell):∃ c,(cellsFrom n a.names []).lookup x=some c:=by
 have q:=Xq a.names n []<|.inl h;show Option.isSome_iff_exists.mp q
variable{scope:Scope}
def Jk {N:List Str} {d:Str} {B:Value} {s s1:Shared} {H:Hp} {E:XK} {vs:List V}
  (S:kc N ps scope) (G:A.handled=none) (g:Env0 P w K mg base A outer s H) (M:vs.length=ps.length) (r:Vals vs us)
  (x:InCallC s s.heap.objs.size (bindL (envOfC d scope s.heap.objs.size f B).kindOf (ps.zip us) λ_=>none) (cellsFrom (s.heap.objs.size+1) scope.names []) (bindC (envOfC d scope s.heap.objs.size f B).kindOf (ps.zip us) λ_=>none) s1):
  Inv (cxOf CX P w K mg base N d scope f B A outer s H E) [] (start N vs) H s1:=by
 have I:ps.length<=N.length:=by have:=congrArg List.length S.pre;rw[Uu]at this;lia
 obtain⟨h1,L,rfl,D⟩:=x.done;have l:∀ b:Addr,b∉(cxOf CX P w K mg base N d scope f B A outer s H E).ex:=λb z=>absurd (show b∈([]:List Addr) from z) (by simp)
 show((g.mod,S.kind,rfl,rfl,TQ _,λy z c h1 h2=>?_,λy j=>?_,λy c _ h=>?_,λ_=>G,Around.frames_deeper g.frames,.inr (rfl,rfl),λb z=>absurd z<|l b,g.bs,g.bsz,λb _ _=>l b,λb z=>absurd z<|l b,g.funs,g.frf),
  rfl,g.bare,Un.kept D,(_,x.toInCall.ns,λi y v h1 h2 h3=>?_),λy c h=>(_,x.cell y c h),g.hok.fresh<|TQ _,λy c h=>?_,λp o=>absurd (show p∈([]:List (Addr × Obj)) from o) (by simp),g.hok.kept D,?_)
 . show name_of_addr x.apart (UZ h1) (UZ h2)
 . have j:scope.names.lookup y=some .cell\/scope.names.lookup y=some .free:=j;rcases j with j | j
   . show sP j
   . show absurd rfl (S.nofree _<|UZ j)
 . show Uy (x.above y c<|UZ h)
 . have t:i<vs.length:=by
    unfold start at h2;by_cases t:i<vs.length
    . show t
    . rw[Uc (by simpa using t)]at h2;rw[Xh]at h2
      split at h2 <;> cases h2
   have F:vs[i]? =some v:=by
    unfold start at h2;rw[Ub (by simpa using t),Tw]at h2
    cases e:vs[i]? with
    | none=>rw[e]at h2;cases h2
    | some a=>rw[e]at h2;cases h2;rfl
   obtain⟨u,C,J⟩:=r.get F
   have o:ps[i]? =some y:=by
    rw[← S.pre,List.getElem?_take_of_lt #[4]];show h1
   have m:ps.Nodup:=by rw[← S.pre];show S.nd.sublist (List.take_sublist _ _)
   show(u,J,?_);rcases S.par y (Tv o) with k | k
   . show .inl (k,Cg m o C k)
   . obtain⟨c,e⟩:=sP (n:=s.heap.objs.size+1) k;show .inr (.inl k,c,e,?_);have q:=x.cell y c e;rw[Ch m o C (by change scope.names.lookup y≠_;rw[k];decide)]at q;show q
 . show g.hok.fresh (Uy<|x.above y c<|UZ h)
 . unfold start;change _=N.length;rw[TJ,Tn,U7];lia
def L5 {k:Nat} {name a:Str} {c:Arguments} {d:List Stmt} {Y T m Z h ct oc:Value} {U od:Option Addr}
  {R:Array (Option Value)} {N ps:List Str} {sp:Sp} (lk:K.lookup f=some (oc,od,.func<|fnOf name a c d scope Y T m Z U h ct,R)) (F:codeIn K h a=true) (S:kc N ps scope)
  (C:∀ vs H Q E,sp vs H Q E->vs.length=ps.length)
  (i:∀(A:Around) (outer:List Env) (s:Shared) (H:Hp) (vs:List V) (Q:VK) (E:XK),Room k (A.deeper<|envOfC a scope s.heap.objs.size f h)->sp vs H Q E->
   ∃ t,PSs (cxOf CX P w K mg base N a scope f h A outer s H E) d t/\t {nx:=λ_ g=>Q .non g,rt:=Q} (start N vs) H):
  FnOk P w K mg base CX (k+1) f (fnOf name a c d scope Y T m Z U h ct) ps sp:=by
 show(C,λA outer s H ab us vs Q E L B hb r z=>?_);have hl:=C _ _ _ _ z;have X:K.In s.heap:=B.mod.kin.keeps λb o e=>(B.bs b o e).1;have O:s.heap.NoLimit:=B.mod.nolimit.keeps λb o e=>(B.bs b o e).1
 have j:∀ y∈ps.zip us,scope.names.lookup y.1=some .local\/(scope.names.lookup y.1=some .cell/\((cellsFrom (s.heap.objs.size+1) scope.names []).lookup y.1).isSome=true):=λ⟨n,v⟩ hy=>by
  rcases S.par n (XB hy).1 with q | q
  . show .inl q
  . show .inr (q,Xq _ _ _<|.inl q)
 show codeAny_call_function L.depth (X _ _ lk) rfl S.co S.gen rfl (PySem.W.codeRec_of X F)<|hb _ _ _ _ ?_;show wpAny_newFunctionEnv_cells S.kind j λae he s1 x=>?_;subst he;show(O.keeps x.toInCall.keep,codeAny_func ?_);obtain⟨t,ht,hq⟩:=i A outer s H vs Q E (L.deeper _) z;have I:Inv (cxOf CX P w K mg base N a scope f h A outer s H E) [] (start N vs) H s1:=Jk S L.hd B hl r x;show UT (ht [] s1 (start N vs) H _ I hq) (λfl G l=>?_) λe G l=>l
 have p:∀{D:St} {g:Hp} {v:V} {u:Value},Inv (cxOf CX P w K mg base N a scope f h A outer s H E) [] D g G->RelV v u->Q v g->CE outer P w H s Q u G:=
  λ{D g v u} J M q=>(v,g,J.os,J.bare,J.base,J.hok,M,q)
 cases fl with
 | ret u=>
  obtain⟨v,D,g,J,M,q⟩:=l;show p J M q
 | next=>
  obtain⟨D,g,J,q⟩:=l;show p (v:=V.non) (u:=Value.none) J rfl q
 | brk=>
  obtain⟨_,_,_,q⟩:=l;show False.elim q
 | cont=>
  obtain⟨_,_,_,q⟩:=l;show False.elim q
section
variable{X:Cx}{x:Str}{p pos:Pos}{e:Expr}{es:List Expr}{t:TA}{id T:String}{r:List V->Hp->VK->Prop}
def  tCB(r:List V->Hp->VK->Prop)(t:TA):TE:=λσ H Q=>t σ H λvs a=>r vs a Q
def ar (f:CallR X (.builtin id) r) (d:Gl X x) (l:X.mg x=none) (j:bootBuiltins x=some (.builtin id)) (k:PA X (e::es) t) (n:x≠"__name__":=by decide) (b:(x==("__debug__":Str))=false:=by decide)
  (g:starEach (e::es) X.env=(false ,eval e X.env)::starEach es X.env:=by rfl) (a:(backTo pos<|starEach es X.env).any (·.1)=false:=by rfl):PE X (.Call (.Name x p) (e::es) [] pos) (tCB r t):=by
 intro c s σ H Q I h;show U2<|fY I d l j ?_ n b;show Wn (thn (k pos c s σ H _ I h) λus s1 ⟨vs,o,i,r1,m⟩=>f c s1 σ o vs us Q i r1 m) g a
def cI (f:CallR X (.type T) r) (d:Gl X x) (l:X.mg x=none) (j:bootBuiltins x=some (.type T)) (k:PA X (e::es) t) (n:x≠"__name__":=by decide) (b:(x==("__debug__":Str))=false:=by decide)
  (g:starEach (e::es) X.env=(false ,eval e X.env)::starEach es X.env:=by rfl) (a:(backTo pos<|starEach es X.env).any (·.1)=false:=by rfl):PE X (.Call (.Name x p) (e::es) [] pos) (tCB r t):=by
 intro c s σ H Q I h;show U2<|fY I d l j ?_ n b;show Uz (thn (k pos c s σ H _ I h) λus s1 ⟨vs,o,i,r1,m⟩=>f c s1 σ o vs us Q i r1 m) g a
end
end L2
namespace HT
open PySem PyProof.Rows
section
open PySem.SeqAt
open PySem.AutoSeq1 (wpAny_loadPart')
open PySem.MeetsSeq PySem.MeetsSeq2 PySem.MeetsSeq3
end
section
variable{prog:Program}{w:World}{A:Around}{E:Value->Shared->Prop}{s:Shared}
def  sIx(n d:Nat):Option Int->Nat
 | none=>d
 | some v=>if v<0 then(v+(n:Int)).toNat else min v.toNat n
def  sIx_none(n d:Nat):sIx n d none=d:=rfl
def sIx_nat(n d k:Nat):sIx n d (some (k:Int))=min k n:=by
 change(if (k:Int)<0 then((k:Int)+(n:Int)).toNat else min (k:Int).toNat n)=min k n;rw[if_neg #[4],Int.toNat_natCast]
end
end HT
namespace L2
open PySem PySem.Spec PyProof.Rows
abbrev TO:=St->Hp->(Option Int->Hp->Prop)->Prop
def  PO(X:Cx)(e:Option Expr)(t:TO):Prop:=
 ∀(b:List (Addr × Obj)) (s:Shared) (σ:St) (H:Hp) (Q:Option Int->Hp->Prop),Inv X b σ H s->t σ H Q->
  wpAny (model X.prog X.w) X.A (evalPart e X.env) (λu c=>∃ o a,Inv X b σ a c/\IsPart u o/\Q o a) X.xe s
def  gC:TO:=λ_ H Q=>Q none H
def  tPart(t:TE):TO:=λσ H Q=>t σ H λx a=>∃ i,x=.int i/\Q (some i) a
def y8{ns:∅}:∀{us:List Value},Vals (ns.map V.int) us->IntsAre us ns:=by
 induction ns with
 | nil=>intro us r;rw[XU]at r;cases r;show .nil
 | cons n ns a=>
  intro us r;rw[T7]at r
  cases r with
  | cons r1 r2=>
   obtain⟨t,e⟩:=r1;subst e;show .cons n t (a r2)
section
variable{X:Cx}{e:Expr}{te:TE}{lo hi:Option Expr}{tl th:TO}{pos p2:Pos}
def kd:PO X none gC:=by
 intro a s σ H Q I h;rw[evalPart_none];show Ux (none,H,I,.none,h)
def fV(h:PE X e te):PO X (some e) (tPart te):=by
 intro d s σ H Q I hw;rw[evalPart_some];show thn (h d s σ H _ I hw) λu s1 ⟨x,b,a,r1,c⟩=>?_;obtain⟨i,rfl,q⟩:=c;obtain⟨t,rfl⟩:=r1;show(some i,b,a,.int i t,q)
def  SlR(X:Cx)(r:V->Option Int->Option Int->Hp->VK->Prop):Prop:=
 ∀(c:List (Addr × Obj)) (s:Shared) (σ:St) (H:Hp) (x:V) (v d b:Value) (lo hi:Option Int) (a:Addr) (Q:VK),Inv X c σ H s->RelV x v->s.heap.IsSliceOf a d b .none->IsPart d lo->IsPart b hi->r x lo hi H Q->
  ∃ T id,typeLookup (.type T) "__getitem__"=pure (some<|.builtin id)/\s.TypeIs v T/\wpAny (model X.prog X.w) X.A (getItem v<|.ref a) (EP X c σ Q) X.xe s
def  tSl(r:V->Option Int->Option Int->Hp->VK->Prop)(te:TE)(tl th:TO):TE:=λσ H Q=>te σ H λx b=>tl σ b λl c=>th σ c λu a=>r x l u a Q
def ge{r:V->Option Int->Option Int->Hp->VK->Prop}(E:SlR X r)(m:PE X e te)(z:PO X lo tl)(C:PO X hi th):PE X (.Subscript e (.Slice lo hi none p2) pos) (tSl r te tl th):=by
 intro c s σ H Q I h;show Subscript_<|thn (m c s σ H _ I h) λv s1 ⟨x,L,n,r1,K⟩=>?_;show wpAny_Slice<|thn (z c s1 σ L _ n K) λd G ⟨l,t,p,o,D⟩=>thn (C c G σ t _ p D) λf a ⟨u,g,F,j,J⟩=>?_;rw[evalPart_none];show Ux ?_;have y:Inv X c σ g {a with heap:=a.heap.push {cls:=.type "slice",data:=.fields #[d,f,.none]}}:=F.kept (t':=a.toks) λb M q=>TY _ q;obtain⟨T,id,i,k,B⟩:=E c {a with heap:=a.heap.push {cls:=.type "slice",data:=.fields #[d,f,.none]}} σ g x v d f l u a.heap.objs.size Q y r1 (Heap.IsSliceOf.new ..) o j J;change wpAny (model X.prog X.w) X.A (subscriptTail e (.Slice lo hi none p2) v<|.ref a.heap.objs.size) (EP X c σ Q) X.xe {a with heap:=a.heap.push {cls:=.type "slice",data:=.fields #[d,f,.none]}};show tail_any (ops:=[.ref a.heap.objs.size,v]) k i B (by with_unfolding_all rfl)
def  cutV(xs:List V)(lo hi:Option Int):List V:=(xs.drop<|HT.sIx xs.length 0 lo).take (HT.sIx xs.length xs.length hi-HT.sIx xs.length 0 lo)
def Ge(xs:List V)(lo hi:Option Int):(cutV xs lo hi).length<=xs.length:=by
 unfold cutV;rw[Uu,Xi];lia
end
def  ixN(n:Nat)(i:Int):Option Nat:=if 0<=i then(if i<n then some i.toNat else none) else if -(n:Int)<=i then some (i+n).toNat else none
def  atI{α:Type}(xs:List α)(i:Int):Option α:=(ixN xs.length i).bind λj=>xs[j]?
def Mz{n:Nat}{i:Int}{j:Nat}(h:ixN n i=some j):seqIndex? i n=some j/\j<n/\ -(n:Int)<=i/\i<n:=by
 unfold ixN at h;by_cases h0:0<=i
 . rw[TZ h0]at h;by_cases h1:i<n
   . rw[TZ h1]at h;have e:i.toNat=j:=Ve h;show(by rw[seqIndex_of h0 h1,e],by lia,by lia,h1)
   . rw[TX h1]at h;cases h
 . rw[TX h0]at h;by_cases h1: -(n:Int)<=i
   . rw[TZ h1]at h;have e:(i+n).toNat=j:=Ve h;show(by rw[seqIndex_neg #[4] h1,e],by lia,h1,by lia)
   . rw[TX h1]at h;cases h
def A5{α:Type}{xs:List α}{i:Int}{v:α}(h:atI xs i=some v):∃ j,seqIndex? i xs.length=some j/\xs[j]? =some v/\j<xs.length/\ -(xs.length:Int)<=i/\i<xs.length:=by
 unfold atI at h
 cases e:ixN xs.length i with
 | none=>rw[e]at h;cases h
 | some j=>
  rw[e]at h;obtain⟨h1,h2,h3,h4⟩:=Mz e;show(j,h1,h,h2,h3,h4)
def fG{α:Type}{xs:List α}{j:Nat}{v:α}(h:xs[j]? =some v):atI xs (j:Int)=some v:=by
 have a:j<xs.length:=(Tr.mp h).1
 have e:ixN xs.length (j:Int)=some j:=by
  unfold ixN;rw[TZ #[4],TZ #[4]];simp
 unfold atI;rw[e];show h
def  A6(b:Expr):Prop:=∀ o i,subscripted b false o i=operate [o,i] (getItem o i)
def  IxR(X:Cx)(r:R2):Prop:=
 ∀(b a:Expr) (c:List (Addr × Obj)) (s:Shared) (σ:St) (H:Hp) (x y:V) (v u:Value) (Q:VK),Inv X c σ H s->RelV x v->RelV y u->r x y H Q->
  subscripted a false v u=operate [v,u] (getItem v u)->wpAny (model X.prog X.w) X.A (subscriptTail b a v u) (EP X c σ Q) X.xe s
def  MtR(X:Cx)(id:String)(r:V->List V->Hp->VK->Prop):Prop:=
 ∀(b:List (Addr × Obj)) (s:Shared) (σ:St) (H:Hp) (x:V) (a:List V) (v:Value) (c:List Value) (Q:VK),Inv X b σ H s->RelV x v->Vals a c->r x a H Q->
  wpAny (model X.prog X.w) X.A (call (.builtin id) (v::c)) (EP X b σ Q) X.xe s
section
variable{X:Cx}{a b:Expr}{ta tb:TE}{pos:Pos}
def DI{r:R2}(j:IxR X r)(k:PE X a ta)(f:PE X b tb)(l:A6 b):PE X (.Subscript a b pos) (tOp r ta tb):=by
 intro g s σ H Q I h;show Subscript_ (binT k f I h λv u m x y e c d i q=>j a b g m σ e x y v u Q c d i q<|l _ _)
def  rIxL(K:Frag):R2:=λx y H Q=>∃ p a i v,x=.ref p/\y=.int i/\SqL K H p a/\atI a i=some v/\Q v H
def  rIxT(K:Frag):R2:=λx y H Q=>∃ p a i v,x=.ref p/\y=.int i/\SqT K H p a/\atI a i=some v/\Q v H
def  rIxS:R2:=λx y H Q=>∃ z i c,x=.str z/\y=.int i/\z.length<=sizeLine/\atI z.cps.toList i=some c/\Q (.str ⟨#[c]⟩) H
def G6:IxR X (rIxL X.K):=by
 intro b e g s σ H x y v u Q I B D h k;obtain⟨p,E,i,z,rfl,rfl,A,m,q⟩:=h;cases B;obtain⟨t,rfl⟩:=D;obtain⟨C,r,c,F⟩:=I.list A;obtain⟨j,h1,h2,h3,h4,h5⟩:=A5 m;obtain⟨w,l,f⟩:=r.get h2;have o:=r.length;have G:=uB;have a:EP X g σ Q w s:=(z,H,I,f,q);by_cases h0:0<=i
 . have d:i.toNat=j:=by
    rw[seqIndex_of h0 h5]at h1;show Ve h1
   show item_listR c.isList h0 #[4] (by rw[d];simpa using l) a k
 . have d:(i+(C.toArray.size:Int)).toNat=j:=by
    rw[seqIndex_neg #[4] h4]at h1;rw[T1,← o];show Ve h1
   show Xr (x:=w) c.isList.typeIs slot_list_getitem.lookup
    (wpAny_getItem_list_neg (Q:=λr n=>r=w/\EP X g σ Q r n) c.isList #[4] (by rw[T1] <;> lia) #[4] (by rw[d];simpa using l) (rfl,a)) k
def NV:IxR X (rIxT X.K):=by
 intro a c e s σ H x y v u Q I g k h n;obtain⟨p,F,i,z,rfl,rfl,o,l,q⟩:=h;cases g;obtain⟨t,rfl⟩:=k;obtain⟨C,r,f,D⟩:=I.tuple o;obtain⟨j,h1,h2,h3,h4,h5⟩:=A5 l;obtain⟨w,B,b⟩:=r.get h2;have m:=r.length;have E:=uB;have d:EP X e σ Q w s:=(z,H,I,b,q)
 show Xr (x:=w) f.typeIs slot_tuple_getitem.lookup
  (getItem_tuple (j:=j) (Q:=λr A=>r=w/\EP X e σ Q r A) f #[4] #[4] (by rw[T1,← m];show h1) (by simpa using B) (rfl,d)) n
def NW:IxR X rIxS:=by
 intro a b l s σ H x y v u Q I d e h g;obtain⟨z,i,c,rfl,rfl,n,f,q⟩:=h;obtain⟨t,rfl⟩:=d;obtain⟨m,rfl⟩:=e;obtain⟨j,h1,h2,h3,h4,h5⟩:=A5 f;have k:z.cps.toList.length=z.length:=by simp[Str.length]
 rw[k]at h1 h4 h5;have o:=uB
 show tail_any (Wo s z t) slot_str_getitem.lookup (getItem_str (c:=c) (by
  have e1:decide (i < -(2^63:Int))=false:=Tq #[4];have e2:decide (i ≥ 2^63)=false:=Tq #[4];rw[e1,e2,Bool.or_false]) (by rw[h1];simpa using h2) (.str ⟨#[c]⟩,H,I.tok _,(_,rfl),q)) g
def Inv.lst{a:List (Addr × Obj)}{σ:St}{H:Hp}{s:Shared}{p:Addr}{xs:List V}(I:Inv X a σ H s)(h:H p=↥xs):
  ∃(Tg:List Value) (n:Nat),Vals xs Tg/\s.heap.get? p=some {cls:=.type "list",data:=.seq Tg.toArray n}/\xs.length<=sizeLine:=by
 obtain⟨z,Tg,n,r,e⟩:=I.hok p _ h;show(Tg,n,r,e,z)
def DU(lo a:Option Int)(n:Nat):(sliceBounds lo a none n).1=((HT.sIx n 0 lo:Nat):Int)/\(sliceBounds lo a none n).2.1=((HT.sIx n n a:Nat):Int)/\(sliceBounds lo a none n).2.2=1:=by
 show(?_,?_,rfl)
 . cases lo with
   | none=>simp[sliceBounds,HT.sIx]
   | some i=>
    simp only[sliceBounds,HT.sIx,Option.getD_none,show(1:Int)>0 by decide,We];by_cases h:i<0
    . simp only[h,We] <;> lia
    . simp only[h,XV] <;> lia
 . cases a with
   | none=>simp[sliceBounds,HT.sIx]
   | some i=>
    simp only[sliceBounds,HT.sIx,Option.getD_none,show(1:Int)>0 by decide,We];by_cases h:i<0
    . simp only[h,We] <;> lia
    . simp only[h,XV] <;> lia
def CY(Tg:List Value)(lo a:Option Int):slicePick Tg.toArray lo a none=((Tg.drop<|HT.sIx Tg.length 0 lo).take<|HT.sIx Tg.length Tg.length a-HT.sIx Tg.length 0 lo).toArray:=by
 obtain⟨h1,h2,h3⟩:=DU lo a Tg.toArray.size;unfold slicePick;rw[h1,h2,h3];simp only[sliceRange_one,pick_run,T1] <;> rfl
def  rSlL(K:Frag):V->Option Int->Option Int->Hp->VK->Prop:=λx c d H Q=>∃ a b,x=.ref a/\SqL K H a b/\∀ p,H p=none->Q (.ref p) (upd H p<|.lst<|cutV b c d)
def MA:SlR X (rSlL X.K):=by
 intro u s σ H x v z t d e w Q I i l m g h;obtain⟨a,c,rfl,j,q⟩:=h;cases i;obtain⟨p,r,f,k⟩:=I.list j;have n:=r.length;show("list",_,slot_list_getitem.lookup,f.isList.typeIs,?_);show wpAny_getItem_list_slice f.isList l m g .none (by simp) ?_ (by rw[T1] <;> lia);rw[CY,← n];show(.ref s.heap.objs.size,_,I.laid (t':=s.toks) (o:=.lst (cutV c d e)) (λb y q=>TY _ q) (TQ _) ?_,rfl,q _<|I.hok.fresh<|TQ _);show(TU (Ge c d e) k,_,0,(r.drop<|HT.sIx c.length 0 d).take<|HT.sIx c.length c.length e-HT.sIx c.length 0 d,Ur _ rfl)
def  flatV:V->Bool
 | .non=>true
 | .bl _=>true
 | .int _=>true
 | .str _=>true
 | _=>false
def  eqV:V->V->Bool
 | .non,.non=>true
 | .bl a,.bl b=>a==b
 | .bl a,.int b=>(if a then 1 else 0)==b
 | .int a,.bl b=>a==(if b then 1 else 0)
 | .int a,.int b=>a==b
 | .str a,.str b=>a==b
 | _,_=>false
def NX{A:Around}{s:Shared}{y x:V}{u v:Value}(e:RelV y u)(c:RelV x v)(g:flatV y=true)(f:flatV x=true):SeqAt.EqAt A s u v (eqV y x):=by
 cases y with
 | non=>
  cases e
  cases x with
  | non=>cases c;show SeqAt.EqAt.same _
  | bl b=>cases c;show SeqAt.EqAt.none_bool b
  | int b=>obtain⟨t,rfl⟩:=c;show SeqAt.EqAt.none_int b t
  | str b=>obtain⟨t,rfl⟩:=c;show SeqAt.EqAt.none_str b t
  | _=>show absurd (show false=true from f) TB
 | bl a=>
  cases e
  cases x with
  | non=>cases c;show SeqAt.EqAt.bool_none a
  | bl b=>cases c;show SeqAt.EqAt.bool_bool a b
  | int b=>obtain⟨t,rfl⟩:=c;show SeqAt.EqAt.bool_int a b t
  | str b=>obtain⟨t,rfl⟩:=c;show SeqAt.EqAt.bool_str a b t
  | _=>show absurd (show false=true from f) TB
 | int a=>
  obtain⟨d,rfl⟩:=e
  cases x with
  | non=>cases c;show SeqAt.EqAt.int_none a d
  | bl b=>cases c;show SeqAt.EqAt.int_bool a d b
  | int b=>obtain⟨t,rfl⟩:=c;show SeqAt.EqAt.int_int a d b t
  | str b=>obtain⟨t,rfl⟩:=c;show SeqAt.EqAt.int_str a d b t
  | _=>show absurd (show false=true from f) TB
 | str a=>
  obtain⟨d,rfl⟩:=e
  cases x with
  | non=>cases c;show SeqAt.EqAt.str_none a d
  | bl b=>cases c;show SeqAt.EqAt.str_bool a d b
  | int b=>obtain⟨t,rfl⟩:=c;show SeqAt.EqAt.str_int a d b t
  | str b=>obtain⟨t,rfl⟩:=c;show SeqAt.EqAt.str_str a d b t
  | _=>show absurd (show false=true from f) TB
 | _=>show absurd (show false=true from g) TB
def  eqU(x:V)(u:Value):Bool:=match u with
 | .none=>eqV .non x
 | .bool b=>eqV (.bl b) x
 | .int i _=>eqV (.int i) x
 | .str z _=>eqV (.str z) x
 | _=>false
def Jl{x y:V}{u:Value}(r:RelV y u)(f:flatV y=true):eqU x u=eqV y x:=by
 cases y with
 | non=>cases r;rfl
 | bl b=>cases r;rfl
 | int i=>obtain⟨t,rfl⟩:=r;rfl
 | str z=>obtain⟨t,rfl⟩:=r;rfl
 | _=>show absurd (show false=true from f) TB
def rD{x:V}:∀{xs:List V} {us:List Value},Vals xs us->xs.all flatV=true->us.any (eqU x)=xs.any λy=>eqV y x
 | _,_,.nil,_=>rfl
 | y::xs,u::us,.cons r t,f=>by
  rw[Wq,Tx]at f;rw[VA,VA,Jl r f.1,rD t f.2]
def oW{A:Around}{s:Shared}{x:V}{v:Value}(b:RelV x v)(c:flatV x=true):∀{xs:List V} {us:List Value},Vals xs us->xs.all flatV=true->∀ u∈us,SeqAt.EqAt A s u v (eqU x u)
 | _,_,.nil,_=>λu a=>by cases a
 | y::xs,u::us,.cons r t,f=>λd a=>by
  rw[Wq,Tx]at f;rcases TN.mp a with rfl | a
  . rw[Jl r f.1];show NX r b f.1 c
  . show oW b c t f.2 d a
def  inV(x:V)(xs:List V):Bool:=xs.any λy=>eqV y x
def  rIn(K:Frag)(b:Bool):R2:=λx y H Q=>∃ p a,y=.ref p/\(SqL K H p a\/SqT K H p a)/\flatV x=true/\a.all flatV=true/\Q (.bl (if b then !inV x a else inV x a)) H
def qe:OpR X (compareOp .In) (rIn X.K false):=by
 intro j s σ H x y v u Q I e g h;obtain⟨p,k,rfl,b,f,c,q⟩:=h;cases g;rcases b with b | b
 . obtain⟨a,r,d,i⟩:=I.list b;show SeqAt.in_listAt (eqU x) d.isList (λw hw=>oW e f r c w (by simpa using hw)) (.bl _,H,I,rfl,?_);rw[show a.toArray.any (eqU x)=a.any (eqU x) by simp,rD r c];show q
 . obtain⟨a,r,d,i⟩:=I.tuple b;show SeqAt.in_tupleAt (eqU x) d (λw hw=>oW e f r c w (by simpa using hw)) (.bl _,H,I,rfl,?_);rw[show a.toArray.any (eqU x)=a.any (eqU x) by simp,rD r c];show q
def uE:OpR X (compareOp .NotIn) (rIn X.K true):=by
 intro j s σ H x y v u Q I e g h;obtain⟨p,k,rfl,b,f,c,q⟩:=h;cases g;rcases b with b | b
 . obtain⟨a,r,d,i⟩:=I.list b;show SeqAt.notIn_listAt (eqU x) d.isList (λw hw=>oW e f r c w (by simpa using hw)) (.bl _,H,I,rfl,?_);rw[show a.toArray.any (eqU x)=a.any (eqU x) by simp,rD r c];show q
 . obtain⟨a,r,d,i⟩:=I.tuple b;show SeqAt.notIn_tupleAt (eqU x) d (λw hw=>oW e f r c w (by simpa using hw)) (.bl _,H,I,rfl,?_);rw[show a.toArray.any (eqU x)=a.any (eqU x) by simp,rD r c];show q
def DW:OpR X (compareOp .NotIn) (λx y H Q=>∃ i j,x=.str i/\y=.str j/\Q (.bl<|!(!(Builtin.Str.occurrences j i 0 j.length 1).isEmpty)) H):=by
 intro d s σ H x y v u Q I a b h;obtain⟨i,j,rfl,rfl,q⟩:=h;obtain⟨t,rfl⟩:=a;obtain⟨c,rfl⟩:=b;show notIn_str (.bl _,H,I,rfl,q)
def uF:CallR X (.builtin "len") (λxs H Q=>∃ p ys,xs=[.ref p]/\(SqL X.K H p ys\/SqT X.K H p ys)/\Q (.int ys.length) H):=by
 intro i s σ H xs j Q I r h;obtain⟨p,ys,rfl,a,q⟩:=h;obtain⟨u,rfl,f⟩:=fU r;cases f;have k:=uB;rcases a with a | a
 . obtain⟨e,c,b,g⟩:=I.list a;have d:=c.length;show Calls.call_len_list b.isList (by simp only[T1] <;> lia) (.int ys.length,H,I.tok _,(s.toks+1,by rw[T1,d]),q)
 . obtain⟨e,c,b,g⟩:=I.tuple a;have d:=c.length;show len_tuple b (by simp only[T1] <;> lia) (.int ys.length,H,I.tok _,(s.toks+1,by rw[T1,d]),q)
def DX:CallR X (.builtin "len") (λxs H Q=>∃ z,xs=[.str z]/\z.length<=sizeLine/\Q (.int z.length) H):=by
 intro c s σ H xs d Q I r h;obtain⟨z,rfl,a,q⟩:=h;obtain⟨u,rfl,t,rfl⟩:=fU r;have b:=uB;show len_str #[4] (.int z.length,H,I.tok _,(_,rfl),q)
def uG:CallR X (.type "list") (λxs H Q=>∃ p ys,xs=[.ref p]/\(SqL X.K H p ys\/SqT X.K H p ys)/\∀ l,H l=none->Q (.ref l) (upd H l<|.lst ys)):=by
 intro A s σ H xs C Q I r h;obtain⟨p,ys,rfl,k,q⟩:=h;obtain⟨u,rfl,z⟩:=fU r;cases z
 have j:∀(c:List Value),Vals ys c->ys.length<=sizeLine->∀(a:Heap) (d:Nat),(∀ b y,s.heap.get? b=some y->a.get? b=some y)->
   a.get? s.heap.objs.size=some {cls:=.type "list",dict:=none,data:=.seq c.toArray d,slots:=#[]}->EP X A σ Q (.ref s.heap.objs.size) {s with heap:=a}:=λc f i a d g e=>
  (.ref s.heap.objs.size,_,I.laid (t':=s.toks) g (TQ _) (show ObjOk X.prog X.w _ a _ (.lst ys) from(i,c,d,f,e)),rfl,q _<|I.hok.fresh<|TQ _)
 rcases k with k | k
 . obtain⟨c,f,t,i⟩:=I.list k;have B:=f.length;obtain⟨o,x,m,n,v⟩:=t.isList;show call_list_seq p (.inl rfl) x m v (λa d g e=>j c f i a d g e) (by simp only[T1] <;> lia)
 . obtain⟨c,f,t,i⟩:=I.tuple k;have B:=f.length;obtain⟨o,x,m,n,v⟩:=t;show call_list_seq p (.inr rfl) x m v (λa d g e=>j c f i a d g e) (by simp only[T1] <;> lia)
def CZ:CallR X (.type "tuple") (λxs H Q=>∃ p ys,xs=[.ref p]/\((SqL X.K H p ys/\∀ l,H l=none->Q (.ref l) (upd H l<|.tup ys))\/(SqT X.K H p ys/\Q (.ref p) H))):=by
 intro i s σ H xs v Q I r h;obtain⟨p,ys,rfl,h⟩:=h;obtain⟨u,rfl,n⟩:=fU r;cases n;rcases h with ⟨g,q⟩ | ⟨g,q⟩
 . obtain⟨c,f,d,k⟩:=I.list g;have x:=f.length;show call_tuple_list d.isList (λa t=>?_) (by simp only[T1] <;> lia);have j:Inv X i σ H {s with heap:=a}:=I.kept (t':=s.toks) t
   have m:Inv X i σ (upd H a.objs.size<|.tup ys) {s with heap:=a.push {cls:=.type "tuple",data:=.seq c.toArray}}:=
    j.laid (t':=s.toks) (λb o e=>TY _ e) (TQ _) (show ObjOk X.prog X.w _ _ _ (.tup ys) from(k,c,f,IsTup.new _ _))
   show(.ref a.objs.size,_,m,rfl,q _<|j.hok.fresh<|TQ _)
 . obtain⟨c,f,d,k⟩:=I.tuple g;show call_tuple_same d (.ref p,H,I,rfl,q)
def  tyV(K:Frag)(T:String)(x:V)(H:Hp):Prop:=match x with
 | .str _=>T="str"
 | .int _=>T="int"
 | .ref p=>(T="list"/\∃ b,SqL K H p b)\/(T="tuple"/\∃ o,K.lookup p=some o/\o.cls=.type "tuple"/\o.dict=none)\/
   (T="dict"/\((∃ a,H p=some (.dK a))\/∃ a,H p=some (.dT a)))\/(T="set"/\∃ S n,H p=some (.set S n))
 | _=>False
def Jm{l:List (Addr × Obj)}{σ:St}{H:Hp}{s:Shared}{T:String}{x:V}{v:Value}(I:Inv X l σ H s)(r:RelV x v)(f:tyV X.K T x H):
  s.TypeIs v T/\∀ a,v=.ref a->∃ j,s.heap.get? a=some j/\j.dict=none:=by
 cases x with
 | str z=>
  obtain⟨t,rfl⟩:=r;cases (show T="str" from f);show(Wo s z t,λ_ e=>nomatch e)
 | int i=>
  obtain⟨t,rfl⟩:=r;cases (show T="int" from f);show(typeIs_int s i t,λ_ e=>nomatch e)
 | ref p=>
  cases r;rcases f with ⟨rfl,w,q⟩ | ⟨rfl,o,b,m,g⟩ | ⟨rfl,b⟩ | ⟨rfl,S,n,b⟩
  . obtain⟨u,_,h,_⟩:=I.list q;show(h.isList.typeIs,λa e=>?_);cases e;obtain⟨o,n,e,c,g,_⟩:=h;show(o,e,g)
  . show((o,I.kIn p o b,m),λa e=>?_);cases e;show(o,I.kIn _ o b,g)
  . have z:∃ o,s.heap.get? p=some o/\o.ExactDict:=by
     rcases b with ⟨k,b⟩ | ⟨k,b⟩
     . obtain⟨_,_,_,_,o,_,_,e,d,_⟩:=I.hok p _ b;show(o,e,d)
     . obtain⟨_,_,_,_,o,_,_,e,d,_⟩:=I.hok p _ b;show(o,e,d)
    obtain⟨o,e,d⟩:=z;show((o,e,d.1),λa e2=>?_);cases e2;show(o,e,d.2.1)
  . obtain⟨o,_,_,_,e,d,_⟩:=I.hok p _ b;show((o,e,d.1),λa e2=>?_);cases e2;show(o,e,d.2.1)
 | _=>show False.elim f
def  DY(K:Frag)(T:String)(r:V->List V->Hp->VK->Prop)(b:TE):TE:=λσ H Q=>b σ H λx a=>tyV K T x a/\r x [] a Q
def  tBM(K:Frag)(T:String)(r:V->List V->Hp->VK->Prop)(c:TE)(t:TA):TE:=λσ H Q=>c σ H λx a=>tyV K T x a/\t σ a λd b=>r x d b Q
variable{o e:Expr}{es:List Expr}{to:TE}{t:TA}{name:Str}{apos cpos:Pos}{T id:String}{r:V->List V->Hp->VK->Prop}
def DZ (l:PlainAttrs T) (c:Slot T name id) (d:typeOf (.builtin id)=pure (.type "method_descriptor")) (g:MtR X id r) (k:PE X o to)
  (b:attributeBase o name X.env (eval o X.env)=eval o X.env:=by rfl) (a:(apos.endLine==cpos.line)=true:=by rfl):PE X (.Call (.Attribute o name apos) [] [] cpos) (DY X.K T r to):=by
 intro e s σ H Q I h;show wpAny_Call_method0_late b a<|thn (k e s σ H _ I h) λv s1 ⟨x,m,f,r1,i,j⟩=>?_;obtain⟨h1,h2⟩:=Jm f r1 i;show(T,id,l,c,d,h1,h2,Xs rfl<|PySem.evalArgs_none<|g e s1 σ m x [] v [] Q f r1 .nil j)
def dB (w:PlainAttrs T) (f:Slot T name id) (i:typeOf (.builtin id)=pure (.type "method_descriptor")) (z:MtR X id r) (u:PE X o to) (q:PA X (e::es) t)
  (c:attributeBase o name X.env (eval o X.env)=eval o X.env:=by rfl)
  (d:((backTo cpos<|starEach (e::es) X.env).all (λx=>!x.1)&&(backToKw cpos<|keywordEach [] X.env).all (λx=>x.1.isSome)
   &&decide ((e::es).length+([]:List Keyword).length+(if ([]:List Keyword).isEmpty then 0 else 1)<30))=true:=by rfl)
  (b:(apos.endLine==cpos.line)=true:=by rfl) (l:starEach (e::es) X.env=(false ,eval e X.env)::starEach es X.env:=by rfl) (a:(backTo cpos<|starEach es X.env).any (·.1)=false:=by rfl):
  PE X (.Call (.Attribute o name apos) (e::es) [] cpos) (tBM X.K T r to t):=by
 intro g s σ H Q I h;show wpAny_Call_method_late c d b rfl<|thn (u g s σ H _ I h) λv s1 ⟨x,D,j,r1,B,C⟩=>?_;obtain⟨h1,h2⟩:=Jm j r1 B;show(T,id,w,f,i,h1,h2,?_);have k:=q cpos g s1 σ D _ j C;rw[l]at k ⊢;show Xs (by change(false||(backTo cpos<|starEach es X.env).any (·.1))=false;rw[a] <;> rfl)<|Calls.evalArgs_plain ?_;show thn k λA y ⟨vs,n,m,r2,p⟩=>z g y σ n x vs v A Q m r1 r2 p
end
def  MtM(X:Cx)(id:String)(r:V->List V->Hp->VK->Prop):Prop:=
 ∀(b:List (Addr × Obj)) (s:Shared) (σ:St) (H:Hp) (x:V) (a:List V) (v:Value) (c:List Value) (Q:VK),Inv X b σ H s->RelV x v->Vals a c->r x a H Q->
  wpAny (model X.prog X.w) X.A (call (.builtin id) (v::c)) (EP X b σ Q) X.xe s
def Vals.one:∀{x:V} {us:List Value},Vals [x] us->∃ u,us=[u]/\RelV x u
 | _,_,.cons r .nil=>(_,rfl,r)
def Vals.zero:∀{us:List Value},Vals [] us->us=[]
 | _,.nil=>rfl
def Vals.eraseIdx:∀{xs:List V} {us:List Value} (i:Nat),Vals xs us->Vals (xs.eraseIdx i) (us.eraseIdx i)
 | _,_,_,.nil=>.nil
 | _,_,0,.cons _ t=>t
 | _,_,i+1,.cons r t=>.cons r (Vals.eraseIdx i t)
def Vals.rep{xs:List V}{us:List Value}(h:Vals xs us):∀ k:Nat,Vals (List.replicate k xs).flatten (List.replicate k us).flatten
 | 0=>.nil
 | k+1=>by
  rw[Vk,Vk,VR,VR];show Vals.append h (Vals.rep h k)
def Ci{α:Type}:∀(l:List α) (i:Nat),(l.eraseIdx i).length<=l.length
 | [],_=>TQ _
 | _::_,0=>Ws _
 | _::r,i+1=>Nat.succ_le_succ (Ci r i)
def Cj(Tg:List Value):∀(k:Nat) (a:List Value),
  List.foldl (λb c=>b++c) a.toArray (List.replicate k Tg.toArray)=(a++(List.replicate k Tg).flatten).toArray
 | 0,a=>by simp
 | k+1,a=>by
  have e:a.toArray++Tg.toArray=(a++Tg).toArray:=by simp
  have e2:(a++Tg)++(List.replicate k Tg).flatten=a++(List.replicate (k+1) Tg).flatten:=by
   rw[Vk,VR,UR]
  rw[← e2,← Cj Tg k (a++Tg),← e,Vk,Ul]
section
variable{X:Cx}{Tc:List (Addr × Obj)}{σ:St}{H:Hp}{s:Shared}{l b:Addr}{xs ys zs:List V}
def Inv.lset {Tg its':List Value} {n:Nat} {f:Array Value->Array Value} {t':Nat} (I:Inv X Tc σ H s) (d:H l=↥xs)
  (e:s.heap.get? l=some {cls:=.type "list",data:=.seq Tg.toArray n}) (a:f Tg.toArray=its'.toArray) (g:Vals ys its') (h:ys.length<=sizeLine):
  Inv X Tc σ (upd H l<|.lst ys) {s with heap:=s.heap.update l<|Obj.mapSeq f,toks:=t'}:=by
 have q:=PySem.IsL.update e f;rw[a]at q;show I.write (x:=l) (e:=l) (by rw[d];show trivial) (.inl rfl) (λi u c b=>(Heap.get?_update_other s.heap (Obj.mapSeq f)<|Wa c).trans b) (_,q) ?_;show(h,its',_,g,q)
def  Inv.lnew{Tg:List Value}{t':Nat}(I:Inv X Tc σ H s)(a:Vals ys Tg)(b:ys.length<=sizeLine):
  Inv X Tc σ (upd H s.heap.objs.size<|.lst ys) {s with heap:=s.heap.push {cls:=.type "list",data:=.seq Tg.toArray},toks:=t'}:=
 I.laid (λ_ _ q=>TY _ q) (TQ _) (b,Tg,0,a,Ur _ rfl)
def  Inv.fresh(I:Inv X Tc σ H s):H s.heap.objs.size=none:=I.hok.fresh (TQ _)
def Inv.lstM(I:Inv X Tc σ H s)(a:H l=↥xs):xs.length<=sizeLine/\∃(Tg:List Value) (n:Nat),Vals xs Tg/\xs.length=Tg.length/\s.heap.get? l=some {cls:=.type "list",data:=.seq Tg.toArray n}:=by
 obtain⟨z,Tg,n,r,e⟩:=I.hok l _ a;show(z,Tg,n,r,r.length,e)
def Ea{n:Nat}(h:n<=sizeLine):Builtin.List.listTooLong n=false:=by
 unfold Builtin.List.listTooLong;show Tq #[4]
end
section
variable{X:Cx}
def  MC:V->List V->Hp->VK->Prop:=λx vs H Q=>∃ l a y,x=.ref l/\vs=[y]/\H l=↥a/\a.length<sizeLine/\Q .non (upd H l<|.lst<|a++[y])
def Ck:MtM X "list.append" MC:=by
 intro g s σ H x vs v i Q I c d h;obtain⟨l,k,y,rfl,rfl,b,j,q⟩:=h;cases c;obtain⟨u,rfl,f⟩:=d.one;obtain⟨z,a,n,r,m,e⟩:=I.lstM b;show VB F.slot_list_append (_,e,rfl) F.entry_list_append (F.args_list_append_2 _ _) (PySem.list_append l a.toArray n u (by rw[T1];lia)) (e,?_);show(.non,_,I.lset (its':=a++[u]) b e (by simp) (r.append<|.cons f .nil) ?_,rfl,q);rw[TJ,XG];lia
def  MD:V->List V->Hp->VK->Prop:=λx vs H Q=>∃ l b c a,x=.ref l/\vs=[.ref b]/\H l=↥c/\H b=↥a/\c.length+a.length<=sizeLine/\Q .non (upd H l<|.lst<|c++a)
def Jn:MtM X "list.extend" MD:=by
 intro w s σ H x vs v y Q I j m h;obtain⟨l,b,C,A,rfl,rfl,g,p,B,q⟩:=h;cases j;obtain⟨u,rfl,o⟩:=m.one;cases o;obtain⟨z,d,n,r,D,e⟩:=I.lstM g;obtain⟨t,a,i,r2,k,e2⟩:=I.lstM p;have f:d.toArray.size+a.toArray.size<=sizeLine:=by rw[T1,T1];lia
 have c:¬ (!d.toArray.isEmpty&&Builtin.List.listTooLong (d.toArray.size+a.toArray.size))=true:=by
  rw[Ea f,Bool.and_false];show TB
 show VB F.slot_list_extend (_,e,rfl) F.entry_list_extend (F.args_list_extend_2 _ _)
  (AutoSeq1.list_extend_list_list_0 l d.toArray n b a.toArray i c (by rw[T1];lia) #[4]) (e,e2,?_)
 show(.non,_,I.lset (its':=d++a) g e (by simp) (r.append r2) ?_,rfl,q);rw[TJ];lia
def  NY:V->List V->Hp->VK->Prop:=λx vs H Q=>∃ l a i k y,x=.ref l/\vs=[.int i]/\H l=↥a/\ -(2^63)<=i/\i<2^63/\seqIndex? i a.length=some k/\a[k]? =some y/\Q y (upd H l<|.lst<|a.eraseIdx k)
def K4:MtM X "list.pop" NY:=by
 intro A s σ H x vs v B Q I f j h;obtain⟨l,o,i,k,y,rfl,rfl,c,h1,h2,g,d,q⟩:=h;cases f;obtain⟨u,rfl,m⟩:=j.one;obtain⟨t,rfl⟩:=m;obtain⟨z,a,n,r,p,e⟩:=I.lstM c;obtain⟨w,hw,b⟩:=r.get d
 show VB F.slot_list_pop (_,e,rfl) F.entry_list_pop (F.args_list_pop_2 _ _)
  (MeetsSeq.list_pop_at l a.toArray n i t k w (fitsIndex_both h1 h2) (by rw[T1,← p];show g) (by rw[← XH];show hw) (by rw[T1];lia)) (e,?_)
 show(y,_,I.lset (its':=a.eraseIdx k) c e ?_ (r.eraseIdx k) ?_,b,q)
 . change a.toArray.eraseIdxIfInBounds k=(a.eraseIdx k).toArray;rw[List.eraseIdxIfInBounds_toArray]
 . have:=Ci o k;lia
def  NZ:V->List V->Hp->VK->Prop:=λx vs H Q=>∃ l a,x=.ref l/\vs=[]/\H l=↥a/\Q .non (upd H l<|.lst [])
def K5:MtM X "list.clear" NZ:=by
 intro g s σ H x vs v i Q I d f h;obtain⟨l,j,rfl,rfl,b,q⟩:=h;cases d;have a:=f.zero;subst a;obtain⟨z,c,n,r,k,e⟩:=I.lstM b;show VB F.slot_list_clear (_,e,rfl) F.entry_list_clear (F.args_list_clear_1 _) (AutoSeq1.list_clear_list_0 l c.toArray n (by rw[T1];lia)) (e,?_);show(.non,_,I.lset (its':=[]) (ys:=[]) b e rfl .nil<|UK _,rfl,q)
def  rCat:R2:=λx y H Q=>∃ l b c a,x=.ref l/\y=.ref b/\H l=↥c/\H b=↥a/\c.length+a.length<=sizeLine/\∀ p,H p=none->Q (.ref p) (upd H p<|.lst<|c++a)
def N1:OpR X (binaryOp .Add) rCat:=by
 intro p s σ H x y v u Q I d f h;obtain⟨l,b,A,t,rfl,rfl,g,j,w,q⟩:=h;cases d;cases f;obtain⟨z,c,n,r,B,e⟩:=I.lstM g;obtain⟨o,a,m,r2,i,e2⟩:=I.lstM j;show PySem.P.add_list e e2 ?_ (by rw[T1,T1];lia);have k:c.toArray++a.toArray=(c++a).toArray:=by simp
 rw[k];show(.ref _,_,I.lnew (t':=s.toks) (r.append r2) (by rw[TJ];lia),rfl,q _ I.fresh)
def  rRep:R2:=λx y H Q=>∃ l k a,x=.ref l/\y=.int k/\H l=↥a/\ -(2^63)<=k/\k<2^63/\a.length*k.toNat<=sizeLine/\
 ∀ p,H p=none->Q (.ref p) (upd H p<|.lst (List.replicate k.toNat a).flatten)
def ME{α:Type}(xs:List α)(k:Nat):(List.replicate k xs).flatten.length=k*xs.length:=by
 induction k with
 | zero=>simp
 | succ k a=>rw[Vk,VR,TJ,a,WK,XW]
def N4:OpR X (binaryOp .Mult) rRep:=by
 intro G s σ H x y v u Q I p w h;obtain⟨l,k,J,rfl,rfl,A,h1,h2,o,q⟩:=h;cases p;obtain⟨t,rfl⟩:=w;obtain⟨z,b,n,r,B,e⟩:=I.lstM A;have E:b.toArray.size*k.toNat<=sizeLine:=by rw[T1,← B];show o
 have g:¬ b.toArray.size*k.toNat > (2^63-1)/8:=by
  have:(sizeLine:Nat)<=(2^63-1)/8:=by decide
  lia
 have f:¬ (!Builtin.List.listFitsIndex k)=true:=by
  rw[fitsIndex_both h1 h2];show TB
 have c:¬ Builtin.List.listTooLong (b.toArray.size*k.toNat)=true:=by
  rw[Ea E];show TB
 have d:List.foldl (λi j=>i++j) #[] (List.replicate (if b.toArray.isEmpty=true then 0 else k.toNat) b.toArray)=(List.replicate k.toNat b).flatten.toArray:=by
  have D:∀ m:Nat,List.foldl (λi j=>i++j) #[] (List.replicate m b.toArray)=(List.replicate m b).flatten.toArray:=λm=>by
   have:=Cj b m [];rw[List.nil_append]at this;show this
  rw[D]
  cases b with
  | nil=>simp
  | cons a K=>rw[TX (by simp)]
 show wpAny_binaryOp_repeat_ref (T:="list") (U:="int") #[1] (_,e,rfl) (λC=>typeIs_int C k t) noFill_list_mul F.fills_int_mul F.slot_int_rmul repeat_list F.slot_int_index.lookup
  (VB F.slot_int_rmul (typeIs_int s k t) F.entry_int_rmul (F.args_int_rmul_2 _ _) (int___rmul___int_list k t l b.toArray n)
   (e,rfl,(_,e,rfl),VB F.slot_list_mul (_,e,rfl) F.entry_list_mul (F.args_list_mul_2 _ _) (AutoListH.list___mul___list_int_3 l b.toArray n k t f g c) (e,?_)))
 rw[d];show(.ref _,_,I.lnew (t':=s.toks) (r.rep k.toNat) (by rw[ME,XX];show o),rfl,q _ I.fresh)
end
end L2
namespace Att
open PySem PySem.W PySem.Calls PyProof.Rows
def ints_of_wellAll{P:Params}{h:Heap}:∀(ns:∅) (vs:List Value),WellAll P h vs (ns.map WData.int)->IntsAre vs ns:=by
 intro ns
 induction ns with
 | nil=>
  intro vs w;rw[List.map_nil]at w;cases w;show .nil
 | cons n ns c=>
  intro vs w;rw[List.map_cons]at w
  cases w with
  | cons a b=>
   cases a;show .cons _ _ (c _ b)
def script_of {l:OpenLaw} {n:Nat} (o:l.most=some n) {P:Params} {h:Heap} {args:List WData} {c:List Value}
  (b:l.row.toRowW.claim.pre args=true) (f:WellAll P h c args):
  ∃ a vs ns,c=[Value.ref a]/\args=[WData.list<|ns.map WData.int]/\h.get? a=some {cls:=.type "list",data:=.seq vs.toArray}/\IntsAre vs ns/\ns.length<=n:=by
 have g:WShape.hasAll [] args [.list .int]=true:=(pre_splitW b).1;have i:l.pre.holds [] {args:=args}=true:=(pre_splitW b).2;obtain⟨d,r,rfl,h1,h2⟩:=hasAllW_cons g;obtain rfl:=hasAllW_nil h2;obtain⟨t,rfl,h3⟩:=hasW_list h1;obtain⟨ns,rfl⟩:=items_int h3
 have s:ns.length<=n:=by
  unfold OpenLaw.pre at i
  have h4:(WTm.not<|.lt (.lit<|.int (n:Int))<|.len<|.arg 0).holds [] {args:=[.list<|ns.map .int]}=true:=by
   have h4:=(holds_andW i).1;rw[o]at h4;show h4
  have h5:=condW_of h4<|w_not<|w_lt w_lit<|w_len_list<|w_arg rfl;rw[List.length_map]at h5;show Nat.le_of_not_lt λq=>?_;have p:(n:Int) < ((ns.length:Nat):Int):=by lia
  first
   | (rw[decide_eq_true p]at h5;show absurd h5 #[1])
   | (simp at h5;lia)
 cases f with
 | cons k j=>
  cases j
  cases k with
  | list m e=>show(_,_,ns,rfl,rfl,m,ints_of_wellAll ns _ e,s)
def  post_true(l:OpenLaw)(args:List WData):l.row.toRowW.claim.post args (.bool true) args=true:=
 postW_of (r:=l.row.toRowW) (X:=(true==true))
  (show WShape.has [] (.bool true) .bool=true by first | rfl | decide | simp[WShape.has,WShape.arms,WShape.armsAll])
  (show(WTm.eq .res<|.lit<|.bool true).value [] {args:=args,res:=some<|.bool true,after:=args}=some (.bool<|true==true) from w_eq_bool (w_res rfl) w_lit) rfl
def  attach_call {l:OpenLaw} {n:Nat} {q:Program} {c:List Str} {B:(Str->Option Value)->Heap->Prop} {C:World->Heap->Prop} {d:DefRec}
  (R:l.most=some n) (u:d.params.defaults=[])
  (i:∀(w:World) (y b:Shared) (p x:Str->Option Value) (h:Addr) (o:Obj) (t m e:Value) (a:Addr) (vs:List Value) (ns:∅),
   Ground q c [] B w y p x b.heap->C w b.heap->
   b.heap.get? h=some o->o.data=.func (docDef d.name d.params d.body d.scope t m e)->b.heap.CodeRec m d.name->p d.name=↑h->
   b.heap.get? a=some {cls:=.type "list",data:=.seq vs.toArray}->IntsAre vs ns->ns.length<=n->b.gens=#[]->
   codeAny (model l.prog w) callerA (.call (.ref h) ([.ref a],[])) (λr s'=>r=.ok (.ret<|.bool true)/\OldK b.heap s'.heap/\s'.os=b.os/\AllBare s'.gens) b):
  WalkO q c B C l.row.toRowW d [] (λf vs=>PySem.call f vs):=by
 intro w y b p x G Y h o t m e J H O I s D z M E A S j F P v N;obtain rfl:J=.none:=Dflts.none D u;obtain rfl:H=.none:=Dflts.noKw D;obtain⟨a,vs,ns,rfl,rfl,k,g,L⟩:=script_of R j v;show enter_call<|codeAny_mono (i w y b p x h o t m e a vs ns G Y O (fd_plain I) s z k g L M) λr s' K=>?_;obtain⟨rfl,h2,h3,h4⟩:=K;show(.inl (.bool true,.bool true,[],rfl,λ_=>rfl,.bool true,post_true l _,λ_=>(List.Pairwise.nil,λ_ Q=>(nomatch Q))),h2,h3,h4)
section
variable{prog:Program}{w:World}{A:Around}{E:Value->Shared->Prop}{s:Shared}{K:Frag}
end
end Att
namespace L2
open PySem PySem.Spec PyProof.Rows
def uH:∀{vs:List Value} {ns:∅},IntsAre vs ns->Vals (ns.map V.int) vs
 | _,_,.nil=>.nil
 | _,_,.cons n t h=>.cons (t,rfl) (uH h)
def  fH(s:Stmt):Arguments:=match s with
 | .FunctionDef _ a _ _ _ _ _ _ _ _=>a
 | _=>{posonlyargs:=[],args:=[],vararg:=none,kwonlyargs:=[],kw_defaults:=[],kwarg:=none,defaults:=[]}
def  dk(s:Stmt):List Stmt:=match s with
 | .FunctionDef _ _ b _ _ _ _ _ _ _=>b
 | _=>[]
def  aV(s:Stmt):Scope:=match s with
 | .FunctionDef _ _ _ _ _ _ a _ _ _=>a
 | _=>{kind:=.function,names:=[],isGenerator:=false,isCoroutine:=false}
abbrev CX0:CXT:=λ_ _ _ _ _ _=>False
abbrev E0:XK:=λ_ _ _=>False
def  DJ{X:Cx}:uD CX0 X E0:=λ_ _ _ _ _ _ _ h=>h.elim
structure Fun(K:Frag)(x qual:Str)(st:Stmt)(f:Addr)(fd:FuncData):Prop where
 ex:∃(oc:Value) (od:Option Addr) (kV doc pm:Value) (an:Option Addr) (Te ct:Value) (osl:Array (Option Value)),
  fd=fnOf x qual (fH st) (dk st) (aV st) .none kV doc pm an Te ct/\K.lookup f=some (oc,od,.func fd,osl)/\codeIn K Te qual=true
 kp:keepIn K (.ref f)=true
section
variable{P:Program}{w:World}{K:Frag}{mg:Str->Option Value}{base:Heap}
def Fun.ok {x b:Str} {st:Stmt} {f:Addr} {l:FuncData} {N g:List Str} {k:Nat} {sp:Sp} (F:Fun K x b st f l) (S:kc N g (aV st)) (j:∀ vs H Q E,sp vs H Q E->vs.length=g.length)
  (c:∀(d:Value) (A:Around) (a:List Env) (s:Shared) (H:Hp) (vs:List V) (Q:VK) (E:XK),Room k (A.deeper<|envOfC b (aV st) s.heap.objs.size f d)->sp vs H Q E->
   ∃ t,PSs (cxOf CX0 P w K mg base N b (aV st) f d A a s H E).nox (dk st) t/\t {nx:=λ_ p=>Q .non p,rt:=Q} (start N vs) H):FnOk P w K mg base CX0 (k+1) f l g sp:=by
 obtain⟨z,B,v,m,C,y,d,u,r,rfl,o,e⟩:=F.ex;show L5 o e S j λA a s H vs Q E n i=>?_;obtain⟨t,h,q⟩:=c d A a s H vs Q E n i;show(t,h.nox,q)
def Fun.binds {x a:Str} {st:Stmt} {f:Addr} {j:FuncData} {e:List Str} (F:Fun K x a st f j)
  (h:∀(g b d:Value) (i:Option Addr) (c ct:Value) (us:List Value),us.length=e.length->bindArgs (fnOf x a (fH st) (dk st) (aV st) .none g b d i c ct) (us,[])=pure (e.zip us)):Binds K j e []:=by
 obtain⟨n,o,g,b,d,i,c,ct,l,rfl,m,k⟩:=F.ex;show .all (h g b d i c ct)
def  Jo {x a:Str} {st:Stmt} {f:Addr} {j:Value} {m g:Option Addr} {d:Array (Option Value)} {h b i e ct:Value} (l:K.lookup f=some (j,m,.func<|fnOf x a (fH st) (dk st) (aV st) .none h b i g e ct,d))
  (c:codeIn K e a=true) (k:keepIn K (.ref f)=true):Fun K x a st f (fnOf x a (fH st) (dk st) (aV st) .none h b i g e ct):=((j,m,h,b,i,g,e,ct,d,rfl,l,c),k)
end
def  aH{n:Nat}(h:n<=1000):n<sizeLine:=UW h #[1]
section
variable{X:Cx}
def pv (i:Nat) {x:Str} {pos:Pos} (d:X.N[i]? =some x:=by rfl) (b:Vis X.env.scope x:=by first | show Or.inl rfl | show Or.inr (Or.inl rfl) | show Or.inr<|Or.inr rfl) (c:(x==("__debug__":Str))=false:=by decide)
  (a:(x==("__classdict__":Str))=false:=by decide):PE X (.Name x pos) (tVar i):=NM d b c a
end
def iteF{A B:Prop}(h:B):if false=true then A else B:=by
 rw[TX TB];show h
def iteT{A B:Prop}(h:A):if true=true then A else B:=by
 rw[TZ rfl];show h
def  Same(H a:Hp):Prop:=∀ b o,H b=some o->a b=some o
def  Same.refl(H:Hp):Same H H:=λ_ _ h=>h
abbrev Tu:=@Same.refl
def  Same.trans{H d e:Hp}(a:Same H d)(b:Same d e):Same H e:=λc o h=>b c o (a c o h)
def Same.free{H a:Hp}(e:Same H a){l:Addr}(h:a l=Option.none):H l=Option.none:=by
 cases q:H l with
 | none=>rfl
 | some o=>
  rw[e l o q]at h;cases h
def Same.seq{K:Frag}{H b:Hp}{a:Addr}{xs:List V}(e:Same H b)(h:SqL K H a xs):SqL K b a xs:=by
 rcases h with (h | ⟨o,h⟩) | h
 . show .inl (.inl<|e _ _ h)
 . show .inl (.inr (o,e _ _ h))
 . show .inr h
section
variable{κ:Type}[DecidableEq κ]
def  valV(a:List (κ × V))(k:κ):Option V:=(a.find? λb=>decide<|b.1=k).map (·.2)
def  putK(b:List (κ × V))(k:κ)(v:V):List (κ × V):=
 if (b.any λa=>decide<|a.1=k)=true then b.map (λa=>if a.1=k then(a.1 ,v) else a) else b++[(k ,v)]
def xX{p:κ × V}{r:List (κ × V)}{k:κ}(e:p.1=k):valV (p::r) k=some p.2:=by simp[valV,Vv,e]
def xY{p:κ × V}{r:List (κ × V)}{k:κ}(e:¬ p.1=k):valV (p::r) k=valV r k:=by simp[valV,Vv,e]
def Eb(k:κ):∀ a:List (κ × V),(a.any λb=>decide<|b.1=k)=(valV a k).isSome
 | []=>rfl
 | p::r=>by
  rw[VA];by_cases e:p.1=k
  . simp only[xX e,Tp e,VM,Option.isSome_some]
  . rw[xY e,Tq e,UH];show Eb k r
def qQ(a:List (κ × V))(k:κ)(v:V):(putK a k v).length<=a.length+1:=by
 unfold putK
 split
 . rw[Tn];lia
 . rw[TJ,T8,XC];lia
def RelO.isSome_eq{o:Option V}{u:Option Value}(r:RelO o u):o.isSome=u.isSome:=by
 cases o with
 | none=>cases u with
  | none=>rfl
  | some _=>show(show False from r).elim
 | some _=>cases u with
  | none=>show(show False from r).elim
  | some _=>rfl
def KV.val{d:List (κ × V)}{vs:List (κ × Value)}(r:KV d vs)(k:κ):RelO (valV d k) (valueAt vs k):=by
 unfold KV at r
 induction r with
 | nil=>show True.intro
 | @cons p q g c h t f=>
  obtain⟨h1,h2⟩:=h;by_cases e:p.1=k
  . have a:q.1=k:=h1.symm.trans e;have b:valueAt (q::c) k=some q.2:=by simp[valueAt,Vv,a]
    rw[xX e,b];show h2
  . have a:¬ q.1=k:=λz=>e<|h1.trans z;have b:valueAt (q::c) k=valueAt c k:=by simp[valueAt,Vv,a]
    rw[xY e,b];show f
def KV.any{b:List (κ × V)}{vs:List (κ × Value)}(r:KV b vs)(k:κ):(b.any λa=>decide<|a.1=k)=vs.any λa=>decide (a.1=k):=by
 unfold KV at r
 induction r with
 | nil=>rfl
 | cons h t c=>rw[VA,VA,c,h.1]
def KV.repl{b:List (κ × V)}{vs:List (κ × Value)}(r:KV b vs)(k:κ){y:V}{u:Value}(c:RelV y u):
  KV (b.map λa=>if a.1=k then(a.1 ,y) else a) (vs.map λa=>if a.1=k then(a.1 ,u) else a):=by
 unfold KV at r ⊢
 induction r with
 | nil=>show .nil
 | @cons p q f g h t d=>
  rw[T7,T7];show .cons ?_ d;obtain⟨h1,h2⟩:=h;by_cases e:p.1=k
  . rw[TZ e,TZ<|h1.symm.trans e];show(h1,c)
  . rw[TX e,TX<|λz=>e<|h1.trans z];show(h1,h2)
def KV.put{a:List (κ × V)}{vs:List (κ × Value)}(r:KV a vs)(k:κ){y:V}{u:Value}(b:RelV y u):KV (putK a k y) (stored vs k u):=by
 unfold putK stored;rw[r.any k];by_cases e:(vs.any λc=>decide<|c.1=k)=true
 . rw[TZ e,TZ e];show r.repl k b
 . rw[TX e,TX e];show Paired.snoc r (rfl,b)
def  KV.length{a:List (κ × V)}{vs:List (κ × Value)}(r:KV a vs):a.length=vs.length:=XM r
end
variable{P:Program}{w:World}
def vW{k:Key}{u:Value}(r:RelV (kV k) u):(dE P w).is k u=true:=by
 cases k with
 | inl i=>obtain⟨t,e⟩:=(show ∃ t,u=Value.int i t from r);subst e;show Gc P w i t
 | inr x=>obtain⟨t,e⟩:=(show ∃ t,u=Value.str x t from r);subst e;show Gd P w x t
def Cl{P:Program}{w:World}:∀{ks:List Key} {us:List Value},Vals (ks.map kV) us->ItemsAre (dE P w) ks us
 | [],_,r=>by rw[XU]at r;cases r;show .nil
 | k::ks,_,r=>by
  rw[T7]at r
  cases r with
  | cons h t=>show .cons (vW h) (Cl t)
abbrev KT(H:Hp):List (List Key × V)->List (List Key × Addr × Value)->Prop:=Paired λp q=>p.1=q.1/\H q.2.1=some (.tup<|p.1.map kV)/\RelV p.2 q.2.2
variable{H:Hp}{Tf:List (List Key × V)}{xs:List (List Key × Addr × Value)}
def KT.val(r:KT H Tf xs)(k:List Key):RelO (valV Tf k) ((atKey xs k).map (·.2)):=by
 induction r with
 | nil=>show True.intro
 | @cons p q f c h t d=>
  obtain⟨h1,_,h2⟩:=h;by_cases e:p.1=k
  . have a:q.1=k:=h1.symm.trans e;have b:atKey (q::c) k=some q.2:=by simp[atKey,Vv,a]
    rw[xX e,b];show h2
  . have a:¬ q.1=k:=λz=>e<|h1.trans z;have b:atKey (q::c) k=atKey c k:=by simp[atKey,Vv,a]
    rw[xY e,b];show d
def KT.repl(r:KT H Tf xs)(k:List Key){y:V}{u:Value}(b:RelV y u):
  KT H (Tf.map λa=>if a.1=k then(a.1 ,y) else a) (xs.map<|putAt k u):=by
 induction r with
 | nil=>show .nil
 | @cons p q d f h t c=>
  rw[T7,T7];show .cons ?_ c;obtain⟨h1,h2,h3⟩:=h;unfold putAt;by_cases e:p.1=k
  . rw[TZ e,TZ<|h1.symm.trans e];show(h1,h2,b)
  . rw[TX e,TX<|λz=>e<|h1.trans z];show(h1,h2,h3)
def KT.put(r:KT H Tf xs)(k:List Key){b:Addr}{y:V}{u:Value}(c:H b=some (.tup<|k.map kV))(a:RelV y u):
  KT H (putK Tf k y) (storedH xs k b u):=by
 have e:(Tf.any λd=>decide<|d.1=k)=(atKey xs k).isSome:=by
  rw[Eb,(r.val k).isSome_eq,WY]
 unfold putK storedH;rw[e];by_cases q:(atKey xs k).isSome=true
 . rw[TZ q,TZ q];show r.repl k a
 . rw[TX q,TX q];show Paired.snoc r (rfl,c,a)
def  KT.keeps{a:Hp}(r:KT H Tf xs)(c:∀ b ys,H b=some (.tup ys)->a b=some (.tup ys)):KT a Tf xs:=
 Paired.mapP r λ_ _ z=>(z.1,c _ _ z.2.1,z.2.2)
section
variable{P:Program}{w:World}{H:Hp}{h:Heap}{a:Addr}
def  L6{u:HO}(b:HOk P w H h)(e:Rd H a u):ObjOk P w H h a u:=e.ok b
def  vX{Tf:List (Key × V)}(b:HOk P w H h)(e:Rd H a (.dK Tf)):Tf.length<=sizeLine/\(a==sysModules)=false/\∃ vs,KV Tf vs/\h.DictOf (dE P w) a vs:=
 show ObjOk P w H h a (.dK Tf) from L6 b e
def  L7{Tf:List (Key × V)}(b:HOk P w H h)(e:H a=some (.dK Tf)):Tf.length<=sizeLine/\(a==sysModules)=false/\∃ vs,KV Tf vs/\h.DictOf (dE P w) a vs:=vX b (.inl e)
def uI{ks:List Key}(c:HOk P w H h)(e:H a=some (.tup<|ks.map kV)):(tupleKind<|dE P w).is h ks a:=by
 obtain⟨_,b,r,o,h1,h2,n,h3⟩:=(show ObjOk P w H h a (.tup<|ks.map kV) from c a _ e);show(o,b.toArray,n,h1,h2,h3,by simpa using Cl r)
def y9{Tf:List (List Key × V)}(d:HOk P w H h)(e:Rd H a (.dT Tf)):Tf.length<=sizeLine/\(a==sysModules)=false/\
  ∃ xs,KT H Tf xs/\h.DictOfH (tupleKind<|dE P w) a xs:=by
 obtain⟨z,y,xs,r,o,j,g,h1,h2,h3,h4,h5⟩:=(show ObjOk P w H h a (.dT Tf) from L6 d e);show(z,y,xs,r,o,j,g,h1,h2,h3,h4,λx b=>?_,h5)
 have c:∀{l:List (List Key × V)} {m:List (List Key × Addr × Value)},KT H l m->∀ x∈m,(tupleKind<|dE P w).is h x.1 x.2.1:=by
  intro l m q
  induction q with
  | nil=>intro x b;show nomatch b
  | @cons p q k n f t i=>
   intro x b;rcases TN.mp b with e | b
   . subst e;show uI d (by rw[← f.1];show f.2.1)
   . show i x b
 show c r x b
def  Pp{Tf:List (List Key × V)}(b:HOk P w H h)(e:H a=some (.dT Tf)):Tf.length<=sizeLine/\(a==sysModules)=false/\
  ∃ xs,KT H Tf xs/\h.DictOfH (tupleKind<|dE P w) a xs:=y9 b (.inl e)
end
def  DGet(H:Hp)(a:Addr)(y:V)(r:Option V):Prop:=
 (∃ Tf k,Rd H a (.dK Tf)/\y=kV k/\r=valV Tf k)\/∃ Tf k b,Rd H a (.dT Tf)/\y=.ref b/\H b=some (.tup<|k.map kV)/\r=valV Tf k
def  DPut(H:Hp)(a:Addr)(y v:V)(c:Hp):Prop:=
 (∃ Tf k,H a=some (.dK Tf)/\y=kV k/\Tf.length<sizeLine/\c=upd H a (.dK<|putK Tf k v))\/
 ∃ Tf k b,H a=some (.dT Tf)/\y=.ref b/\H b=some (.tup<|k.map kV)/\Tf.length<sizeLine/\c=upd H a (.dT<|putK Tf k v)
def DGet.k{a:Addr}{Tf:List (Key × V)}{k:Key}(e:H a=some (.dK Tf)):DGet H a (kV k) (valV Tf k):=.inl (Tf,k,.inl e,rfl,rfl)
section
variable{X:Cx}{Tc:List (Addr × Obj)}{σ:St}{H:Hp}{s:Shared}{a:Addr}{y v:V}{u r:Value}{o:Option V}{A:Around}{E:Value->Shared->Prop}
def Inv.big(I:Inv X Tc σ H s):sysModules<s.heap.objs.size:=by
 have h:mainGlobals<s.heap.objs.size:=(I.mod.glob.keeps I.bk).lt;show XY #[1] h
def Cm{Q:Value->Shared->Prop}(q:A.units+1<cLine)(I:Inv X Tc σ H s)(g:DGet H a y (some v))(n:RelV y u)(h:∀ f s',Inv X Tc σ H s'->RelV v f->Q f s'):
  wpAny (model X.prog X.w) A (getItem (.ref a) u) Q E s:=by
 rcases g with ⟨Tf,k,e,m,l⟩ | ⟨Tf,k,b,e,m,r,l⟩
 . subst m;obtain⟨z,t,vs,d,i⟩:=vX I.hok e;obtain⟨f,hw,c⟩:=XS (v:=v) (o:=valueAt vs k) (by rw[l];show d.val k);show wpAny_getItem_of (vW n) i.mapOf hw (h f _ (I.tok _) c)
 . subst m;cases (show u=Value.ref b from n);obtain⟨z,t,xs,d,i⟩:=y9 I.hok e;obtain⟨f,hw,c⟩:=XS (v:=v) (o:=(atKey xs k).map (·.2)) (by rw[l];show d.val k);obtain⟨p,x,j⟩:=UL.mp hw;show wpAny_getItem_heap (V8 q) (uI I.hok r) i x ?_;rw[j];show h f _ (I.tok _) c
def PU{Q:Value->Shared->Prop}(m:A.units+1<cLine)(I:Inv X Tc σ H s)(g:DGet H a y o)(j:RelV y u)(h:∀ s',Inv X Tc σ H s'->Q (.bool o.isSome) s'):
  wpAny (model X.prog X.w) A (compareOp .In u<|.ref a) Q E s:=by
 rcases g with ⟨Tf,k,e,i,l⟩ | ⟨Tf,k,b,e,i,n,l⟩
 . subst i;obtain⟨z,f,vs,c,d⟩:=vX I.hok e;show wpAny_in_of (vW j) f d.mapOf ?_;rw[← (c.val k).isSome_eq,← l];show h _ (I.tok _)
 . subst i;cases (show u=Value.ref b from j);obtain⟨z,f,xs,c,d⟩:=y9 I.hok e;show wpAny_in_heap (V8 m) (uI I.hok n) f d ?_;have q:=(c.val k).isSome_eq;rw[WY]at q;rw[← q,← l];show h _ (I.tok _)
def MF{Q:Value->Shared->Prop}(m:A.units+1<cLine)(I:Inv X Tc σ H s)(g:DGet H a y o)(j:RelV y u)(h:∀ s',Inv X Tc σ H s'->Q (.bool<|!o.isSome) s'):
  wpAny (model X.prog X.w) A (compareOp .NotIn u<|.ref a) Q E s:=by
 rcases g with ⟨Tf,k,e,i,l⟩ | ⟨Tf,k,b,e,i,n,l⟩
 . subst i;obtain⟨z,f,vs,c,d⟩:=vX I.hok e;show wpAny_notIn_of (vW j) f d.mapOf ?_;rw[← (c.val k).isSome_eq,← l];show h _ (I.tok _)
 . subst i;cases (show u=Value.ref b from j);obtain⟨z,f,xs,c,d⟩:=y9 I.hok e;show wpAny_notIn_heap (V8 m) (uI I.hok n) f d ?_;have q:=(c.val k).isSome_eq;rw[WY]at q;rw[← q,← l];show h _ (I.tok _)
def  A7{h':Heap}{t':Nat}{d:HO}(I:Inv X Tc σ H s)(i:Mut (H a))(h:Heap.SameBut a s.heap h')(g:∃ q,h'.get? a=some q)(c:ObjOk X.prog X.w (upd H a d) h' a d):
  Inv X Tc σ (upd H a d) {s with heap:=h',toks:=t'}:=
 I.write (x:=a) (e:=a) i (.inl rfl) (λb q f z=>(h.2 b f).trans z) g c
def  Jp{P:Program}{w:World}{e:Hp}{h':Heap}{Tf:List (Key × V)}{vs:List (Key × Value)}(z:Tf.length<=sizeLine)(d:(a==sysModules)=false)(b:KV Tf vs)(c:h'.DictOf (dE P w) a vs):
  ObjOk P w e h' a (.dK Tf):=(z,d,vs,b,c)
def Jq{J:Hp}{Q:Unit->Shared->Prop}(M:A.units+1<cLine)(I:Inv X Tc σ H s)(g:DPut H a y v J)(G:RelV y u)(C:RelV v r)(h:∀ s',Inv X Tc σ J s'->Q () s'):
  wpAny (model X.prog X.w) A (setItem (.ref a) u r) Q E s:=by
 rcases g with ⟨Tf,k,e,m,l,t⟩ | ⟨Tf,k,b,e,m,B,l,t⟩
 . subst m t;obtain⟨z,o,vs,d,x⟩:=L7 I.hok e;have n:vs.length<=sizeLine:=by rw[← d.length];show z
   have p:(putK Tf k v).length<=sizeLine:=by have:=qQ Tf k v;lia
   show wpAny_setItem_pairs (hsz:=n) (vW G) x λD f j=>h _ ?_;have K:∃ q,D.get? a=some q:=let ⟨q,_,_,i,_⟩:=f;(q,i);show A7 I (by rw[e];show True.intro) j K (Jp p o (d.put k C) f)
 . subst m t;cases (show u=Value.ref b from G);obtain⟨z,o,xs,d,x⟩:=Pp I.hok e;have n:xs.length<=sizeLine:=by rw[← XM d];show z
   have p:(putK Tf k v).length<=sizeLine:=by have:=qQ Tf k v;lia
   show wpAny_setItem_heap (hsz:=n) (V8 M) (uI I.hok B) x λD f j=>h _ ?_;obtain⟨q,N,L,i,h2,h3,h4,_,h5⟩:=f;show A7 I (by rw[e];show True.intro) j (q,i) (p,o,_,(d.put k B C).keeps λc O F=>?_,q,N,L,i,h2,h3,h4,h5);rw[ak<|Pi F e<|λz=>nomatch z];show F
end
section
variable{X:Cx}{Tc:List (Addr × Obj)}{σ:St}{H:Hp}{s:Shared}{a:Addr}{Tf:List (Key × V)}{k:Key}{u:Value}{A:Around}{E:Value->Shared->Prop}
def Pq{Q:Value->Shared->Prop}(I:Inv X Tc σ H s)(e:Rd H a (.dK Tf))(h:∀ t s',Inv X Tc σ H s'->Q (.int Tf.length t) s'):wpAny (model X.prog X.w) A (call (.builtin "len") [.ref a]) Q E s:=by
 obtain⟨z,d,vs,b,c⟩:=vX I.hok e;show call_len_dict d c (by rw[← b.length];rw[XJ]at z;lia) ?_;rw[← b.length];show h _ _ (I.tok _)
end
def  NoSl(i:Expr):Prop:=∀ b a,subscripted i false b a=operate [b,a] (getItem b a)
variable{pos:Pos}
def MG {prog:Program} {A:Around} {E:Value->Shared->Prop} {s:Shared} {env:Env} {b a:Expr} {T id:String} {Q:Value->Shared->Prop}
  (l:typeLookup (.type T) "__getitem__"=pure (some<|.builtin id)) (m:NoSl a)
  (h:wpAny (model prog w) A (eval b env) (λo j=>wpAny (model prog w) A (eval a env) (λi d=>d.TypeIs o T/\wpAny (model prog w) A (getItem o i) Q E d) E j) E s):
  wpAny (model prog w) A (eval (.Subscript b a pos) env) Q E s:=by
 show Subscript_<|UT h (λo j n=>UT n (λi d e=>?_) λ_ _ x=>x) λ_ _ x=>x;obtain⟨f,e⟩:=e;unfold subscriptTail;show Uh ?_;rw[getitemInPython_of_ne f.not_modules];show Uh (wpAny_specialOf f l ?_)
 have c:wpAny (model prog w) A (subscripted a false o i) (λr g=>wpAny (model prog w) A (letTemporaryGo b o r >>= λ_=>pure r) Q E g) E d:=by
  rw[m o i];show wpAny_operating (UT e (λr g k=>Uh<|wpAny_letTemporaryGo<|Ux k) λ_ _ x=>x)
 first
  | show Ux (Uh c)
  | show Uh (Ux<|Uh c)
  | show Uh c
variable{X:Cx}
def w5{d:List (Addr × Obj)}{σ:St}{s:Shared}{a:Addr}{y:V}{o:Option V}(I:Inv X d σ H s)(g:DGet H a y o):s.TypeIs (.ref a) "dict":=by
 rcases g with ⟨Tf,k,e,_,_⟩ | ⟨Tf,k,b,e,_,_,_⟩
 . obtain⟨_,_,vs,_,c⟩:=vX I.hok e;show c.typeIs
 . obtain⟨_,_,xs,_,c⟩:=y9 I.hok e;show c.typeIs
def  tDGet(e c:TE):TE:=λσ H Q=>e σ H λx d=>c σ d λy b=>∃ a v,x=.ref a/\DGet b a y (some v)/\Q v b
def  sDPut(h e c:TE):TS:=λD σ H=>c σ H λv g=>h σ g λx d=>e σ d λy f=>∃ a b,x=.ref a/\DPut f a y v b/\D.nx σ b
section
variable{X:Cx}{o i e value:Expr}{pos pos' tpos:Pos}{td ty tv:TE}
def MH(m:X.A.units+1<cLine)(q:PE X o td)(j:PE X i ty)(f:NoSl i):PE X (.Subscript o i pos) (tDGet td ty):=by
 intro c s σ H Q I h;show MG V1.lookup f<|thn (q c s σ H _ I h) λu s1 ⟨x,z,e,n,w⟩=>thn (j c s1 σ z _ e w) λE D oh=>?_;obtain⟨y,k,d,t,a,v,l,g,p⟩:=oh;subst l;obtain rfl:u=Value.ref a:=n;show(w5 d g,Cm m d g t λC B r b=>(v,k,r,b,p))
end
def  K6(h:Heap)(a:sysModules<h.objs.size):ObjOk P w H (h.push {cls:=.type "dict",data:=.dict #[]}) h.objs.size (.dK []):=
 (UK _,VF.mpr<|Wa<|Uv a,[],.nil,Heap.DictOf.new h)
def  N5:TE:=λ_ H Q=>∀ p,H p=none->Q (.ref p) (upd H p<|.dK [])
def  kB:List (TE × TE)->St->Hp->(List (V × V)->Hp->Prop)->Prop
 | [],_,H,Q=>Q [] H
 | (tk ,tv)::r,σ,H,Q=>tk σ H λx b=>tv σ b λy c=>kB r σ c λd a=>Q ((x ,y)::d) a
abbrev VV:List (V × V)->List (Value × Value)->Prop:=Paired λp q=>RelV p.1 q.1/\RelV p.2 q.2
def  PPs(X:Cx)(pos:Pos)(b:List (Option Expr))(a:List Expr)(c:List (TE × TE)):Prop:=
 ∀(d:List (Addr × Obj)) (s:Shared) (σ:St) (H:Hp) (Q:List (V × V)->Hp->Prop),Inv X d σ H s->kB c σ H Q->
  wpAny (model X.prog X.w) X.A (evalPairs<|pairTrees b a X.env pos) (λvs g=>∃ e f,Inv X d σ f g/\VV e vs/\Q e f) X.xe s
def  MI:PPs X pos [] [] []:=λa s σ H Q I h=>pairTrees_nil_walk ([],H,I,.nil,h)
variable{trs:List (TE × TE)}
def  oX{k v:Expr}{ks:List (Option Expr)}{vs:List Expr}{c d:TE}(w:PE X k c)(o:PE X v d)(n:PPs X pos ks vs trs):
  PPs X pos (some k::ks) (v::vs) ((c ,d)::trs):=λa s σ H Q I h=>
 pairTrees_cons_walk (thn (w a s σ H _ I h) λu s1 ⟨x,A,e,l,z⟩=>thn (o a s1 σ A _ e z) λD q ⟨y,j,i,t,m⟩=>
  thn (n a q σ j _ i m) λB C ⟨g,f,p,b,r⟩=>((x ,y)::g,f,p,.cons (l,t) b,r))
def  ie(Tf more:List (Key × V)):List (Key × V):=more.foldl (λa b=>putK a b.1 b.2) Tf
def KV.merge:∀{more:List (Key × V)} {a:List (Key × Value)} {Tf:List (Key × V)} {vs:List (Key × Value)},KV more a->KV Tf vs->KV (ie Tf more) (merged vs a):=by
 intro more a Tf vs r;unfold KV at r
 induction r generalizing Tf vs with
 | nil=>intro q;show q
 | @cons p q c d h t b=>
  intro r0
  have e:KV (putK Tf p.1 p.2) (stored vs q.1 q.2):=by
   have:=r0.put p.1 h.2;rw[← h.1];show this
  show b e
def tL:∀(more Tf:List (Key × V)),(ie Tf more).length<=Tf.length+more.length
 | [],Tf=>by change Tf.length<=Tf.length+0;lia
 | p::r,Tf=>by
  have h1:=tL r<|putK Tf p.1 p.2;have h2:=qQ Tf p.1 p.2;change(ie (putK Tf p.1 p.2) r).length<=_;rw[T8];lia
def za{P:Program}{w:World}:∀{Tf:List (Key × V)} {e:List (Value × Value)},VV (Tf.map λf=>(kV f.1 ,f.2)) e->∃ d,Carries (dE P w) e d/\KV Tf d
 | [],_,r=>by rw[XU]at r;cases r;show([],True.intro,.nil)
 | p::Tf,_,r=>by
  rw[T7]at r
  cases r with
  | @cons a b j bs h t=>
   obtain⟨d,c,q⟩:=za (P:=P) (w:=w) t;obtain⟨i,g⟩:=b;show((p.1 ,g)::d,(vW h.1,rfl,c),.cons (rfl,h.2) q)
def  tDisp(trs:List (TE × TE)):TE:=λσ H Q=>∀ p,H p=none->kB trs σ (upd H p<|.dK []) λc a=>a p=some (.dK [])/\∃ Tf:List (Key × V),c=Tf.map (λb=>(kV b.1 ,b.2))/\Tf.length<=15/\Q (.ref p) (upd a p<|.dK<|ie [] Tf)
def MJ {b:List (Option Expr)} {d:List Expr} (h:PPs X pos b d trs) (g:b.all (·.isSome)=true) (y:b.length=d.length) (h0:b≠[])
  (i:b.length<=15):PE X (.Dict b d pos) (tDisp trs):=by
 intro n s σ H Q I q;have F:=I.hok.fresh<|TQ s.heap.objs.size;have r:=I.laid (a:=s.heap.objs.size) (o:=.dK []) (h':=s.heap.push {cls:=.type "dict",data:=.dict #[]}) (t':=s.toks) (λ_ _ q=>TY _ q) (TQ _)<|K6 s.heap I.big;show wpAny_Dict_walk (knd:=dE X.prog X.w) g y h0 i<|thn (h n _ σ _ _ r<|q _ F) λG M oh=>?_;obtain⟨J,K,k,j,e,Tf,B,L,C⟩:=oh;subst B;obtain⟨u,c,D⟩:=za (P:=X.prog) (w:=X.w) j;obtain⟨z,x,m,r0,E⟩:=L7 k.hok e;cases r0;show(u,c,E,λl f t=>(.ref s.heap.objs.size,_,?_,rfl,C))
 have v:(ie [] Tf).length<=sizeLine:=by
  have h1:=tL Tf [];rw[XC]at h1;rw[XJ];lia
 have p:∃ q,l.get? s.heap.objs.size=some q:=let ⟨q,_,_,A,_⟩:=f;(q,A);show A7 k (by rw[e];show True.intro) t p (Jp v x (D.merge .nil) f)
section
variable{X:Cx}
def Jr:CallR X (.builtin "len") (λxs H Q=>∃ a Tf,xs=[V.ref a]/\H a=some (.dK Tf)/\Q (.int Tf.length) H):=by
 intro e s σ H xs f Q I r h;obtain⟨a,Tf,rfl,c,q⟩:=h;obtain⟨u,rfl,d⟩:=fU r;cases d;show Pq I (.inl c) λt g b=>(.int Tf.length,H,b,(t,rfl),q)
end
def fI{α:Type}(x:Str):∀(a b:List (Str × α)),(a++b).lookup x=match a.lookup x with | some c=>some c | none=>b.lookup x
 | [],b=>rfl
 | (k ,v)::r,b=>by
  rw[List.cons_append,UO,UO]
  cases x==k with
  | true=>rfl
  | false=>show fI x r b
def nk:∀(names:List (Str × NameKind)) (n:Nat) (a cl:List (Str × Addr)),cellsFrom n names (a++cl)=cellsFrom n names a++cl
 | [],_,_,_=>rfl
 | (y ,k)::r,n,a,cl=>by
  unfold cellsFrom
  split
  . rw[← List.cons_append];show nk r _ _ cl
  . show nk r _ _ cl
def jB{x:Str}{c:Addr}:∀(names:List (Str × NameKind)) (n:Nat) (a:List (Str × Addr)),(x ,c)∈cellsFrom n names a->(x ,NameKind.cell)∈names\/(x ,c)∈a
 | [],_,_,h=>.inr h
 | (y ,k)::r,n,a,h=>by
  unfold cellsFrom at h
  split at h
  . rename_i b
    have b:k=.cell:=by simpa using b
    subst b;rcases jB r _ _ h with z | z
    . show .inl (TD _ z)
    . rcases TN.mp z with z | z
      . cases z;show .inl TR
      . show .inr z
  . rcases jB r _ _ h with z | z
    . show .inl (TD _ z)
    . show .inr z
def sQ {env:Env} (f:Str × NameKind->List (Str × Addr)->Sem (ForInStep<|List<|Str × Addr))
  (j:∀ name kind cs,f (name ,kind) cs=if kind==.free then(do let a ← cellOf env name;pure<|.yield ((name ,a)::cs)) else pure (.yield cs)):
  ∀(names:List (Str × NameKind)) (d:List (Str × Addr)),(∀ x,(x ,NameKind.free)∈names->∃ c,env.cells.lookup x=some c)->(∀ x c,d.lookup x=some c->env.cells.lookup x=some c)->
   ∃ cl,forIn names d f=(pure cl:Sem _)/\(∀ x c,cl.lookup x=some c->env.cells.lookup x=some c)/\(∀ x,((x ,NameKind.free)∈names\/∃ c,d.lookup x=some c)->∃ c,cl.lookup x=some c)
 | [],d,_,h2=>(d,rfl,h2,λx h=>h.elim (λz=>nomatch z) id)
 | (y ,k)::r,d,h1,h2=>by
  rw[List.forIn_cons,j];by_cases i:(k==NameKind.free)=true
  . rw[TZ i];have l:k=.free:=by simpa using i
    subst l;obtain⟨c,n⟩:=h1 y TR;have e:(cellOf env y:Sem Addr)=pure c:=by unfold cellOf;rw[n]
    rw[e]
    obtain⟨cl,e1,e2,m⟩:=sQ f j r ((y ,c)::d) (λx b=>h1 x<|TD _ b) (λx c' b=>by
     rw[UO]at b
     cases g:x==y with
     | true=>rw[g]at b;cases b;rw[Vz.mp g];show n
     | false=>rw[g]at b;show h2 x c' b)
    show(cl,?_,e2,λx b=>m x ?_)
    . show e1
    . rcases b with b | ⟨c',b⟩
      . rcases TN.mp b with z | z
        . cases z;show .inr (c,by rw[UO];simp)
        . show .inl z
      . cases g:x==y with
        | true=>show .inr (c,by rw[UO,g])
        | false=>show .inr (c',by rw[UO,g];show b)
  . rw[TX i];obtain⟨cl,e1,e2,m⟩:=sQ f j r d (λx b=>h1 x<|TD _ b) h2;show(cl,e1,e2,λx b=>m x ?_);rcases b with b | b
    . rcases TN.mp b with z | z
      . cases z;show absurd rfl i
      . show .inl z
    . show .inr b
variable{scope:Scope}
def zb{env:Env}(h:∀ x,(x ,NameKind.free)∈scope.names->∃ c,env.cells.lookup x=some c):
  ∃ cl,closureFor scope env=pure cl/\(∀ x c,cl.lookup x=some c->env.cells.lookup x=some c)/\∀ x,(x ,NameKind.free)∈scope.names->∃ c,cl.lookup x=some c:=by
 obtain⟨cl,e1,e2,e⟩:=sQ (env:=env) (λx b=>match x with | (name ,kind)=>if kind==.free then(do let a ← cellOf env name;pure<|.yield ((name ,a)::b)) else pure (.yield b)) (λ_ _ _=>rfl) scope.names [] h<|λx c d=>nomatch d;show(cl,?_,e2,λx d=>e x<|.inl d)
 have:closureFor scope env=(forIn scope.names [] (λx b=>match x with | (name ,kind)=>if kind==.free then(do let a ← cellOf env name;pure<|.yield ((name ,a)::b)) else pure (.yield b)) >>= λb=>pure b):=by
  simp only[closureFor]
 rw[this,e1];rfl
def  Js(scope:Scope)(cl:List (Str × Addr))(C:Addr)(env:Env):Env:=
 {newEnv scope C env.globals (cellsFrom (C+1) scope.names cl) env.qual none .none (some env) builtinsNs with scope:=relabel scope env}
def K7 {M:Model} {A:Around} {E:Value->Shared->Prop} {s:Shared} {cl:List (Str × Addr)} {env:Env} {Q:Env->Shared->Prop}
  (e:Q (newEnv scope s.heap.objs.size env.globals (cellsFrom (s.heap.objs.size+1) scope.names cl) env.qual none .none (some env) builtinsNs) {s with heap:=pushCells (s.heap.push {cls:=.type "dict",data:=.dict #[]}) scope.names}):
  wpAny M A (newFunctionEnv scope env.globals cl [] env.qual none .none<|some env) Q E s:=by
 simp only[newFunctionEnv,Option.isSome_some,We];show Uh<|wpAny_alloc ?_;show Uh (wpAny_layCells _ (λd a b=>by cases c:a==NameKind.cell <;> simp[c]) _ _ _ _ ?_);rw[show({s with heap:=s.heap.push {cls:=.type "dict",data:=.dict #[]}}:Shared).heap.objs.size=s.heap.objs.size+1 from Vp ..];show Uh ?_;rw[List.forIn_nil];show Ux (Ux e)
section
variable{prog:Program}{w:World}{A:Around}{E:Value->Shared->Prop}{R:Result->Shared->Prop}{s:Shared}
def Jt {f a d:Expr} {g:List Expr} {scope:Scope} {pos:Pos} {it i:Value} {env:Env} (I:Nat->Shared->Prop)
  (k:∀ n s,I n s->wpAny (model prog w) A (pyNext it) (λr o=>match r with
   | none=>R (.ok .next) o
   | some v=>wpAny (model prog w) A (letOwnedTupleGo a it v) (λ_ j=>wpAny (model prog w) A (assign a env v) (λ_ u=>
     wpAny (model prog w) A (forIn g true λc r=>if r=true then do let l ← isTrue c env (eval c env);pure (ForInStep.yield l) else pure (ForInStep.yield r)) (λl p=>
      if l=true then wpAny (model prog w) A (eval f env) (λx z=>
       wpAny (model prog w) A (call (.builtin "list.append") [i,x]) (λ_ y=>∃ m,m<n/\I m y) (notedBy (model prog w) A env λe s'=>R (.error e) s') z) (notedBy (model prog w) A env λe s'=>R (.error e) s') p
      else ∃ m,m<n/\I m p) (notedBy (model prog w) A env λe s'=>R (.error e) s') u) (notedBy (model prog w) A env λe s'=>R (.error e) s') j) (notedBy (model prog w) A env λe s'=>R (.error e) s') o) (notedBy (model prog w) A env λe s'=>R (.error e) s') s)
  (n:Nat) (h:I n s):
  codeAny (model prog w) A (.compLoop (.ListComp f [(a,d,g,0)] scope pos) 0 it i env) R s:=by
 show codeAny_loop rfl I (λn s E=>?_) n h;change wpAny _ A ((compTurn (.ListComp f [(a,d,g,0)] scope pos) 0 it i env).onRaise (λx=>do noteFrame x env;theTreesLotGoes x)) _ _ s;show wpAny_noted ?_;rw[compTurn_list];show Uh (Xb<|Uh<|UT (k n s E) (λr o t=>?_) λ_ _ b=>b)
 cases r with
 | none=>show Ux t
 | some v=>
  show Uh<|UT t (λ_ j q=>?_) λ_ _ b=>b;show Uh (UT q (λ_ u F=>Uh<|UT F (λl p B=>?_) λ_ _ b=>b) λ_ _ b=>b)
  cases l with
  | false=>show Ux (rfl,B)
  | true=>
   show Uh (Uh<|UT B (λx z D=>Uh<|UT D (λ_ y C=>Ux<|Ux (rfl,C)) λ_ _ b=>b) λ_ _ b=>b)
end
variable{scope:Scope}
def oY{env:Env}{x:Str}{k:NameKind}(h:(relabel scope env).names.lookup x=some k):∃ b,scope.names.lookup x=some b/\(k=b\/(b=.free/\k=.cell)):=by
 unfold relabel at h;dsimp only at h;generalize scope.names=names at h ⊢
 induction names with
 | nil=>cases h
 | cons p r d=>
  obtain⟨n,k0⟩:=p;rw[T7]at h;rw[UO]
  cases a:x==n with
  | true=>
   show(k0,rfl,?_);dsimp only at h
   split at h
   . rename_i c
     rw[UO,a]at h;cases h;simp only[Tx,Vz]at c;show .inr (c.1.1,rfl)
   . rw[UO,a]at h;cases h;show .inl rfl
  | false=>
   dsimp only at h;show d ?_
   split at h
   . rw[UO,a]at h;show h
   . rw[UO,a]at h;show h
def  blkCx(X:Cx)(N:List Str)(scope:Scope)(cl:List (Str × Addr))(s:Shared)(H:Hp)(fp:List Addr):Cx where
 prog:=X.prog
 w:=X.w
 K:=X.K
 mg:=X.mg
 base:=X.base
 A:=X.A
 N:=N
 s₀:=s
 H₀:=H
 env:=Js scope cl (s.heap.objs.size+1) X.env
 outer:=X.stack
 stack:=X.stack
 ex:=fp
 fn:=λx=>scope.names.lookup x==some .cell
 calm:=X.calm
 pn:=[]
 xe:=λf g=>(∃(e:List (Addr × Obj)) (σ:St),Inv X e σ H s/\∀ b∈fp,FpOk X e H b)->notedBy (model X.prog X.w) X.A (Js scope cl (s.heap.objs.size+1) X.env) (λx c=>∃ m,c.heap.Ns (s.heap.objs.size+1) m/\∀ d,Heap.SameBut (s.heap.objs.size+1) c.heap d->∀ a:Env,a.locals=s.heap.objs.size+1->
  wpAny (model X.prog X.w) X.A (passOn "comprehension.variables-let-go" x a:Sem Value) (λ_ _=>False) X.xe {c with heap:=d}) f g
def  subσ(ix:List (Option Nat))(σ:St):St:=ix.map λo=>match o with | none=>none | some i=>match σ[i]? with | some v=>v | none=>none
structure BlkOk(X:Cx)(N:List Str)(ix:List (Option Nat))(scope:Scope):Prop where
 kind:scope.kind=.function
 nd:N.Nodup
 len:ix.length=N.length
 names:(scope.names.map (·.1)).Nodup
 free:∀ x,(x ,NameKind.free)∈scope.names->X.env.kindOf x=some .cell\/X.env.kindOf x=some .free
 at_:∀(j i:Nat) (x:Str),N[j]? =some x->ix[j]? =some (some i)->X.N[i]? =some x/\(x ,NameKind.free)∈scope.names
def ig{α:Type}:∀{l:List (Str × α)} {x:Str} {k:α},(l.map (·.1)).Nodup->(x ,k)∈l->l.lookup x=some k
 | (y ,k0)::r,x,k,nd,h=>by
  rw[T7,UB]at nd;rw[UO];rcases TN.mp h with e | e
  . cases e;simp
  . have:x≠y:=by
     rintro rfl;show nd.1 (Tz.mpr ((x ,k),e,rfl))
    have a:(x==y)=false:=by simpa using this
    rw[a];show ig nd.2 e
def Ju {X:Cx} {Tc:List (Addr × Obj)} {σ:St} {H:Hp} {s:Shared} {N:List Str} {ix:List (Option Nat)} {cl:List (Str × Addr)} {fp:List Addr} (B:BlkOk X N ix scope)
  (I:Inv X Tc σ H s) (g:∀ x c,cl.lookup x=some c->X.env.cells.lookup x=some c) (P:∀ x,(x ,NameKind.free)∈scope.names->∃ c,cl.lookup x=some c)
  (C:∀ b∈fp,FpOk X Tc H b) (ag:∀ b∈fp,∃ o,s.heap.get? b=some o/\∀ v,o.data≠.cell v):
  Inv (blkCx X N scope cl s H fp) [] (subσ ix σ) (upd H s.heap.objs.size<|.lst [])
   {s with heap:=pushCells ((s.heap.push {cls:=.type "list",data:=.seq #[]}).push {cls:=.type "dict",data:=.dict #[]}) scope.names}:=by
 have Q:(s.heap.push {cls:=.type "list",data:=.seq #[]}).objs.size=s.heap.objs.size+1:=Vp ..;have R:((s.heap.push {cls:=.type "list",data:=.seq #[]}).push {cls:=.type "dict",data:=.dict #[]}).objs.size=s.heap.objs.size+2:=by rw[Vp,Q]
 have W:∀ b o,s.heap.get? b=some o->(pushCells ((s.heap.push {cls:=.type "list",data:=.seq #[]}).push {cls:=.type "dict",data:=.dict #[]}) scope.names).get? b=some o:=
  λb o e=>WA _ _ b o (TY _<|TY _ e)
 have hl:(pushCells ((s.heap.push {cls:=.type "list",data:=.seq #[]}).push {cls:=.type "dict",data:=.dict #[]}) scope.names).get? s.heap.objs.size=some {cls:=.type "list",data:=.seq #[]}:=
  WA _ _ _ _ (TY _<|Ur _ rfl)
 have D:=cellsFrom_ok scope.names ((s.heap.push {cls:=.type "list",data:=.seq #[]}).push {cls:=.type "dict",data:=.dict #[]}) (s.heap.objs.size+2) [] (λ_ _ M=>(nomatch M),List.Pairwise.nil) (by rw[R];show TQ _);rw[R]at D
 have f:(blkCx X N scope cl s H fp).env.cells=cellsFrom (s.heap.objs.size+2) scope.names []++cl:=by
  change cellsFrom (s.heap.objs.size+1+1) scope.names cl=_;rw[← List.nil_append cl,nk];simp
 have a:∀ x c,(blkCx X N scope cl s H fp).env.cells.lookup x=some c->((x ,c)∈cellsFrom (s.heap.objs.size+2) scope.names []/\(x ,NameKind.cell)∈scope.names)\/((cellsFrom (s.heap.objs.size+2) scope.names []).lookup x=none/\cl.lookup x=some c):=λx c e=>by
  rw[f,fI]at e
  cases q:(cellsFrom (s.heap.objs.size+2) scope.names []).lookup x with
  | none=>rw[q]at e;show .inr (rfl,e)
  | some U=>
   rw[q]at e;cases e;have m:=UZ q;show .inl (m,?_);rcases jB _ _ _ m with z | z
   . show z
   . show nomatch z
 have k:∀ x c,cl.lookup x=some c->c<s.heap.objs.size:=λx c e=>by
  obtain⟨v,q⟩:=I.cell x c<|g x c e;show q.lt
 have K:H s.heap.objs.size=none:=I.hok.fresh (TQ _)
 have E:∀ b,s.heap.objs.size<b->(upd H s.heap.objs.size<|.lst []) b=none:=λb h=>by
  rw[ak<|WJ h];show I.hok.fresh (Uy h)
 have S:∀ b∈fp,b<s.heap.objs.size:=λb h=>by
  obtain⟨o,e,_⟩:=ag b h;show Ug e
 have T:=I.env0;have d:∀ x c,(x ,c)∈cellsFrom (s.heap.objs.size+2) scope.names []->s.heap.objs.size+2<=c:=λx c m=>(D.empty x c m).2
 show((I.ok.mod,B.kind,I.ok.glob,I.ok.blt,Ws _,λx y c e1 e2=>?_,λx Y=>?_,λx c Y e=>?_,I.ok.hd,I.ok.frames,.inl rfl,λb h=>(?_,λx c e=>?_),T.bs,T.bsz,λb o e h=>?_,λb h af=>?_,T.funs,T.frf),
  rfl,I.bare,Un.laid W (TQ _) K,(λ_=>none,?_,λj x v e1 e2 e3=>?_),λx c e=>?_,E _<|VY _,λx c e=>?_,λp hp=>absurd (show p∈([]:List (Addr × Obj)) from hp) (by simp),?_,?_)
 . rcases a x c e1 with ⟨w,k1⟩ | ⟨L,A⟩ <;> rcases a y c e2 with ⟨m2,k2⟩ | ⟨n2,t⟩
   . show name_of_addr D.apart w m2
   . show absurd (Uo (k _ _ t)<|TU (VZ _ _)<|d _ _ w) (UY _)
   . show absurd (Uo (k _ _ A)<|TU (VZ _ _)<|d _ _ m2) (UY _)
   . show I.ok.inj x y c (g _ _ A) (g _ _ t)
 . have G:(relabel scope X.env).names.lookup x=some .cell\/(relabel scope X.env).names.lookup x=some .free:=Y
   have ae:scope.names.lookup x=some .cell\/scope.names.lookup x=some .free:=by
    rcases G with z | z
    . obtain⟨k',e,r | r⟩:=oY z
      . rw[← r]at e;show .inl e
      . rw[r.1]at e;show .inr e
    . obtain⟨k',e,r | r⟩:=oY z
      . rw[← r]at e;show .inr e
      . cases r.2
   rw[f];rcases ae with z | z
   . obtain⟨c,q⟩:=sP (n:=s.heap.objs.size+2) z;show(c,by rw[fI,q])
   . obtain⟨c,q⟩:=P x (UZ z)
     cases t:(cellsFrom (s.heap.objs.size+2) scope.names []).lookup x with
     | none=>show(c,by rw[fI,t];show q)
     | some U=>show(U,by rw[fI,t])
 . have G:scope.names.lookup x=some .cell:=by simpa [blkCx] using Y
   rcases a x c e with ⟨w,k1⟩ | ⟨L,A⟩
   . show TU (VZ _ _) (d _ _ w)
   . obtain⟨U,q⟩:=sP (n:=s.heap.objs.size+2) G;rw[q]at L;cases L
 . show Uv (Va<|S b h)
 . rcases a x c e with ⟨w,k1⟩ | ⟨L,A⟩
   . show WJ (Uo (S b h)<|TU (VZ _ _)<|d _ _ w)
   . show(C b h).2.2.2.2.1 x c (g _ _ A)
 . rcases(C b h).2.2.2.1 with z | z
   . show I.ok.noex b o e z
   . show absurd (Uo (Ug e)<|TU I.ok.bsz z) (UY _)
 . rcases TN.mp (I.stkSub b af) with z | z
   . show(C b h).2.1 z
   . show(C b h).2.2.1 z
 . change Heap.Ns _ (s.heap.objs.size+1) _;rw[← Q];show(Heap.Ns.new _<|.type "dict").keeps (WA _ _)
 .
   unfold subσ at e2;rw[Tw]at e2
   cases q:ix[j]? with
   | none=>rw[q]at e2;cases e2
   | some o=>
    rw[q]at e2
    cases o with
    | none=>cases e2
    | some i=>
     simp only[XA,WX]at e2;obtain⟨hN,M⟩:=B.at_ j i x e1 q
     have hσ:σ[i]? =some (some v):=by
      cases t:σ[i]? with
      | none=>rw[t]at e2;cases e2
      | some z=>rw[t]at e2;show congrArg some e2
     obtain⟨m,hn,Z⟩:=I.loc;have l:=B.free x M;have O:Vis X.env.scope x:=l.elim (λz=>.inr<|.inl z) λz=>.inr<|.inr z;obtain⟨u,ru,lk⟩:=Z i x v hN hσ O;show(u,ru,?_);obtain⟨c,hc⟩:=P x M
     have J:(cellsFrom (s.heap.objs.size+2) scope.names []).lookup x=none:=by
      cases t:(cellsFrom (s.heap.objs.size+2) scope.names []).lookup x with
      | none=>rfl
      | some U=>
       rcases jB _ _ _ (UZ t) with z | z
       . have a1:=ig B.names z;have a2:=ig B.names M;rw[a1]at a2;cases a2
       . show nomatch z
     have F:(blkCx X N scope cl s H fp).env.cells.lookup x=some c:=by rw[f,fI,J];show hc
     have ab:(blkCx X N scope cl s H fp).env.kindOf x=some .cell\/(blkCx X N scope cl s H fp).env.kindOf x=some .free:=by
      rcases e3 with z | z | z
      . obtain⟨k',e,r | r⟩:=oY (show(relabel scope X.env).names.lookup x=some .local from z)
        . rw[ig B.names M]at e;cases e;cases r
        . cases r.2
      . show .inl z
      . show .inr z
     show .inr (ab,c,F,?_);rcases lk with ⟨k1,_⟩ | ⟨_,c2,e4,z⟩
     . rcases l with z | z <;> rw[k1]at z <;> cases z
     . rw[g x c hc]at e4;cases e4;show z.keeps W
 . rcases a x c e with ⟨w,k1⟩ | ⟨L,A⟩
   . show(none,(D.empty x c w).1)
   . obtain⟨v,z⟩:=I.cell x c<|g _ _ A;show(v,z.keeps W)
 . rcases a x c e with ⟨w,k1⟩ | ⟨L,A⟩
   . show E c (Uo (Nat.lt_add_of_pos_right #[1])<|d _ _ w)
   . rw[ak<|Uv<|k _ _ A];show I.freeC x c (g _ _ A)
 . show I.hok.laid W (TQ _) (UK _,[],0,.nil,hl)
 . change(subσ ix σ).length=N.length;unfold subσ;rw[Tn];show B.len
def  PTs(X:Cx)(a:List Expr)(t:TT):Prop:=
 ∀(b:List (Addr × Obj)) (s:Shared) (σ:St) (H:Hp) (Q:Bool->Hp->Prop),Inv X b σ H s->t σ H Q->
  wpAny (model X.prog X.w) X.A (forIn a true λc r=>if r=true then do let ok ← isTrue c X.env (eval c X.env);pure (ForInStep.yield ok) else pure (ForInStep.yield r)) (TP X b σ Q) X.xe s
def  tTrue:TT:=λ_ H Q=>Q true H
def  aT{X:Cx}:PTs X [] tTrue:=λ_ _ _ H _ I h=>wpAny_tests_nil (H,I,h)
def  bF{X:Cx}{c:Expr}{t:TT}(h:PT X c t):PTs X [c] t:=λa s σ H Q I q=>wpAny_tests_one (h a s σ H Q I q)
def  Ec(ix:List (Option Nat))(r:TI)(g:TG)(s:TT)(te:TE)(f:Addr->Hp->Prop):St->Hp->Prop:=λσ H=>r σ H λJ q=>∀ l,q l=none->
 ∃ W:Nat->Nat->St->Hp->Prop,(∃ m,W 0 m (subσ ix σ)<|upd q l<|.lst [])/\∀ i m n a,W i m n a->
  (J.stop i a/\f l a)\/(J.go i a/\∃ N:St->Hp->Prop,(∀ d c,N d c->∃ o,o<m/\W (i+1) o d c)/\∀ x k,J.yld i a x k->g x n k λe t=>s e t λb p=>
   if b=true then te e p λy j=>∃ h,j l=↥h/\h.length<sizeLine/\N e (upd j l<|.lst<|h++[y]) else N e p)
section
variable{X:Cx}{Tc:List (Addr × Obj)}{σ σ':St}{H H':Hp}{s s':Shared}{N:List Str}{scope:Scope}{cl:List (Str × Addr)}{fp:List Addr}
def G7{h':Heap}(I:Inv X Tc σ H s)(J:Inv (blkCx X N scope cl s H fp) [] σ' H' s')(i:∀ b∈fp,FpOk X Tc H b)(f:Heap.SameBut (s.heap.objs.size+1) s'.heap h'):Inv X Tc σ H' {s' with heap:=h'}:=by
 have u:Un (frs X.stack) fp H H' s.heap s'.heap:=J.base;have j:H' (s.heap.objs.size+1)=none:=J.free;have h:∀ b o,s.heap.get? b=some o->b≠s.heap.objs.size+1:=λb o e=>Uv<|Va<|Ug e;show I.call' (s':={s' with heap:=h'}) (ch:=fp) J.os (λb o e n a d=>?_,λb o e n a d=>?_,u.free,λb o e d=>?_,u.tups,u.frzs,u.tbls) (λb v e=>?_) J.bare λb a=>?_
 . show(f.2 b<|h b o e).trans (u.keep b o e n a d)
 . obtain⟨t,q⟩:=u.slot b o e n a d;show(t,(f.2 b<|h b o e).trans q)
 . obtain⟨m,q⟩:=u.there b o e d;show(m,(f.2 b<|h b o e).trans q)
 . show(J.hok b v e).stay (λc w g q=>(f.2 c ?_).trans q) (λ_ q=>q) λ_ _ q=>q;rintro rfl;rcases g with rfl | g
   . rw[j]at e;cases e
   . rw[j]at g;cases g
 . obtain⟨x,r,y,p,k,l⟩:=i b a;show(p,r,k,l)
def  Ed {tg t K:Expr} {O:List Expr} {pos:Pos} {ix:List (Option Nat)} {wi:TI} {g:TG} {tt:TT} {te:TE} {U:Addr->Hp->Prop} {RR:Value->Addr->Result->Shared->Prop} (B:BlkOk X N ix scope) (hc:X.calm=true)
  (hi:PI X tg t wi) (hg:∀ cl s H fp,PG (blkCx X N scope cl s H fp) tg g) (ht:∀ cl s H fp,PTs (blkCx X N scope cl s H fp) O tt) (he:∀ cl s H fp,PE (blkCx X N scope cl s H fp) K te)
  (ax:∀ x c,cl.lookup x=some c->X.env.cells.lookup x=some c) (ay:∀ x,(x ,NameKind.free)∈scope.names->∃ c,cl.lookup x=some c)
  (I:Inv X Tc σ H s) (h:Ec ix wi g tt te U σ H)
  (ok:∀(f:Shared) (j:Hp) (fp:List Addr) (σ3:St) (H3:Hp) (s3:Shared),Inv X Tc σ j f->(∀ b∈fp,FpOk X Tc j b)->Inv (blkCx X N scope cl f j fp) [] σ3 H3 s3->U f.heap.objs.size H3->RR (.ref f.heap.objs.size) (f.heap.objs.size+1) (.ok .next) s3)
  (am:∀(a C:Addr) (x:Value) (s':Shared),(∃ m,s'.heap.Ns C m/\∀ h',Heap.SameBut C s'.heap h'->∀ k:Env,k.locals=C->wpAny (model X.prog X.w) X.A (passOn "comprehension.variables-let-go" x k:Sem Value) (λ_ _=>False) X.xe {s' with heap:=h'})->RR (.ref a) C (.error x) s'):
  wpAny (model X.prog X.w) X.A (eval t X.env) (λx s₁=>wpAny (model X.prog X.w) X.A (pyIter x) (λit s₂=>wpAny (model X.prog X.w) X.A (newList []) (λag s₃=>
   wpAny (model X.prog X.w) X.A (newFunctionEnv scope X.env.globals cl [] X.env.qual none .none<|some X.env) (λk s₄=>
    codeAny (model X.prog X.w) X.A (.compStart (.ListComp K [(tg,t,O,0)] scope pos) 0 it ag {k with scope:=relabel scope X.env}) (RR ag k.locals) s₄) X.xe s₃) X.xe s₂) X.xe s₁) X.xe s:=by
 show thn (hi Tc s σ H _ I h) λv s1 h1=>thn h1 λaA f h2=>?_;obtain⟨it,fp,tn,J,j,e,I2,T,L,f2,h2⟩:=h2;subst e;show wpAny_newList (K7 ?_)<|UK _;have ao:(f.heap.push {cls:=.type "list",data:=.seq (([]:List Value)).toArray}).objs.size=f.heap.objs.size+1:=Vp ..;dsimp only;rw[ao];have I3:=Ju (fp:=fp) B I2 ax ay f2<|T.obj _ _ L;obtain⟨W,⟨m0,w0⟩,ae⟩:=h2 f.heap.objs.size I2.fresh
 have hk:∀ b o,f.heap.get? b=some o->(pushCells ((f.heap.push {cls:=.type "list",data:=.seq #[]}).push {cls:=.type "dict",data:=.dict #[]}) scope.names).get? b=some o:=
  λb o e=>WA _ _ b o (TY _<|TY _ e)
 have af:=T.keep _ _ _ L λb _ o e=>hk b o e
 have ar:∀ b∈fp,(upd j f.heap.objs.size<|.lst []) b=none:=λb z=>by
  obtain⟨o,e,_⟩:=T.obj _ _ L b z;rw[ak<|Uv<|Ug e];show(f2 b z).1
 have D:∀{σ5:St} {H5:Hp} {s5:Shared},Inv (blkCx X N scope cl f j fp) [] σ5 H5 s5->(∀ b∈fp,H5 b=none)->∀ b∈fp,FpOk (blkCx X N scope cl f j fp) [] H5 b:=λI5 hn b z=>
  (hn b z,(I5.ok.exf b z).1,I5.ok.exfs b z,.inl z,(I5.ok.exf b z).2,λp hp=>absurd (show p∈([]:List (Addr × Obj)) from hp) (by simp))
 have F:∀ s₃:Shared,s₃={f with heap:=pushCells ((f.heap.push {cls:=.type "list",data:=.seq #[]}).push {cls:=.type "dict",data:=.dict #[]}) scope.names}->
   codeAny (model X.prog X.w) X.A (.compLoop (.ListComp K [(tg,t,O,0)] scope pos) 0 (.ref it) (.ref f.heap.objs.size) (blkCx X N scope cl f j fp).env) (RR (.ref f.heap.objs.size)<|f.heap.objs.size+1) s₃:=by
  rintro s₃ rfl;show Jt (λn s'=>∃ i σ' H',Inv (blkCx X N scope cl f j fp) [] σ' H' s'/\tn i s'.heap/\(∀ b∈fp,H' b=none)/\W i n σ' H') ?_ m0 (0,_,_,I3,af,ar,w0);rintro n s4 ⟨i,R,H4,I4,ab,aj,w4⟩
  have l:∀ x s',(blkCx X N scope cl f j fp).xe x s'->notedBy (model X.prog X.w) X.A (blkCx X N scope cl f j fp).env (λe s'=>RR (.ref f.heap.objs.size) (f.heap.objs.size+1) (.error e) s') x s':=λx s' hx=>
   UT (hx (Tc,σ,I2,f2)) (λ_ au q=>am _ _ _ _ q) λe au q=>am _ _ _ _ q
  rcases ae i n R H4 w4 with ⟨Z,qn⟩ | ⟨go,Nx,hN,S⟩
  . show UT (T.done (blkCx X N scope cl f j fp) rfl rfl rfl hc i [] s4 R H4 _ I4 (D I4 aj) ab Z) (λr s5 ⟨hr,I5⟩=>?_) l;subst hr;show ok f j fp R H4 s5 I2 f2 I5 qn
  . show UT (T.item (blkCx X N scope cl f j fp) rfl rfl rfl hc i [] s4 R H4 _ I4 (D I4 aj) ab go) (λr s5 ⟨u,hr,h5⟩=>?_) l;subst hr;show UT h5 (λ_ s6 ⟨x,H6,I6,r6,y6,M,ap⟩=>?_) l;have aw:=I6.pinned (D I6 ap)<|T.obj _ _ M;show UT (hg cl f j fp _ s6 R H6 x u _ aw r6<|S x H6 y6) (λ_ s7 ⟨σ7,H7,I7,q7⟩=>?_) l
    have E:∀{Y:St} {G:Hp} {Q:Shared},Inv (blkCx X N scope cl f j fp) ([]++uA fp s6.heap) Y G Q->Nx Y G->∃ m,m<n/\∃ i σ' H',Inv (blkCx X N scope cl f j fp) [] σ' H' Q/\tn i Q.heap/\(∀ b∈fp,H' b=none)/\W i m σ' H':=λ{Y G Q} P n8=>by
     obtain⟨m',hm,w8⟩:=hN Y G n8;show(m',hm,i+1,Y,G,P.unpinned,T.keep _ _ _ M λb z o e=>(P.pin (b ,o)<|UA _<|UA _<|oG z e).1,λb z=>?_,w8);obtain⟨o,e,d⟩:=T.obj _ _ M b z;show(P.pin (b ,o)<|UA _<|UA _<|oG z e).2.1
    show UT (ht cl f j fp _ s7 σ7 H7 _ I7 q7) (λas Q ⟨G,P,q8⟩=>?_) l
    cases as with
    | false=>show E P q8
    | true=>
     show UT (he cl f j fp _ Q σ7 G _ P q8) (λy s9 ⟨yv,H9,I9,r9,ys,hl,hz,q9⟩=>?_) l;show UT (Ck (X:=blkCx X N scope cl f j fp) _ s9 σ7 H9 (.ref f.heap.objs.size) [yv] (.ref f.heap.objs.size) [y] (λ_ al=>Nx σ7 al) I9 rfl (.cons r9 .nil) (_,ys,yv,rfl,rfl,hl,hz,q9)) (λ_ az ⟨_,al,av,_,aq⟩=>?_) l;show E av aq
 show codeAny_compStart_list (F _ rfl) (T.self _ 0 _ _ _ af<|F _ rfl)
def  tComp(ix:List (Option Nat))(b:TI)(g:TG)(a:TT)(te:TE):TE:=λσ H Q=>Ec ix b g a te (λl H'=>Q (.ref l) H') σ H
def  sComp(k:Nat)(ix:List (Option Nat))(b:TI)(g:TG)(a:TT)(te:TE):TS:=λD σ H=>Ec ix b g a te (λl H'=>D.nx (σ.set k ↑l) H') σ H
def  G8(I:Inv X Tc σ H s){ix:List (Option Nat)}(B:BlkOk X N ix scope):∃ cl,closureFor scope X.env=pure cl/\(∀ x c,cl.lookup x=some c->X.env.cells.lookup x=some c)/\∀ x,(x ,NameKind.free)∈scope.names->∃ c,cl.lookup x=some c:=
 zb λx a=>I.ok.has x (B.free x a)
def  w9{ix:List (Option Nat)}(B:BlkOk X N ix scope):∀ x∈scope.names,x.2=NameKind.local->scope.names.lookup x.1=some .local:=λx a e=>by
 obtain⟨n,k⟩:=x;cases e;show ig B.names a
def aE {e b c:Expr} {d:List Expr} {pos:Pos} {ix:List (Option Nat)} {j:TI} {g:TG} {i:TT} {te:TE} (N:List Str) (B:BlkOk X N ix scope) (u:X.calm=true)
  (r:PI X e b j) (v:∀ cl s H fp,PG (blkCx X N scope cl s H fp) e g) (k:∀ cl s H fp,PTs (blkCx X N scope cl s H fp) d i) (l:∀ cl s H fp,PE (blkCx X N scope cl s H fp) c te)
  (p:∀ x,foldedSetIterable b X.env x=pure x:=by intro _;rfl):PE X (.ListComp c [(e,b,d,0)] scope pos) (tComp ix j g i te):=by
 intro Tc s σ H Q I h;obtain⟨cl,e1,e2,n⟩:=G8 I B;rw[eval_ListComp];show Xc (use:=none) rfl p e1 B.kind (w9 B) ?_;show Ed (RR:=λf C=>compPost (model X.prog X.w) X.A X.xe none (EP X Tc σ Q) f C) B u r v k l e2 n I h (λK G fp F o E t D J q=>?_)<|λa C x s' q=>q;obtain⟨m,z,_⟩:=J.loc;show(m,z,λL y=>(.ref _,o,G7 t J D y,rfl,q))
def G9 {y:Str} {n j:Pos} {k:Nat} {r d f:Expr} {i:List Expr} {pos:Pos} {ix:List (Option Nat)} {R:TI} {g:TG} {P:TT} {te:TE} (hN:X.N.Nodup) (hy:X.N[k]? =some y) (hx:Loc X.env.scope y)
  (u:swapsWith (.ListComp f [(r,d,i,0)] scope pos) (some<|.Name y n) j.line X.env=pure true) (N:List Str) (B:BlkOk X N ix scope) (hc:X.calm=true)
  (Y:PI X r d R) (hg:∀ cl s H fp,PG (blkCx X N scope cl s H fp) r g) (S:∀ cl s H fp,PTs (blkCx X N scope cl s H fp) i P) (T:∀ cl s H fp,PE (blkCx X N scope cl s H fp) f te)
  (W:∀ x,foldedSetIterable d X.env x=pure x:=by intro _;rfl) (Z:X.fn y=true\/X.env.scope.names.lookup y=some .local:=by first | show .inl rfl | show .inr rfl | assumption):
  PS X (.Assign [.Name y n] (.ListComp f [(r,d,i,0)] scope pos) j) (sComp k ix R g P te):=by
 intro Tc s σ H D I h;obtain⟨cl,e1,e2,U⟩:=G8 I B;rw[exec_Assign_Name_used _ _ _ _ u];show Uh<|Xb<|Uh ?_;change wpAny _ X.A (do let _ ← comprehension (.ListComp f [(r,d,i,0)] scope pos) scope X.env _ (newList []) false (eval d X.env) (some<|assign (.Name y n) X.env)) _ _ s;show Uh<|UT (Xc (use:=some (assign (.Name y n) X.env)) (Q:=λ_ s'=>SP X Tc D .next s') rfl W e1 B.kind (w9 B) ?_) (λ_ s' hq=>Ux<|Ux hq) λ_ _ e=>e;show Ed (RR:=λK C=>compPost (model X.prog X.w) X.A X.xe (some<|assign (.Name y n) X.env) (λ_ s'=>SP X Tc D .next s') K C) B hc Y hg S T e2 U I h (λG H2 fp σ3 O M l f2 J q=>?_)<|λa C x s' q=>q;obtain⟨m,hn,_⟩:=J.loc;have I3:Inv X Tc σ O {M with heap:=M.heap}:=G7 l J f2<|Heap.SameBut.refl _ _;change wpAny _ X.A (assign (.Name y n) X.env<|.ref _) _ _ _;show wpAny_assign_Name (Cb (v:=.ref _) I3 hN hy hx rfl (λs4 I4 ⟨a,E,F⟩=>?_) Z)
 have L:a<G.heap.objs.size:=by
  rcases F with rfl | F
  . show l.lt
  . obtain⟨v,z⟩:=l.cell _ _ F;show z.lt
 have t:G.heap.objs.size+1≠a:=WJ<|Va L;show(m,hn.sameBut E t,λh' sb=>?_);show(_,O,I4.turned (t':=s4.toks) (it:=G.heap.objs.size+1) (λb o hb e=>(sb.2 b hb).trans e) J.free (WJ<|Va l.lt) (.inr<|TU l.sz<|Ws _) (λx c e=>?_)<|λp hp=>?_,q)
 . obtain⟨v,z⟩:=l.cell x c e;show Uv (Va z.lt)
 . show Uv (Va<|Ug (l.pin p hp).1)
end
def  bnd{α:Type}:Option α->(α->Prop)->Prop
 | some a,k=>k a
 | none,_=>False
def  d3{α:Type}{o:Option α}{a:α}{k:α->Prop}(h:o=some a)(q:k a):bnd o k:=by subst h;show q
def bu{α:Type}{o:Option α}{k:α->Prop}(h:bnd o k):∃ a,o=some a/\k a:=by
 cases o with
 | none=>show h.elim
 | some a=>show(a,rfl,h)
def  bG{α:Type}{a:α}{k:α->Prop}:bnd (some a) k=k a:=rfl
def  unM:Option HO->Option (List V)
 | ↥xs=>some xs
 | _=>none
def  unL:Option HO->Option (List V)
 | ↥xs=>some xs
 | some (.frz _ (.lst xs))=>some xs
 | _=>none
def  unS:Option HO->Option (List V)
 | ↥xs=>some xs
 | some (.frz _ (.lst xs))=>some xs
 | some (.tup xs)=>some xs
 | _=>none
variable{o:Option HO}{xs:List V}
def iH(h:unM o=some xs):o=↥xs:=by
 unfold unM at h;split at h
 . cases h;rfl
 . cases h
def rE{K:Frag}{H:Hp}{p:Addr}(h:unL (H p)=some xs):SqL K H p xs:=by
 unfold unL at h;split at h
 . rename_i e;cases h;show .inl (.inl e)
 . rename_i o _ e;cases h;show .inl (.inr (_,e))
 . cases h
def rF{K:Frag}{H:Hp}{p:Addr}(h:unS (H p)=some xs):SqL K H p xs\/SqT K H p xs:=by
 unfold unS at h;split at h
 . rename_i e;cases h;show .inl (.inl<|.inl e)
 . rename_i o _ e;cases h;show .inl (.inl<|.inr (_,e))
 . rename_i e;cases h;show .inr (.inl<|.inl e)
 . cases h
mutual
inductive DV(K:Frag)(H:Hp):V->PyData->Prop
 | non:DV K H .non .none
 | bl (b:Bool):DV K H (.bl b) (.bool b)
 | int (i:Int):DV K H (.int i) (.int i)
 | str (x:Str):DV K H (.str x) (.str x)
 | lst {a:Addr} {xs:List V} {ds:List PyData}:SqL K H a xs->DVs K H xs ds->DV K H (.ref a) (.list ds)
 | tup {a:Addr} {xs:List V} {ds:List PyData}:SqT K H a xs->DVs K H xs ds->DV K H (.ref a) (.tuple ds)
inductive DVs(K:Frag)(H:Hp):List V->List PyData->Prop
 | nil:DVs K H [] []
 | cons {x:V} {d:PyData} {xs:List V} {ds:List PyData}:DV K H x d->DVs K H xs ds->DVs K H (x::xs) (d::ds)
end
section
variable{X:Cx}{Tc:List (Addr × Obj)}{σ:St}{H:Hp}{s:Shared}
mutual
def DV.reads(I:Inv X Tc σ H s):∀{x:V} {d:PyData} {v:Value},DV X.K H x d->RelV x v->∃ c,Reads s.heap v d c
 | _,_,_,.non,r=>by cases r;show(_,.none)
 | _,_,_,.bl b,r=>by cases r;show(_,.bool b)
 | _,_,_,.int i,r=>by obtain⟨t,rfl⟩:=r;show(_,.int i t)
 | _,_,_,.str x,r=>by obtain⟨t,rfl⟩:=r;show(_,.str x t)
 | _,_,_,.lst (a:=a) h hs,r=>by
  cases r;obtain⟨Tg,e,p,_⟩:=I.list h;obtain⟨c,q⟩:=DVs.reads I hs e;obtain⟨o,h1,h2,n,h3⟩:=p.isList;show(_,.list h1 h2 h3 q)
 | _,_,_,.tup (a:=a) h hs,r=>by
  cases r;obtain⟨Tg,e,p,_⟩:=I.tuple h;obtain⟨c,q⟩:=DVs.reads I hs e;obtain⟨o,h1,h2,n,h3⟩:=p;show(_,.tuple h1 h2 h3 q)
def DVs.reads(I:Inv X Tc σ H s):∀{xs:List V} {a:List PyData} {us:List Value},DVs X.K H xs a->Vals xs us->∃ b,ReadsAll s.heap us a b
 | _,_,_,.nil,.nil=>(_,.nil)
 | _,_,_,.cons h hs,.cons r rs=>by
  obtain⟨b,q⟩:=DV.reads I h r;obtain⟨bs,c⟩:=DVs.reads I hs rs;show(_,.cons q c)
end
end
def DVs.ints{K:Frag}{H:Hp}:∀ ns:∅,DVs K H (ns.map V.int) (ns.map PyData.int)
 | []=>.nil
 | n::r=>.cons (.int n) (DVs.ints r)
def  xZ:∀ ns ms:∅,PyData.eqvAll (ns.map PyData.int) (ms.map PyData.int)=decide (ns=ms):=PySem.W.ked_eqvAll
def oZ:∀ ns:∅,PyData.canLayAll0 (ns.map PyData.int)=true
 | []=>rfl
 | n::r=>by rw[T7,PyData.canLayAll0,oZ r];rfl
def kC:∀ ns:∅,PyData.depthAll (ns.map PyData.int)=0
 | []=>rfl
 | n::r=>by rw[T7,PyData.depthAll,kC r];rfl
def mM(ns:∅):SeqAt.shaped (.list<|ns.map PyData.int)=true:=by
 simp[SeqAt.shaped,PyData.canLay0,oZ,PyData.depth,kC]
def  cAdd:R2
 | .int i,.int j,H,Q=>Q (.int<|i+j) H
 | .str i,.str j,H,Q=>i.length+j.length<=sizeLine/\Q (.str<|i++j) H
 | .ref l,.ref b,H,Q=>bnd (unM<|H l) λxs=>bnd (unM<|H b) λzs=>xs.length+zs.length<=sizeLine/\∀ p,H p=none->Q (.ref p) (upd H p<|.lst<|xs++zs)
 | _,_,_,_=>False
def  cSub:R2
 | .int i,.int j,H,Q=>Q (.int<|i-j) H
 | _,_,_,_=>False
def  cMul:R2
 | .int i,.int j,H,Q=>CMul i j/\Q (.int<|i*j) H
 | _,_,_,_=>False
def  cDiv:R2
 | .int i,.int j,H,Q=>CDiv i j/\Q (.int<|i/j) H
 | _,_,_,_=>False
def  cMod:R2
 | .int i,.int j,H,Q=>0<j/\Q (.int<|i%j) H
 | _,_,_,_=>False
def  cPow:R2
 | .int i,.int j,H,Q=>CPow i j/\Q (.int<|i^j.toNat) H
 | _,_,_,_=>False
def  cCmp(g:Int->Int->Bool):R2
 | .int i,.int j,H,Q=>Q (.bl<|g i j) H
 | _,_,_,_=>False
def  rEqD(K:Frag):R2:=λx y H Q=>∃ d e,DV K H x d/\DV K H y e/\SeqAt.shaped d=true/\SeqAt.shaped e=true/\Q (.bl<|PyData.eqv d e) H
def  rNeD(K:Frag):R2:=λx y H Q=>∃ d e,DV K H x d/\DV K H y e/\SeqAt.shaped d=true/\SeqAt.shaped e=true/\Q (.bl<|!PyData.eqv d e) H
def  cEq(K:Frag):R2
 | .int i,.int j,H,Q=>Q (.bl<|decide<|i=j) H
 | .bl i,.bl j,H,Q=>Q (.bl<|decide<|i=j) H
 | .str i,.str j,H,Q=>Q (.bl<|decide<|i=j) H
 | x,y,H,Q=>rEqD K x y H Q
def  cNe(K:Frag):R2
 | .int i,.int j,H,Q=>Q (.bl<|!decide (i=j)) H
 | .bl i,.bl j,H,Q=>Q (.bl<|!decide (i=j)) H
 | .str i,.str j,H,Q=>Q (.bl<|!decide (i=j)) H
 | x,y,H,Q=>rNeD K x y H Q
def  rInD(K:Frag)(b:Bool):R2:=λx y H Q=>∃ d a,DV K H x d/\(DV K H y (.list a)\/DV K H y (.tuple a))/\PyData.canLayAll0 a=true/\PyData.canLay0 d=true/\min (PyData.depthAll a) d.depth<=62/\
 Q (.bl (if b then !a.any (λy=>PyData.eqv y d) else a.any λy=>PyData.eqv y d)) H
def  keyOf:V->Option Key
 | .int i=>some (.inl i)
 | .str x=>some (.inr x)
 | _=>none
def  unD:Option HO->Option (List<|Key × V)
 | some (.dK Tf)=>some Tf
 | _=>none
def  cIn(K:Frag)(b:Bool):R2
 | .ref a,y,H,Q=>rInD K b (.ref a) y H Q
 | x,.ref p,H,Q=>(match unD (H p) with
  | some Tf=>bnd (keyOf x) λk=>Q (.bl (if b then !(valV Tf k).isSome else(valV Tf k).isSome)) H
  | none=>bnd (unS<|H p) λxs=>flatV x=true/\xs.all flatV=true/\Q (.bl (if b then !inV x xs else inV x xs)) H)
 | .str i,.str j,H,Q=>Q (.bl (if b then !(!(Builtin.Str.occurrences j i 0 j.length 1).isEmpty) else !(Builtin.Str.occurrences j i 0 j.length 1).isEmpty)) H
 | _,_,_,_=>False
def  cIx:R2
 | .ref p,y,H,Q=>(match unD (H p) with
  | some Tf=>bnd (keyOf y) λk=>bnd (valV Tf k) λv=>Q v H
  | none=>match y with
   | .int i=>bnd (unS<|H p) λxs=>bnd (atI xs i) λv=>Q v H
   | _=>False)
 | .str z,.int i,H,Q=>z.length<=sizeLine/\bnd (atI z.cps.toList i) λc=>Q (.str ⟨#[c]⟩) H
 | _,_,_,_=>False
def zc{Tf:List (Key × V)}(h:unD o=some Tf):o=some (.dK Tf):=by
 unfold unD at h;split at h
 . cases h;rfl
 . cases h
def ya{x:V}{k:Key}(h:keyOf x=some k):x=kV k:=by
 unfold keyOf at h;split at h
 . cases h;rfl
 . cases h;rfl
 . cases h
section
variable{X:Cx}{a b c:Expr}{ta tb tc:TE}{pos:Pos}
def aO:OpR X (binaryOp .Add) cAdd:=by
 intro c s σ H x y v u Q I a b h;unfold cAdd at h
 split at h
 . show NO c s σ H _ _ v u Q I a b (_,_,rfl,rfl,h)
 . show HS c s σ H _ _ v u Q I a b (_,_,rfl,rfl,h.1,h.2)
 . obtain⟨xs,e1,h⟩:=bu h;obtain⟨d,e2,h⟩:=bu h;show N1 c s σ H _ _ v u Q I a b (_,_,xs,d,rfl,rfl,iH e1,iH e2,h.1,h.2)
 . show h.elim
def ij:OpR X (binaryOp .Sub) cSub:=by
 intro c s σ H x y v u Q I a b h;unfold cSub at h
 split at h
 . show NP c s σ H _ _ v u Q I a b (_,_,rfl,rfl,h)
 . show h.elim
def fW:OpR X (binaryOp .Mult) cMul:=by
 intro c s σ H x y v u Q I a b h;unfold cMul at h
 split at h
 . show NQ c s σ H _ _ v u Q I a b (_,_,rfl,rfl,h.1,h.2)
 . show h.elim
def gD:OpR X (binaryOp .FloorDiv) cDiv:=by
 intro c s σ H x y v u Q I a b h;unfold cDiv at h
 split at h
 . show Mr c s σ H _ _ v u Q I a b (_,_,rfl,rfl,h.1,h.2)
 . show h.elim
def cJ:OpR X (binaryOp .Mod) cMod:=by
 intro c s σ H x y v u Q I a b h;unfold cMod at h
 split at h
 . show NR c s σ H _ _ v u Q I a b (_,_,rfl,rfl,h.1,h.2)
 . show h.elim
def vY{a:CmpOp}{g:Int->Int->Bool}(o:OpR X (compareOp a) (rI0 λi j=>.bl<|g i j)):OpR X (compareOp a) (cCmp g):=by
 intro d s σ H x y v u Q I b c h;unfold cCmp at h
 split at h
 . show o d s σ H _ _ v u Q I b c (_,_,rfl,rfl,h)
 . show h.elim
def  kD:OpR X (compareOp .Lt) (cCmp λi j=>decide<|i<j):=vY Pl
def  ju:OpR X (compareOp .LtE) (cCmp λi j=>decide<|i<=j):=vY Pm
def  fZ:OpR X (compareOp .Gt) (cCmp λi j=>decide<|j<i):=vY Pn
def  zd:OpR X (compareOp .GtE) (cCmp λi j=>decide<|j<=i):=vY Po
def N6(a:X.A.units+64<cLine):OpR X (compareOp .Eq) (rEqD X.K):=by
 intro i s σ H x y v u Q I b c h;obtain⟨d,e,h1,h2,h3,h4,q⟩:=h;obtain⟨g,r1⟩:=h1.reads I b;obtain⟨f,r2⟩:=h2.reads I c;show eq_dataH r1 r2 h3 h4 a (.bl _,H,I,rfl,q)
def N7(a:X.A.units+64<cLine):OpR X (compareOp .NotEq) (rNeD X.K):=by
 intro i s σ H x y v u Q I b c h;obtain⟨d,e,h1,h2,h3,h4,q⟩:=h;obtain⟨g,r1⟩:=h1.reads I b;obtain⟨f,r2⟩:=h2.reads I c;show ne_dataH r1 r2 h3 h4 a (.bl _,H,I,rfl,q)
def av(d:X.A.units+64<cLine):OpR X (compareOp .Eq) (cEq X.K):=by
 intro c s σ H x y v u Q I a b h;unfold cEq at h
 split at h
 . show HQ c s σ H _ _ v u Q I a b (rfl,?_)
   simpa using h
 . show HQ c s σ H _ _ v u Q I a b (rfl,?_)
   simpa using h
 . show HQ c s σ H _ _ v u Q I a b (rfl,?_)
   simpa using h
 . show N6 d c s σ H _ _ v u Q I a b h
def bv(d:X.A.units+64<cLine):OpR X (compareOp .NotEq) (cNe X.K):=by
 intro c s σ H x y v u Q I a b h;unfold cNe at h
 split at h
 . show HR c s σ H _ _ v u Q I a b (rfl,?_)
   simpa using h
 . show HR c s σ H _ _ v u Q I a b (rfl,?_)
   simpa using h
 . show HR c s σ H _ _ v u Q I a b (rfl,?_)
   simpa using h
 . show N7 d c s σ H _ _ v u Q I a b h
def N8(e:X.A.units+64<cLine):OpR X (compareOp .In) (rInD X.K false):=by
 intro g s σ H x y v u Q I c a h;obtain⟨d,i,h1,h2,h3,h4,h5,q⟩:=h;obtain⟨f,r1⟩:=h1.reads I c;rcases h2 with h2 | h2
 . obtain⟨b,r2⟩:=h2.reads I a;show SeqAt.in_list_reads r2 r1 h3 h4 #[4] (.bl _,H,I,rfl,q)
 . obtain⟨b,r2⟩:=h2.reads I a;show SeqAt.in_tuple_reads r2 r1 h3 h4 #[4] (.bl _,H,I,rfl,q)
def Jv(e:X.A.units+64<cLine):OpR X (compareOp .NotIn) (rInD X.K true):=by
 intro g s σ H x y v u Q I c a h;obtain⟨d,i,h1,h2,h3,h4,h5,q⟩:=h;obtain⟨f,r1⟩:=h1.reads I c;rcases h2 with h2 | h2
 . obtain⟨b,r2⟩:=h2.reads I a;show SeqAt.notIn_list_reads r2 r1 h3 h4 #[4] (.bl _,H,I,rfl,q)
 . obtain⟨b,r2⟩:=h2.reads I a;show SeqAt.notIn_tuple_reads r2 r1 h3 h4 #[4] (.bl _,H,I,rfl,q)
def mU(d:X.A.units+64<cLine):OpR X (compareOp .In) (cIn X.K false):=by
 intro c s σ H x y v u Q I a b h;unfold cIn at h
 split at h
 . show N8 d c s σ H _ _ v u Q I a b h
 . rename_i p m
   split at h
   . rename_i Tf e
     obtain⟨k,i,q⟩:=bu h;cases (show u=Value.ref p from b);have g:DGet H p x (valV Tf k):=by rw[ya i];show DGet.k (zc e)
     show PU (UW (V5 (by decide:1<=64) _) d) I g a λn f=>(.bl _,H,f,rfl,q)
   . obtain⟨xs,e,j,l,q⟩:=bu h;show qe c s σ H _ _ v u Q I a b (p,xs,rfl,rF e,j,l,q)
 . show Jg c s σ H _ _ v u Q I a b (_,_,rfl,rfl,h)
 . show h.elim
def uJ(d:X.A.units+64<cLine):OpR X (compareOp .NotIn) (cIn X.K true):=by
 intro c s σ H x y v u Q I a b h;unfold cIn at h
 split at h
 . show Jv d c s σ H _ _ v u Q I a b h
 . rename_i p m
   split at h
   . rename_i Tf e
     obtain⟨k,i,q⟩:=bu h;cases (show u=Value.ref p from b);have g:DGet H p x (valV Tf k):=by rw[ya i];show DGet.k (zc e)
     show MF (UW (V5 (by decide:1<=64) _) d) I g a λn f=>(.bl _,H,f,rfl,q)
   . obtain⟨xs,e,j,l,q⟩:=bu h;show uE c s σ H _ _ v u Q I a b (p,xs,rfl,rF e,j,l,q)
 . show DW c s σ H _ _ v u Q I a b (_,_,rfl,rfl,h)
 . show h.elim
end
section
variable{X:Cx}{a b c:Expr}{ta tb tc:TE}{pos:Pos}
def N9(t:X.A.units+64<cLine):IxR X cIx:=by
 intro a b n s σ H x y v u Q I f j h l
 cases x with
 | ref p=>
  unfold cIx at h;dsimp only at h
  split at h
  . rename_i Tf e
    obtain⟨k,w,h⟩:=bu h;obtain⟨z,d,q⟩:=bu h;cases (show v=Value.ref p from f);have g:DGet H p y (some z):=by rw[ya w,← d];show DGet.k (zc e)
    show tail_any (w5 I g) V1.lookup (Cm (UW (V5 (by decide:1<=64) _) t) I g j λE D C m=>(z,H,C,m,q)) l
  . split at h
    . obtain⟨xs,e,h⟩:=bu h;obtain⟨z,d,q⟩:=bu h;rcases rF (K:=X.K) e with r | r
      . show G6 a b n s σ H _ _ v u Q I f j (p,xs,_,z,rfl,rfl,r,d,q) l
      . show NV a b n s σ H _ _ v u Q I f j (p,xs,_,z,rfl,rfl,r,d,q) l
    . show h.elim
 | str o=>
  cases y with
  | int i=>
   obtain⟨B,h⟩:=(show o.length<=sizeLine/\bnd (atI o.cps.toList i) λc=>Q (.str ⟨#[c]⟩) H from h);obtain⟨z,d,q⟩:=bu h;show NW a b n s σ H _ _ v u Q I f j (_,_,z,rfl,rfl,B,d,q) l
  | _=>show False.elim h
 | _=>show False.elim h
def  kLen:List V->Hp->VK->Prop
 | [.ref p],H,Q=>(match unD (H p) with
  | some Tf=>Q (.int Tf.length) H
  | none=>bnd (unS<|H p) λxs=>Q (.int xs.length) H)
 | [.str z],H,Q=>z.length<=sizeLine/\Q (.int z.length) H
 | _,_,_=>False
def az:CallR X (.builtin "len") kLen:=by
 intro a s σ H xs b Q I r h;unfold kLen at h
 split at h
 . split at h
   . rename_i Tf e
     show Jr a s σ H _ b Q I r (_,Tf,rfl,zc e,h)
   . obtain⟨c,e,q⟩:=bu h;show uF a s σ H _ b Q I r (_,c,rfl,rF e,q)
 . show DX a s σ H _ b Q I r (_,rfl,h.1,h.2)
 . show h.elim
def  kAbs:List V->Hp->VK->Prop
 | [.int i],H,Q=>Q (.int (if i<0 then -i else i)) H
 | _,_,_=>False
def  kMin:List V->Hp->VK->Prop
 | [.int i,.int j],H,Q=>Q (.int (if j<i then j else i)) H
 | _,_,_=>False
def  kMax:List V->Hp->VK->Prop
 | [.int i,.int j],H,Q=>Q (.int (if j>i then j else i)) H
 | _,_,_=>False
def  kList:List V->Hp->VK->Prop
 | [.ref p],H,Q=>bnd (unS<|H p) λys=>∀ l,H l=none->Q (.ref l) (upd H l<|.lst ys)
 | _,_,_=>False
def f7:CallR X (.type "list") kList:=by
 intro b s σ H xs c Q I r h;unfold kList at h
 split at h
 . obtain⟨a,e,q⟩:=bu h;show uG b s σ H _ c Q I r (_,a,rfl,rF e,q)
 . show h.elim
def  ke:List V->Hp->VK->Prop
 | [.ref p],H,Q=>bnd (unL<|H p) λys=>∃ ns:∅,ys=ns.map V.int/\ns.length<64/\∀(a:∅) l,H l=none->a.Perm ns->a.Pairwise (· <=·)->Q (.ref l) (upd H l<|.lst<|a.map V.int)
 | _,_,_=>False
def o4:CallR X (.builtin "sorted") ke:=by
 intro C s σ H xs F Q I r h;unfold ke at h
 split at h
 . rename_i p
   obtain⟨E,e,B,rfl,z,q⟩:=bu h;obtain⟨u,rfl,x⟩:=fU r;cases x;obtain⟨j,m,v,D⟩:=I.list<|rE e;have A:IntsAre j B:=y8 m;have y:=m.length;rw[Tn]at y;show sorted_ints v.isList A #[4] λd f i t w=>?_;have k:∀ b o,s.heap.get? b=some o->(sortedAll s.heap j d).get? b=some o:=λb o e=>sortedAll_old e;obtain⟨n,l⟩:=sortedAll_at s.heap j d;have c:H (s.heap.objs.size+1)=none:=I.hok.fresh (Ws _)
   have g:(f.map V.int).length<=sizeLine:=by
    rw[Tn,t.length_eq];show Uy (XY z #[1])
   show(.ref<|s.heap.objs.size+1,_,I.laid (t':=s.toks) (a:=s.heap.objs.size+1) (o:=.lst (f.map V.int)) k (Ws _) (g,d.toList,n,uH i,?_),rfl,q f _ c t w);rw[l]
 . show h.elim
def  o6(H:Hp):V->Option String
 | .non=>some "NoneType"
 | .bl _=>some "bool"
 | .int _=>some "int"
 | .str _=>some "str"
 | .ref p=>match H p with
  | ↥_=>some "list"
  | some (.frz _ (.lst _))=>some "list"
  | some (.tup _)=>some "tuple"
  | some (.dK _)=>some "dict"
  | _=>none
 | _=>none
def  isTy(t n:String):Bool:=t==n||(t=="bool"&&n=="int")
def  vZ(n:String):Bool:=["int","bool","str","list","tuple","dict"].contains n
def Jw{K:Frag}{H:Hp}{x:V}{t:String}(h:o6 H x=some t):TyOf K H x (.type t)/\["NoneType","int","bool","str","list","tuple","dict"].contains t=true:=by
 cases x with
 | non=>cases h;show(.non,by decide)
 | bl b=>cases h;show(.bl b,by decide)
 | int i=>cases h;show(.int i,by decide)
 | str i=>cases h;show(.str i,by decide)
 | byt _=>cases h
 | flt _=>cases h
 | ty _=>cases h
 | ref p=>
  unfold o6 at h;dsimp only at h
  split at h
  . rename_i e;cases h;show(.lst e,by decide)
  . rename_i e;cases h;show(.frz e,by decide)
  . rename_i e;cases h;show(.tup e,by decide)
  . rename_i e;cases h;show(.dK e,by decide)
  . cases h
def Oa(K:Frag):∀ t∈["NoneType","int","bool","str","list","tuple","dict"],∀ n∈["int","bool","str","list","tuple","dict"],PySem.W.kitOne K (.type t) (.type n)=some (isTy t n):=by
 intro t b n a;simp only[TN,UD,Vr]at b a;rcases b with rfl | rfl | rfl | rfl | rfl | rfl | rfl <;> rcases a with rfl | rfl | rfl | rfl | rfl | rfl <;> rfl
def  kIsi:List V->Hp->VK->Prop
 | [x,.ty n],H,Q=>vZ n=true/\bnd (o6 H x) λt=>Q (.bl<|isTy t n) H
 | _,_,_=>False
def bX:CallR X (.builtin "isinstance") kIsi:=by
 intro i s σ H xs j Q I r h;unfold kIsi at h
 split at h
 . obtain⟨f,h⟩:=h;obtain⟨t,c,q⟩:=bu h;obtain⟨u,w,rfl,g,a⟩:=L4 r;cases a;obtain⟨e,d⟩:=Jw (K:=X.K) c;show Jj I g e (Oa X.K t (by simpa using d) _ (by simpa [vZ] using f)) λb=>(.bl _,H,I.tok b,rfl,q)
 . show h.elim
def  fJ:V->List V->Hp->VK->Prop
 | .ref l,[y],H,Q=>bnd (unM<|H l) λxs=>xs.length<sizeLine/\Q .non (upd H l<|.lst<|xs++[y])
 | _,_,_,_=>False
def eD:MtR X "list.append" fJ:=by
 intro b s σ H x vs v d Q I a c h;unfold fJ at h
 split at h
 . obtain⟨xs,e,h1,q⟩:=bu h;show Ck b s σ H _ _ v d Q I a c (_,xs,_,rfl,rfl,iH e,h1,q)
 . show h.elim
def  kf:V->List V->Hp->VK->Prop
 | .ref l,[.ref b],H,Q=>bnd (unM<|H l) λxs=>bnd (unM<|H b) λzs=>xs.length+zs.length<=sizeLine/\Q .non (upd H l<|.lst<|xs++zs)
 | _,_,_,_=>False
def oH:MtR X "list.extend" kf:=by
 intro b s σ H x vs v c Q I a f h;unfold kf at h
 split at h
 . obtain⟨xs,e,h⟩:=bu h;obtain⟨d,e2,h1,q⟩:=bu h;show Jn b s σ H _ _ v c Q I a f (_,_,xs,d,rfl,rfl,iH e,iH e2,h1,q)
 . show h.elim
def  ze:V->List V->Hp->VK->Prop
 | .ref l,[],H,Q=>bnd (unM<|H l) λ_=>Q .non (upd H l<|.lst [])
 | _,_,_,_=>False
def Jx:MtR X "list.clear" ze:=by
 intro b s σ H x vs v d Q I a c h;unfold ze at h
 split at h
 . obtain⟨xs,e,q⟩:=bu h;show K5 b s σ H _ _ v d Q I a c (_,xs,rfl,rfl,iH e,q)
 . show h.elim
def  bB{K:Frag}{H:Hp}{p:Addr}{xs:List V}(h:H p=↥xs):tyV K "list" (.ref p) H:=.inl (rfl,_,TW h)
def  cSl:V->Option Int->Option Int->Hp->VK->Prop
 | .ref p,lo,hi,H,Q=>bnd (unL<|H p) λxs=>∀ l,H l=none->Q (.ref l) (upd H l<|.lst<|cutV xs lo hi)
 | _,_,_,_,_=>False
def PV:SlR X cSl:=by
 intro f s σ H x v l a d k g Q I c j i b h;unfold cSl at h
 split at h
 . obtain⟨xs,e,q⟩:=bu h;show MA f s σ H _ v l a d k g Q I c j i b (_,xs,rfl,rE e,q)
 . show h.elim
end
structure Cal(P:Program)(w:World)(K:Frag)(mg:Str->Option Value)(base:Heap)(k:Nat)(x:Str)(ps:List Str)(sp:Sp):Prop where
 ex:∃(f:Addr) (fd:FuncData),FnOk P w K mg base CX0 k f fd ps sp/\mg x=↑f/\keepIn K (.ref f)=true/\Binds K fd ps []
def Ob {X:Cx} {k n:Nat} {x:Str} {q:List Str} {sp:Sp} {p pos:Pos} {e:Expr} {a:List Expr} {t:TA} (C:Cal X.prog X.w X.K X.mg X.base k x q sp) (l:Room n X.A) (o:k<=n) (g:Gl X x) (m:PA X (e::a) t)
  (c:(x==("__debug__":Str))=false:=by decide) (j:starEach (e::a) X.env=(false ,eval e X.env)::starEach a X.env:=by rfl) (b:(backTo pos<|starEach a X.env).any (·.1)=false:=by rfl):
  PE X (.Call (.Name x p) (e::a) [] pos) (tCall sp [] E0 t):=by
 obtain⟨f,r,F,i,d,h⟩:=C.ex;show Mw F (l.mono o) g i d h .nil DJ m c j b
def aJ:bootBuiltins "len"=some (.builtin "len"):=by decide+kernel
def Jy:bootBuiltins "max"=some (.builtin "max"):=by decide+kernel
def qf:bootBuiltins "sorted"=some (.builtin "sorted"):=by decide+kernel
def Jz:bootBuiltins "any"=some (.builtin "any"):=by decide+kernel
def bb:bootBuiltins "isinstance"=some (.builtin "isinstance"):=by decide+kernel
def cK:bootBuiltins "list"=some (.type "list"):=by decide+kernel
def Ee:bootBuiltins "int"=some (.type "int"):=by decide+kernel
def Ha:bootBuiltins "bool"=some (.type "bool"):=by decide+kernel
def JA:bootBuiltins "str"=some (.type "str"):=by decide+kernel
def lT:bootBuiltins "tuple"=some (.type "tuple"):=by decide+kernel
def  compN(scope:Scope):List Str:=(scope.names.filter λp=>p.2==.local||p.2==.cell||p.2==.free).map (·.1)
def  zg(N:List Str)(scope:Scope):List (Option Nat):=(compN scope).map λx=>if scope.names.lookup x==some .free then N.findIdx? (· ==x) else none
def  isCF:Option NameKind->Bool
 | some .cell=>true
 | some .free=>true
 | _=>false
def  Oc{X:Cx}{scope:Scope}(h1:scope.kind=.function)(h2:(scope.names.map (·.1)).Nodup)(h3:(scope.names.all λp=>p.2 != .free||isCF (X.env.kindOf p.1))=true):BlkOk X (compN scope) (zg X.N scope) scope where
 kind:=h1
 nd:=h2.sublist (List.Sublist.map _<|WG ..)
 len:=by unfold zg;rw[Tn]
 names:=h2
 free:=λx b=>by
  have:=Ty.mp h3 (x ,.free) b;simp only[bne_self_eq_false,UH]at this;unfold isCF at this
  split at this
  . rename_i e;show .inl e
  . rename_i e;show .inr e
  . cases this
 at_:=λj i x e1 e2=>by
  unfold zg at e2;rw[Tw,e1]at e2;simp only[XA,WX]at e2
  split at e2
  . rename_i d
    obtain⟨a,c,_⟩:=List.findIdx?_eq_some_iff_getElem.mp e2
    have b:X.N[i]? =some x:=by
     rw[To a];have:X.N[i]=x:=by simpa using c
     rw[this]
    show(b,UZ (by simpa using d))
  . cases e2
section
variable{t u:TS}{D:Ends}{σ:St}{H:Hp}{Q:VK}{ta tb:TE}{R:Bool->Hp->Prop}{c d:TT}
def  aC:tSeq t u D σ H=t {D with nx:=u D} σ H:=rfl
def  cQ:tNext D σ H=D.nx σ H:=rfl
def  cO{g:TG}:tAsg ta g D σ H=ta σ H λx a=>g x σ a D.nx:=rfl
def  aZ{i:Nat}{v:V}{k:St->Hp->Prop}:gName i v σ H k=k (σ.set i<|some v) H:=rfl
def  Pr{i:Nat}:tVar i σ H Q=∃ v,σ[i]? =some (some v)/\Q v H:=propext (L3,λ⟨_,e,h⟩=>oF e h)
def  cR{v:V}{σ:St}:tVar 0 (some v::σ) H Q=Q v H:=rfl
def  cS{i:Nat}{a:Option V}{σ:St}:tVar (i+1) (a::σ) H Q=tVar i σ H Q:=rfl
def  w_c{v:V}:tC v σ H Q=Q v H:=rfl
def  gf{r:R2}:tOp r ta tb σ H Q=ta σ H λx a=>tb σ a λy b=>r x y b Q:=rfl
def  dC:tRet ta D σ H=ta σ H D.rt:=rfl
def  cT:tRetN D σ H=D.rt .non H:=rfl
def  cU:tDrop ta D σ H=ta σ H λ_ a=>D.nx σ a:=rfl
def  aA:tIfS c t u D σ H=c σ H λb a=>if b=true then t D σ a else u D σ a:=rfl
def  cV:tTest ta σ H R=ta σ H λx a=>∃ k,x=.bl k/\R k a:=rfl
def  w_b:tB ta σ H R=ta σ H λx a=>∃ k,x=.bl k/\R k a:=rfl
def  w_not:tNot c σ H R=c σ H λk a=>R (!k) a:=rfl
def  eI:tAnd c d σ H R=c σ H λk a=>if k=true then d σ a R else R false a:=rfl
def  gG:tOr c d σ H R=c σ H λk a=>if k=true then R true a else d σ a R:=rfl
def  cW:tNotV ta σ H Q=ta σ H λx a=>∃ c,x=.bl c/\Q (.bl<|!c) a:=rfl
def  cX:tAndV ta tb σ H Q=ta σ H λx a=>∃ c,x=.bl c/\if c=true then tb σ a Q else Q (.bl false) a:=rfl
def  eJ:tOrV ta tb σ H Q=ta σ H λx a=>∃ c,x=.bl c/\if c=true then Q (.bl true) a else tb σ a Q:=rfl
def  eK{k:List V->Hp->Prop}:tNil σ H k=k [] H:=rfl
def  cM{a:TA}{k:List V->Hp->Prop}:tCons ta a σ H k=ta σ H λx b=>a σ b λxs c=>k (x::xs) c:=rfl
def  gH{r:List V->Hp->VK->Prop}{a:TA}:tCB r a σ H Q=a σ H λvs b=>r vs b Q:=rfl
def  cY{sp:Sp}{a:List V}{E:XK}{b:TA}:tCall sp a E b σ H Q=b σ H λvs c=>sp (vs++a) c Q E:=rfl
def  eQ{b:TA}:tTup b σ H Q=b σ H λxs a=>xs.length<=sizeLine/\∀ p,a p=none->Q (.ref p) (upd a p<|.tup xs):=rfl
def  dU{b:TA}:tLst b σ H Q=b σ H λxs a=>xs.length<=sizeLine/\∀ p,a p=none->Q (.ref p) (upd a p<|.lst xs):=rfl
def  gI{K:Frag}{T:String}{r:V->List V->Hp->VK->Prop}{b:TA}:tBM K T r ta b σ H Q=ta σ H λx a=>tyV K T x a/\b σ a λxs c=>r x xs c Q:=rfl
def  eV{K:Frag}{T:String}{r:V->List V->Hp->VK->Prop}:DY K T r ta σ H Q=ta σ H λx a=>tyV K T x a/\r x [] a Q:=rfl
def  cF:tTrue σ H R=R true H:=rfl
def  cZ:N5 σ H Q=∀ p,H p=none->Q (.ref p) (upd H p<|.dK []):=rfl
def  c5{e c b:TE}:sDPut e c b D σ H=b σ H λv h=>e σ h λx f=>c σ f λy g=>∃ a d,x=.ref a/\DPut g a y v d/\D.nx σ d:=rfl
def  eX{i j:Int}:cAdd (.int i) (.int j) H Q=Q (.int<|i+j) H:=rfl
def  e6{i j:Int}:cSub (.int i) (.int j) H Q=Q (.int<|i-j) H:=rfl
def  e7{i j:Int}:cMul (.int i) (.int j) H Q=(CMul i j/\Q (.int<|i*j) H):=rfl
def  e8{i j:Int}:cDiv (.int i) (.int j) H Q=(CDiv i j/\Q (.int<|i/j) H):=rfl
def  fe{i j:Int}:cMod (.int i) (.int j) H Q=(0<j/\Q (.int<|i%j) H):=rfl
def  fg{g:Int->Int->Bool}{i j:Int}:cCmp g (.int i) (.int j) H Q=Q (.bl<|g i j) H:=rfl
def  fh{K:Frag}{i j:Int}:cEq K (.int i) (.int j) H Q=Q (.bl<|decide<|i=j) H:=rfl
def  fj{K:Frag}{i j:Int}:cNe K (.int i) (.int j) H Q=Q (.bl<|!decide (i=j)) H:=rfl
def  fk{K:Frag}{i j:Bool}:cEq K (.bl i) (.bl j) H Q=Q (.bl<|decide<|i=j) H:=rfl
def  fm{K:Frag}{i j:Bool}:cNe K (.bl i) (.bl j) H Q=Q (.bl<|!decide (i=j)) H:=rfl
def K8{p:Addr}{i:Int}{xs:List V}(h:H p=some (.tup xs)):cIx (.ref p) (.int i) H Q=bnd (atI xs i) λv=>Q v H:=by
 unfold cIx;dsimp only;rw[h];rfl
def Ps{p:Addr}{i:Int}{xs:List V}(h:H p=↥xs):cIx (.ref p) (.int i) H Q=bnd (atI xs i) λv=>Q v H:=by
 unfold cIx;dsimp only;rw[h];rfl
def  fo{i:Int}:kAbs [.int i] H Q=Q (.int (if i<0 then -i else i)) H:=rfl
def  fq{i j:Int}:kMin [.int i,.int j] H Q=Q (.int (if j<i then j else i)) H:=rfl
def bh{p:Addr}{xs:List V}(h:H p=↥xs):kLen [.ref p] H Q=Q (.int xs.length) H:=by
 unfold kLen;dsimp only;rw[h];rfl
def o7{p:Addr}{xs:List V}(h:H p=some (.tup xs)):kLen [.ref p] H Q=Q (.int xs.length) H:=by
 unfold kLen;dsimp only;rw[h];rfl
def gJ{p:Addr}{xs:List V}{y:V}(h:H p=↥xs):fJ (.ref p) [y] H Q=(xs.length<sizeLine/\Q .non (upd H p<|.lst<|xs++[y])):=by
 unfold fJ;dsimp only;rw[h];rfl
def uK:∀ ns:∅,(ns.map V.int).all flatV=true
 | []=>rfl
 | n::r=>by rw[T7,Wq,uK r];rfl
def yb(i:Int):∀ ns:∅,inV (.int i) (ns.map V.int)=decide (i∈ns)
 | []=>by simp[inV]
 | n::r=>by
  have a:=yb i r;unfold inV at a ⊢;rw[T7,VA,a];change((n==i)||decide (i∈r))=decide (i∈n::r);rw[Up,Uw,Vz,Tt,Tt,TN];show(λh=>h.elim (λe=>.inl e.symm) .inr,λh=>h.elim (λe=>.inl e.symm) .inr)
def HY{K:Frag}{p:Addr}{i:Int}{ns:∅}(h:H p=↥(ns.map V.int)):cIn K false (.int i) (.ref p) H Q=Q (.bl<|decide<|i∈ns) H:=by
 unfold cIn;dsimp only;rw[h];dsimp only[unD,unS,bnd];rw[yb,uK];simp[flatV]
def HZ{K:Frag}{p:Addr}{i:Int}{ns:∅}(h:H p=↥(ns.map V.int)):cIn K true (.int i) (.ref p) H Q=Q (.bl<|!decide (i∈ns)) H:=by
 unfold cIn;dsimp only;rw[h];dsimp only[unD,unS,bnd];rw[yb,uK];simp[flatV]
end
def  LoopR(J:It)(g:TG)(d:TS)(D:Ends)(σ:St)(h:Hp):Prop:=∃ W:Nat->Nat->St->Hp->Prop,(∃ m,W 0 m σ h)/\∀ i m σ H,W i m σ H->
 (J.stop i H/\D.nx σ H)\/(J.go i H/\∃ N:St->Hp->Prop,(∀ b a,N b a->∃ c,c<m/\W (i+1) c b a)/\∀ x a,J.yld i H x a->g x σ a λe f=>d {D with nx:=N,ct:=N,bk:=D.nx} e f)
def  CompR(J:It)(g:TG)(r:TT)(te:TE)(f:Addr->Hp->Prop)(t:St)(q:Hp):Prop:=∀ l,q l=none->
 ∃ W:Nat->Nat->St->Hp->Prop,(∃ m,W 0 m t<|upd q l<|.lst [])/\∀ i m n c,W i m n c->
  (J.stop i c/\f l c)\/(J.go i c/\∃ N:St->Hp->Prop,(∀ d a,N d a->∃ o,o<m/\W (i+1) o d a)/\∀ x k,J.yld i c x k->g x n k λe s=>r e s λb p=>
   if b=true then te e p λy j=>∃ h,j l=↥h/\h.length<sizeLine/\N e (upd j l<|.lst<|h++[y]) else N e p)
section
variable{K:Frag}{g:TG}{tb:TS}{D:Ends}{σ:St}{H:Hp}{tl:TE}{ta:TA}{ix:List (Option Nat)}{tt:TT}{te:TE}{k:Nat}{Q:VK}
def  c6:tFor (iList K tl) g tb D σ H=tl σ H λx b=>∃ a,x=.ref a/\(∃ xs,SqL K b a xs)/\LoopR (Itl K a) g tb D σ b:=rfl
def  b4:tFor (kA ta) g tb D σ H=ta σ H λvs a=>∃ j:Int,vs=[.int j]/\ -(2^62)<=j/\j<2^62/\LoopR (Itr 0 j.toNat) g tb D σ a:=rfl
def  b7:tFor (sO ta) g tb D σ H=ta σ H λvs a=>∃ i j:Int,vs=[.int i,.int j]/\(-(2^62)<=i/\i<2^62/\ -(2^62)<=j/\j<2^62)/\LoopR (Itr i (j-i).toNat) g tb D σ a:=rfl
def  bR:tComp ix (iList K tl) g tt te σ H Q=tl σ H λx b=>∃ a,x=.ref a/\(∃ xs,SqL K b a xs)/\CompR (Itl K a) g tt te (λl c=>Q (.ref l) c) (subσ ix σ) b:=rfl
def  bJ:tComp ix (kA ta) g tt te σ H Q=ta σ H λvs a=>∃ j:Int,vs=[.int j]/\ -(2^62)<=j/\j<2^62/\CompR (Itr 0 j.toNat) g tt te (λl b=>Q (.ref l) b) (subσ ix σ) a:=rfl
def  bK:sComp k ix (iList K tl) g tt te D σ H=tl σ H λx b=>∃ a,x=.ref a/\(∃ xs,SqL K b a xs)/\CompR (Itl K a) g tt te (λl c=>D.nx (σ.set k ↑l) c) (subσ ix σ) b:=rfl
def  bA:sComp k ix (kA ta) g tt te D σ H=ta σ H λvs a=>∃ j:Int,vs=[.int j]/\ -(2^62)<=j/\j<2^62/\CompR (Itr 0 j.toNat) g tt te (λl b=>D.nx (σ.set k ↑l) b) (subσ ix σ) a:=rfl
def zh {lo:Int} {n:Nat} {f:Addr->Hp->Prop} {o:St} {h:Hp} (a:Addr->Nat->St->Hp->Prop) (h0:∀ l,h l=none->a l 0 o (upd h l<|.lst []))
  (s:∀ l i σ H,h l=none->i<n->a l i σ H->g (.int<|lo+i) σ H λj r=>tt j r λb q=>if b=true then te j q λy k=>∃ ys,k l=↥ys/\ys.length<sizeLine/\a l (i+1) j (upd k l<|.lst<|ys++[y]) else a l (i+1) j q)
  (t:∀ l σ H,h l=none->a l n σ H->f l H):CompR (Itr lo n) g tt te f o h:=by
 intro l c;show(λi m σ H=>m=n-i/\i<=n/\a l i σ H,(n,by simp,UK _,h0 l c),?_);rintro i m σ H ⟨rfl,z,p⟩;by_cases d:i<n
 . show .inr (d,a l<|i+1,λw u v=>(n - (i+1),by lia,rfl,d,v),λx u y=>?_);obtain⟨e,y⟩:=y;subst e y;show s l i σ _ c d p
 . have e:i=n:=by lia
   subst e;show .inl (TQ _,t l σ H c p)
def mV {a:Addr} {xs:List V} {h:Addr->Hp->Prop} {o:St} {f:Hp} (d:Addr->Nat->St->Hp->Prop) (h0:∀ l,f l=none->d l 0 o (upd f l<|.lst [])) (A:∀ l i σ H,f l=none->i<=xs.length->d l i σ H->SqL K H a xs)
  (u:∀ l i x σ H,f l=none->xs[i]? =some x->d l i σ H->g x σ H λk t=>tt k t λb r=>if b=true then te k r λy n=>∃ ys,n l=↥ys/\ys.length<sizeLine/\d l (i+1) k (upd n l<|.lst<|ys++[y]) else d l (i+1) k r)
  (v:∀ l σ H,f l=none->d l xs.length σ H->h l H):CompR (Itl K a) g tt te h o f:=by
 intro l c;show(λi m σ H=>m=xs.length-i/\i<=xs.length/\d l i σ H,(xs.length,by simp,UK _,h0 l c),?_);rintro i m σ H ⟨rfl,w,p⟩;have q:=A l i σ H c w p;by_cases j:i<xs.length
 . show .inr ((xs,xs[i],q,by simp[j]),d l<|i+1,λB z s=>(xs.length - (i+1),by lia,rfl,j,s),λx z y=>?_);obtain⟨e,y⟩:=y;subst e;show u l i x σ _ c (y xs q) p
 . have e:i=xs.length:=by lia
   subst e;show .inl ((xs,q,TQ _),v l σ H c p)
def wa{p q:Addr}{xs ys:∅}(a:H p=↥(xs.map V.int))(b:H q=↥(ys.map V.int))(h:Q (.bl<|decide<|xs=ys) H):cEq K (.ref p) (.ref q) H Q:=by
 change rEqD K (.ref p) (.ref q) H Q;show(.list<|xs.map PyData.int,.list<|ys.map PyData.int,.lst (TW a)<|.ints xs,.lst (TW b)<|.ints ys,mM xs,mM ys,?_);rw[PyData.eqv,xZ];show h
def zi{p q:Addr}{xs ys:∅}(a:H p=↥(xs.map V.int))(b:H q=↥(ys.map V.int))(h:Q (.bl<|!decide (xs=ys)) H):cNe K (.ref p) (.ref q) H Q:=by
 change rNeD K (.ref p) (.ref q) H Q;show(.list<|xs.map PyData.int,.list<|ys.map PyData.int,.lst (TW a)<|.ints xs,.lst (TW b)<|.ints ys,mM xs,mM ys,?_);rw[PyData.eqv,xZ];show h
def K9{p:Addr}{ns:∅}(b:H p=↥(ns.map V.int))(c:ns.length<64)(h:∀(a:∅) l,H l=none->a.Perm ns->a.Pairwise (· <=·)->Q (.ref l) (upd H l<|.lst<|a.map V.int)):ke [.ref p] H Q:=by
 unfold ke;dsimp only;rw[b];show(ns,rfl,c,h)
def o8{p:Addr}{xs:List V}(a:H p=↥xs)(h:∀ l,H l=none->Q (.ref l) (upd H l<|.lst xs)):kList [.ref p] H Q:=by
 unfold kList;dsimp only;rw[a];show h
def Ia{p q:Addr}{xs ys:List V}(a:H p=↥xs)(c:H q=↥ys)(b:xs.length+ys.length<=1000)(h:∀ l,H l=none->Q (.ref l) (upd H l<|.lst<|xs++ys)):cAdd (.ref p) (.ref q) H Q:=by
 change bnd (unM<|H p) _;rw[a];change bnd (unM<|H q) _;rw[c];show(Uy<|aH b,h)
end
def aB{X:Cx}{N:List Str}{ix:List (Option Nat)}{scope:Scope}(h1:scope.kind=.function)(h2:(scope.names.map (·.1)).Nodup)(h3:(scope.names.all λp=>p.2 != .free||isCF (X.env.kindOf p.1))=true)(h4:N=compN scope)(h5:ix=zg X.N scope):BlkOk X N ix scope:=by
 subst h4 h5;show Oc h1 h2 h3
def  kLenS(K:Frag):List V->Hp->VK->Prop:=λxs H Q=>∃ p a,xs=[.ref p]/\(SqL K H p a\/SqT K H p a)/\Q (.int a.length) H
structure Bt(mg:Str->Option Value):Prop where
 len_:mg "len"=none
 abs_:mg "abs"=none
 min_:mg "min"=none
 max_:mg "max"=none
 sorted_:mg "sorted"=none
 any_:mg "any"=none
 isinstance_:mg "isinstance"=none
 list_:mg "list"=none
 int_:mg "int"=none
 bool_:mg "bool"=none
 str_:mg "str"=none
 tuple_:mg "tuple"=none
 reversed_:mg "reversed"=none
 set_:mg "set"=none
 range_:mg "range"=none
 zip_:mg "zip"=none
def Vals.get':∀{xs:List V} {us:List Value} {i:Nat} {u:Value},Vals xs us->us[i]? =some u->∃ x,xs[i]? =some x/\RelV x u
 | _,_,_,_,.nil,h=>by simp at h
 | _,_,0,_,.cons r _,h=>by simp at h;subst h;show(_,rfl,r)
 | _,_,i+1,_,.cons _ t,h=>by
  obtain⟨x,a,r⟩:=Vals.get' (i:=i) t (by simpa using h);show(x,by simpa using a,r)
section
variable{X:Cx}{Tc:List (Addr × Obj)}{σ:St}{H:Hp}{s s':Shared}
def  Inv.kept'(I:Inv X Tc σ H s)(k:∀ b u,s.heap.get? b=some u->s'.heap.get? b=some u)(c:s'.os=s.os)(a:AllBare s'.gens):Inv X Tc σ H s':=
 I.call' (ch:=[]) c (Un.kept k) (I.hok.kept k) a λb z=>absurd z (by simp)
def Inv.walked{l:Addr}{o:Obj}(I:Inv X Tc σ H s)(c:Moved [s.heap.objs.size] (λa b=>b=a) {s with heap:=s.heap.push o} s'):Inv X Tc σ H s':=by
 show I.kept' (λb u e=>c.heap b u (λz=>?_)<|TY _ e) c.os (by rw[show s'.gens=s.gens from c.gens];show I.bare);have:b=s.heap.objs.size:=by simpa using z
 show absurd (Ug e) (by rw[this];show UY _)
def  kAny:List V->Hp->VK->Prop
 | [.ref p],H,Q=>bnd (unL<|H p) λys=>∃ bs:List Bool,ys=bs.map V.bl/\Q (.bl<|bs.any id) H
 | _,_,_=>False
def JB(bs:List Bool):(List.range bs.length).any (λi=>bs.getD i false)=bs.any id:=by
 rw[Up,Vo,Vo];constructor
 . rintro⟨i,c,h⟩;have a:i<bs.length:=TC.mp c;show(bs[i],T0 a,by simpa [List.getD,a] using h)
 . rintro⟨b,d,h⟩;obtain⟨i,c,e⟩:=Vy.mp d;show(i,TC.mpr c,?_);have f:b=true:=h;rw[List.getD,To c,e];show f
def Cn(n:X.calm=true):CallR X (.builtin "any") kAny:=by
 intro Tc s σ H xs J Q I r h;unfold kAny at h
 split at h
 . rename_i p
   obtain⟨F,e,a,rfl,q⟩:=bu h;obtain⟨u,rfl,t⟩:=fU r;cases t;obtain⟨c,j,d,D⟩:=I.list<|rE e;have g:=j.length;rw[Tn]at g
   have f:p<s.heap.objs.size:=by
    obtain⟨o,h1,_⟩:=d.isList;show Ug h1
   show call_any_walkS<|VQ d.isList ?_;show(s.heap.objs.size,_,_,_,c.toArray.size,_,_,λi=>a.getD i false,rfl,(XQ (A:=X.A.in1) (I.ok.hd n) s.heap.objs.size p (Uv f) c.toArray).toS,((_,Ur _ rfl,rfl,rfl),d.isList.push _),?_,λs' C=>?_)
   . intro i v s1 E G B z;have y:c[i]? =some v:=by simpa using B
     obtain⟨x,m,w⟩:=j.get' y;obtain⟨b,hb,rfl⟩:∃ b,a[i]? =some b/\V.bl b=x:=by simpa using m
     cases w;show Vh ?_;have k:a.getD i false=b:=by simp[List.getD,hb]
     rw[← k];show z
   . show(.bl _,H,I.walked (l:=p) C,?_,q);have e2:c.toArray.size=a.length:=by rw[T1];show g.symm
     rw[e2,JB];rfl
 . show h.elim
def  kE(K:Frag):V->List V->Hp->VK->Prop
 | .ref p,[y],H,Q=>∃(a:List PyData) (d:PyData) (j:Nat),DV K H (.ref p) (.list a)/\DV K H y d/\PyData.canLayAll0 a=true/\PyData.canLay0 d=true/\min (PyData.depthAll a) d.depth<=62/\
   j<=1000/\(∃ e,a[j]? =some e/\PyData.eqv e d=true)/\(∀ m e,m<j->a[m]? =some e->PyData.eqv e d=false)/\Q (.int j) H
 | _,_,_,_=>False
def kg(T:X.A.units+64<cLine):MtR X "list.index" (kE X.K):=by
 intro Tc s σ H x vs v W Q I i M h;unfold kE at h
 split at h
 . rename_i p y
   obtain⟨w,d,j,N,J,z,D,t,R,⟨e,B,L⟩,k,q⟩:=h;cases i;obtain⟨u,rfl,E⟩:=fU M;obtain⟨U,C⟩:=N.reads I rfl;obtain⟨P,i⟩:=J.reads I E
   cases C with
   | @list _ o f n _ _ h1 h2 h3 h4=>
    obtain⟨S,G,O,l⟩:=o;dsimp only at h2 h3;subst h2 h3;have a:=SeqAt.readsAll_map w _ _ z h4
    have c:∀(m:Nat) (g:m<f.size),w[m]? =some (SeqAt.readOf s.heap f[m]):=λm g=>by
     rw[← a,Tw,XH,WW g];rfl
    have b:j<f.size:=by
     have:=(Tr.mp B).1;rw[← a,Tn,V4]at this;show this
    show VB F.slot_list_index (_,h1,rfl) F.entry_list_index (F.args_list_index_2 _ _) (SeqAt.list_indexAt p f n G l u (λy=>PyData.eqv (SeqAt.readOf s.heap y) d) j b #[4] ?_ ?_) (h1,SeqAt.items_eqAt h4 i z D ?_,(.int j,H,I.tok _,(_,rfl),q))
    . have:=c j b;rw[B]at this;cases this;show L
    . intro m g r;show k m _ r (c m g)
    . lia
 . show h.elim
def  Itz(K:Frag)(a b:Addr):It:=
 (λi H=>∃ xs c x y,SqL K H a xs/\SqL K H b c/\xs[i]? =some x/\c[i]? =some y,
  λi H v d=>∃ T x y,v=.ref T/\H T=none/\d=upd H T (.tup [x,y])/\(∀ xs,SqL K H a xs->xs[i]? =some x)/\∀ c,SqL K H b c->c[i]? =some y,
  λi H=>∃ xs c,SqL K H a xs/\SqL K H b c/\(xs.length<=i\/c.length<=i))
def be{h:Heap}{a b:Addr}{o u:Obj}{c d:String}(i:h.get? a=some o)(e:h.get? b=some u)(g:o.cls=.type c)(f:u.cls=.type d)(j:c≠d):a≠b:=by
 rintro rfl;rw[i]at e;cases e;rw[g]at f;cases f;show j rfl
def  ZSt(a b z f d c e:Addr)(i:Nat)(h:Heap):Prop:=IsZip h z f d .none/\IsPair h f (.ref c) (.ref e)/\(∃ u v,IsPair h d u v)/\h.IsListIter c a i/\h.IsListIter e b i
def  La{P:Program}{w:World}{K:Frag}{es:List Expr}{x1:Nat}{pos:Pos}(a b z TI A t B:Addr)(dT:TI≠A)(d1:t≠B):
  Turn P w K (.Tuple es x1 pos) (Itz K a b) [z,TI,A,t,B] z (ZSt a b z TI A t B) where
 mem:=by simp
 obj:=λi h F c j=>by
  obtain⟨m,l,⟨u,v,f⟩,⟨o1,e1,r,J⟩,⟨o2,e2,q,U⟩⟩:=F;simp only[TN,UD,Vr]at j;rcases j with rfl | rfl | rfl | rfl | rfl
  . show(_,m,λv z=>by have z':Data.fields _=Data.cell v:=z;cases z')
  . show(_,l,λv z=>by have z':Data.seq _ _=Data.cell v:=z;cases z')
  . show(_,f,λv z=>by have z':Data.seq _ _=Data.cell v:=z;cases z')
  . show(_,e1,λv z=>by rw[J]at z;cases z)
  . show(_,e2,λv z=>by rw[U]at z;cases z)
 keep:=λi h h' F k=>by
  obtain⟨m,l,⟨u,v,f⟩,h1,h2⟩:=F;show(k z (by simp) _ m,k TI (by simp) _ l,(u,v,k A (by simp) _ f),h1.at λo e=>k t (by simp) o e,h2.at λo e=>k B (by simp) o e)
 item:=by
  intro X hP hw hK j i Tc s σ H E I hf F hg;subst hP hw hK;obtain⟨xs,ys,x,y,C,O,p,hy⟩:=hg;obtain⟨S,ab,p1,ao⟩:=I.list C;obtain⟨T,Z,p2,W⟩:=I.list O;obtain⟨u1,af,aj⟩:=ab.get p;obtain⟨u2,am,al⟩:=Z.get hy;obtain⟨m,l,⟨u,v,f⟩,⟨o1,e1,r,J⟩,⟨o2,e2,q,U⟩⟩:=id F;obtain⟨oa,N,R,_⟩:=p1.isList;obtain⟨ob,Q,L,_⟩:=p2.isList
  have D:ZipApart z TI A t B a b:=(be l m rfl rfl #[1],be f m rfl rfl #[1],be e1 m r rfl #[1],be e2 m q rfl #[1],dT,be l e1 rfl r #[1],be l e2 rfl q #[1],be f e1 rfl r #[1],be f e2 rfl q #[1],d1,
   be N m R rfl #[1],be N f R rfl #[1],be N e1 R r #[1],be N e2 R q #[1],be Q m L rfl #[1],be Q f L rfl #[1],be Q e1 L r #[1],be Q e2 L q #[1])
  show wpAny_pyNext_zip_item D m l f (o1,e1,r,J) (o2,e2,q,U) p1.isList p2.isList (x:=u1) (y:=u2) (by simpa using af) (by simpa using am) λh' a1 a2 a3 a4 a5 a6 hk=>?_;show(_,rfl,wpAny_letOwnedTupleGo_zip a1 λh2 W sb=>?_);have hT:H s.heap.objs.size=none:=I.fresh;have lt:∀{c o},s.heap.get? c=some o->c≠s.heap.objs.size:=λe=>Uv (Ug e)
  have G:∀ c o,c∉[z,A,t,B]->s.heap.get? c=some o->h2.get? c=some o:=λc o j e=>by
   simp only[TN,UD,Vr,not_or]at j;show sb.extBut _ _ j.1 (hk c o j.1 j.2.1 j.2.2.1 j.2.2.2 e)
  have ag:s.heap.objs.size≠z:=(lt m).symm;have gT:h2.get? s.heap.objs.size=some {cls:=.type "tuple",data:=.seq #[u1,u2]}:=sb.extBut _ _ ag a5;have nH:∀ c∈[z,A,t,B],H c=none:=λc j=>(hf c (by simp only[TN,UD,Vr]at j ⊢;rcases j with h | h | h | h <;> simp[h])).1;show(.ref s.heap.objs.size,upd H s.heap.objs.size<|.tup [x,y],I.call' (s':={s with heap:=h2}) (ch:=[z,A,t,B]) rfl (λc o e n _ p=>G c o p e,λc o e n _ p=>(o.slots,G c o p e),λc o e n _=>by rw[ak<|lt e];show n,λc o e p=>(o,G c o p e),λc xs e=>by rw[ak<|aF e hT];show e,λc o u e=>by rw[ak<|aF e hT];show e,λc ps e=>(#[],by rw[ak<|aF e hT,e];simp)) ?_ I.bare ?_,rfl,(_,x,y,rfl,hT,rfl,λzs Y=>by rw[I.list_inj Y C];show p,λzs Y=>by rw[I.list_inj Y O];show hy),?_,?_)
  . intro c ob e;by_cases hb:c=s.heap.objs.size
    . subst hb;rw[ah]at e;cases e;show(by change(2:Nat)<=sizeLine;show Uy<|aH #[1],[u1,u2],.cons aj<|.cons al .nil,(_,gT,rfl,_,rfl))
    . rw[ak hb]at e;show(I.hok c ob e).stay (λd w' M g=>G d w' ?_ g) (λd g=>by rw[ak<|aF g hT];show g) λd xs g=>by rw[ak<|aF g hT];show g
      intro hm;rcases M with rfl | M
      . rw[nH _ hm]at e;cases e
      . rw[nH _ hm]at M;cases M
  . intro c j;obtain⟨f0,J,U,f3,f4,f5⟩:=hf c (by simp only[TN,UD,Vr]at j ⊢;rcases j with h | h | h | h <;> simp[h]);show(f3,J,f4,f5)
  . show(W,sb.extBut _ _ D.TIz<|hk _ _ D.TIz D.TITO D.TIi1 D.TIi2 l,(_,_,sb.extBut _ _ D.TOz a2),a3.extBut sb.extBut D.i1z,a4.extBut sb.extBut D.i2z)
  . intro c j
    obtain⟨o,e,_⟩:∃ o,s.heap.get? c=some o/\True:=by
     simp only[TN,UD,Vr]at j;rcases j with rfl | rfl | rfl | rfl | rfl
     . show(_,m,trivial)
     . show(_,l,trivial)
     . show(_,f,trivial)
     . show(_,e1,trivial)
     . show(_,e2,trivial)
    rw[ak<|lt e];show(hf c j).1
 done:=by
  intro X hP hw hK j i Tc s σ H E I hf F hg;subst hP hw hK;obtain⟨xs,ys,C,O,p⟩:=hg;obtain⟨S,ab,p1,ao⟩:=I.list C;obtain⟨T,Z,p2,W⟩:=I.list O;have aq:=ab.length;have ap:=Z.length;obtain⟨m,l,⟨u,v,f⟩,⟨o1,e1,r,J⟩,⟨o2,e2,q,U⟩⟩:=id F;obtain⟨oa,N,R,_⟩:=p1.isList;obtain⟨ob,Q,L,_⟩:=p2.isList
  have D:ZipApart z TI A t B a b:=(be l m rfl rfl #[1],be f m rfl rfl #[1],be e1 m r rfl #[1],be e2 m q rfl #[1],dT,be l e1 rfl r #[1],be l e2 rfl q #[1],be f e1 rfl r #[1],be f e2 rfl q #[1],d1,
   be N m R rfl #[1],be N f R rfl #[1],be N e1 R r #[1],be N e2 R q #[1],be Q m L rfl #[1],be Q f L rfl #[1],be Q e1 L r #[1],be Q e2 L q #[1])
  have ae:S.toArray[i]? =none\/T.toArray[i]? =none:=by
   rcases p with h | h
   . show .inl (by simp;omega)
   . show .inr (by simp;omega)
  show wpAny_pyNext_zip_end (I.ok.hd j) D m l f (o1,e1,r,J) (o2,e2,q,U) p1.isList p2.isList ae λh' hk=>(rfl,?_)
  have G:∀ c o,c∉[z,A,t,B]->s.heap.get? c=some o->h'.get? c=some o:=λc o j e=>by
   simp only[TN,UD,Vr,not_or]at j;show hk c o j.1 j.2.1 j.2.2.1 j.2.2.2 e
  have nH:∀ c∈[z,A,t,B],H c=none:=λc j=>(hf c (by simp only[TN,UD,Vr]at j ⊢;rcases j with h | h | h | h <;> simp[h])).1;show I.call' (s':={s with heap:=h'}) (ch:=[z,A,t,B]) rfl (λc o e n _ p=>G c o p e,λc o e n _ p=>(o.slots,G c o p e),λc o e n _=>n,λc o e p=>(o,G c o p e),λc xs e=>e,λc o u e=>e,λc ps e=>(#[],by rw[e];simp)) ?_ I.bare ?_
  . intro c ob e;show(I.hok c ob e).stay (λd w' M g=>G d w' ?_ g) (λd g=>g) λd xs g=>g;intro hm;rcases M with rfl | M
    . rw[nH _ hm]at e;cases e
    . rw[nH _ hm]at M;cases M
  . intro c j;obtain⟨f0,J,U,f3,f4,f5⟩:=hf c (by simp only[TN,UD,Vr]at j ⊢;rcases j with h | h | h | h <;> simp[h]);show(f3,J,f4,f5)
 self:=λ_ _ _ _ _ F h=>wpAny_pyIter_zip F.1 h
def  iZip(K:Frag)(d:TA):TI:=λσ H R=>d σ H λvs c=>∃ a b,vs=[.ref a,.ref b]/\(∃ xs,SqL K c a xs)/\(∃ e,SqL K c b e)/\R (Itz K a b) c
def Od:bootBuiltins "zip"=some (.type "zip"):=by decide+kernel
def  Oe{O:List Expr}{A:Nat}{f:Pos}{e1 e2:Expr}{n:TA}{p pos:Pos}(D:Gl X "zip")(N:X.mg "zip"=none)(G:PA X [e1,e2] n)(x:starEach [e1,e2] X.env=[(false ,eval e1 X.env),(false ,eval e2 X.env)]:=by rfl)(e:starEach [e2] X.env=[(false ,eval e2 X.env)]:=by rfl):
  PI X (.Tuple O A f) (.Call (.Name "zip" p) [e1,e2] [] pos) (iZip X.K n):=by
 intro Tc s σ H R I h;show Call_ (fY I D N Od<|Uz (thn (G pos Tc s σ H _ I h) λus s1 ⟨vs,u,d,r1,Q⟩=>?_) (by rw[x,e]) (by rw[e];rfl));obtain⟨a,b,rfl,⟨xs,i⟩,⟨Z,j⟩,q⟩:=Q;obtain⟨W,U,rfl,l,k⟩:=L4 r1;cases l;cases k;obtain⟨m,L,y,T⟩:=d.list i;obtain⟨t,E,F,w⟩:=d.list j;show call_zip_2 y.isList F.isList λM r v P C J Y S=>?_;show wpAny_pyIter_zip r ?_;have B:Inv X Tc σ u {s1 with heap:=M,toks:=s1.toks}:=d.kept S;show(s1.heap.objs.size+4,[s1.heap.objs.size+4,s1.heap.objs.size+2,s1.heap.objs.size+3,s1.heap.objs.size,s1.heap.objs.size+1],ZSt a b (s1.heap.objs.size+4) (s1.heap.objs.size+2) (s1.heap.objs.size+3) s1.heap.objs.size<|s1.heap.objs.size+1,Itz X.K a b,u,rfl,B,La a b (s1.heap.objs.size+4) (s1.heap.objs.size+2) (s1.heap.objs.size+3) s1.heap.objs.size (s1.heap.objs.size+1) (λz=>by have:s1.heap.objs.size+2=s1.heap.objs.size+3:=z;omega) (λz=>by have:s1.heap.objs.size=s1.heap.objs.size+1:=z;omega),(r,v,(_,_,P),C,J),λc o=>?_,q)
 have g:s1.heap.objs.size<=c:=by
  simp only[TN,UD,Vr]at o;rcases o with rfl | rfl | rfl | rfl | rfl <;> omega
 show d.fpOk g (d.hok.fresh g)
end
open Builtin Builtin.Str
def A8:∀{ts:List Str} {us:List Value},Vals (ts.map V.str) us->∃ l:List (Str × Tok),us=strValues l/\l.map (·.1)=ts
 | [],_,.nil=>([],rfl,rfl)
 | t::ts,_,.cons r rs=>by
  obtain⟨l,rfl,e⟩:=A8 (ts:=ts) rs;obtain⟨u,rfl⟩:=r;show((t ,u)::l,rfl,by rw[T7,e])
def Co:∀(l:List (Str × Tok)),Vals ((l.map (·.1)).map V.str) (strValues l)
 | []=>.nil
 | (t ,u)::l=>.cons (u,rfl) (Co l)
section
variable{X:Cx}
def  kFind:V->List V->Hp->VK->Prop
 | .str x,[.str y],H,Q=>Q (.int<|Txt.find x y) H
 | _,_,_,_=>False
def  zj:V->List V->Hp->VK->Prop
 | .str x,[.str y],H,Q=>(y.length==0)=false/\x.length<=sizeLine/\(Txt.split x y).length<=sizeLine/\∀ l,H l=none->Q (.ref l) (upd H l<|.lst<|(Txt.split x y).map V.str)
 | _,_,_,_=>False
def JC:MtR X "str.split" zj:=by
 intro j s σ H x vs v p Q I i n h;unfold zj at h
 split at h
 . rename_i x y
   obtain⟨t,rfl⟩:=i;obtain⟨u,rfl,o⟩:=fU n;obtain⟨c,rfl⟩:=o;obtain⟨d,m,g,q⟩:=h
   have a:∀(l:List (Str × Tok)) (k:Nat),l.map (·.1)=Txt.split x y->EP X j σ Q (.ref s.heap.objs.size) {s with heap:=s.heap.push {cls:=.type "list",data:=.seq (strValues l).toArray},toks:=k}:=λl k e=>by
    show(.ref s.heap.objs.size,_,I.lnew (t':=k) (ys:=(Txt.split x y).map V.str) (Tg:=strValues l) ?_ (by rw[Tn];show g),rfl,q _ I.fresh);rw[← e];show Co l
   cases h1:(decide (x.length<y.length)||decide (strKind x<strKind y))
   . cases b:(occurrences x y 0 x.length<|x.length+1).isEmpty
     . have f:Txt.split x y=partsBetween x (occurrences x y 0 x.length<|x.length+1) y.length:=(TX<|WH h1).trans<|TX<|WH b;show VB Xj (Wo _ _ _) WZ (WR _ _) (meets_str_split_sep x y t c h1 d b m (by rw[← f];show g)) ?_;change wants _ _ _ {s with toks:=_,heap:=s.heap.push {cls:=.type "list",data:=.seq (strsFrom s.toks<|partsBetween x (occurrences x y 0 x.length<|x.length+1) y.length).toArray}};rw[strsFrom_eq];show a (numbered s.toks _) _ ((numbered_texts _ _).trans f.symm)
     . show VB Xj (Wo _ _ _) WZ (WR _ _) (meets_str_split_not_found x y t c h1 d b)
        (a [(x ,t)] s.toks ((TX<|WH h1).trans<|TZ b).symm)
   . show VB Xj (Wo _ _ _) WZ (WR _ _) (meets_str_split_cannot_occur x y t c h1)
      (a [(x ,t)] s.toks (TZ h1).symm)
 . show h.elim
def  kF:V->Option Int->Option Int->Hp->VK->Prop
 | .ref p,lo,hi,H,Q=>cSl (.ref p) lo hi H Q
 | .str z,lo,hi,H,Q=>z.length<=sizeLine/\Q (.str<|Txt.slice z lo hi) H
 | _,_,_,_,_=>False
def mN:SlR X kF:=by
 intro r s σ H x v B y e g A Q I n b w d h
 cases x with
 | ref p=>show PV r s σ H _ v B y e g A Q I n b w d h
 | str z=>
  obtain⟨c,q⟩:=(show z.length<=sizeLine/\Q (.str<|Txt.slice z e g) H from h);obtain⟨t,rfl⟩:=n;have a:∀ f k,EP X r σ Q (.str (Txt.slice z e g) f) {s with toks:=k}:=λf k=>(.str _,H,I.tok k,(f,rfl),q);show("str",_,F.slot_str_getitem.lookup,Wo _ _ _,?_)
  cases w with
  | none=>
   cases d with
   | none=>show VH (l:=none) (u:=none) (st:=none) b rfl (WB (TU (Xt z _ _) c,a))
   | int j m=>show VH (l:=none) (u:=some (j ,m)) (st:=none) b rfl (WB (TU (Xt z _ _) c,a))
  | int i o=>
   cases d with
   | none=>show VH (l:=some (i ,o)) (u:=none) (st:=none) b rfl (WB (TU (Xt z _ _) c,a))
   | int j m=>show VH (l:=some (i ,o)) (u:=some (j ,m)) (st:=none) b rfl (WB (TU (Xt z _ _) c,a))
 | _=>show False.elim h
def  Its(x:Str):It:=(λi _=>i<x.cps.size,λi H v a=>a=H/\∃ c,x.cps[i]? =some c/\v=.str ⟨#[c]⟩,λi _=>x.cps.size<=i)
def  Ef {P:Program} {w:World} {K:Frag} {Y:Expr} {x:Str} {t:Tok} (it:Addr) (n:String) (R:["enumerate","zip","dict_itemiterator","dict_reverseitemiterator","odict_iterator","itertools.zip_longest","itertools.pairwise"].contains n=false)
  (W:∀ A:Around,A.handled=none->Walks P w A it [it] [it] x.cps.size (SignAt x) (λi h=>h.IsStrIter it n x t i))
  (B:∀(A:Around) (i:Nat) (s:Shared) (Q:Value->Shared->Prop) (E:Value->Shared->Prop),s.heap.IsStrIter it n x t i->Q (.ref it) s->wpAny (model P w) A (pyIter<|.ref it) Q E s):
  Turn P w K Y (Its x) [it] it (λi h=>i<=x.cps.size/\h.IsStrIter it n x t i) where
 mem:=by simp
 obj:=λi h a b f=>by
  have e:b=it:=by simpa using f
  subst e;obtain⟨_,o,e,c,d⟩:=a;show(o,e,λv z=>by rw[d]at z;cases z)
 keep:=λi h m a k=>by
  obtain⟨U,o,e,c,d⟩:=a;show(U,o,k it (by simp) o e,c,d)
 item:=by
  intro X O hw G y i S s σ H E I l a D;subst O hw G;obtain⟨C,L,f2,r,p,N⟩:=l it (by simp);have j:i<x.cps.size:=D;show(W X.A<|I.ok.hd y).item i s _ _ j a.2 λv m M Z g q=>?_;obtain⟨c,u,J,rfl⟩:=Z;have T:Inv X S σ H {s with heap:=m,toks:=M}:=I.turned (λb o f e=>q b o (by simpa using f) e) C L r p N;obtain⟨o,e,c',d⟩:=id g;show(_,rfl,DH (s:={s with heap:=m,toks:=M}) e c' d R (.str ⟨#[c]⟩,H,T,(u,rfl),(rfl,c,J,rfl),(j,g),λb f=>(l b f).1))
 done:=by
  intro X O hw G y i S s σ H E I l a D;subst O hw G;obtain⟨C,L,f2,r,p,N⟩:=l it (by simp);have F:x.cps.size<=i:=D;have e:i=x.cps.size:=Nat.le_antisymm a.1 F;subst e;show(W X.A<|I.ok.hd y).done s _ _ a.2 λm M q=>(rfl,I.turned (λb o f e=>q b o (by simpa using f) e) C L r p N)
 self:=λA i s Q E a h=>B A i s Q E a.2 h
def  iStr(b:TE):TI:=λσ H R=>b σ H λx a=>∃ z,x=.str z/\R (Its z) a
def Of{y l:Expr}{m:TE}(r:PE X l m):PI X y l (iStr m):=by
 intro k s σ H R I h;show thn (r k s σ H _ I h) λv s1 ⟨x,g,c,r1,u⟩=>?_;obtain⟨z,rfl,q⟩:=u;obtain⟨t,rfl⟩:=r1
 have a:∀ b∈[s1.heap.objs.size],FpOk X k g b:=λb p=>by
  have e:b=s1.heap.objs.size:=by simpa using p
  subst e;show c.fpOk (TQ _) (c.hok.fresh<|TQ _)
 cases n:z.cps.all (· < 128)
 . show wpAny_pyIter_wide n (s1.heap.objs.size,[s1.heap.objs.size],_,Its z,g,rfl,c.kept (t':=s1.toks) λb o e=>TY _ e,Ef (t:=t) _ "str_iterator" #[1] (λw f=>Walks.strWide f _ z t) (λA i s Q E d j=>wpAny_pyIter_striter_wide d j),(UK _,_,Ur _ rfl,rfl,rfl),a,q)
 . show wpAny_pyIter_ascii n (s1.heap.objs.size,[s1.heap.objs.size],_,Its z,g,rfl,c.kept (t':=s1.toks) λb o e=>TY _ e,Ef (t:=t) _ "str_ascii_iterator" #[1] (λw f=>Walks.strAscii f _ z t) (λA i s Q E d j=>wpAny_pyIter_striter_ascii d j),(UK _,_,Ur _ rfl,rfl,rfl),a,q)
def Gf {prog:Program} {w:World} {A:Around} {E:Value->Shared->Prop} {s:Shared} {l:Addr} {a:Array Value} {k:Int} {t:Tok} {v:Value} {Q:Unit->Shared->Prop} (c:s.heap.IsList l a)
  (h0:0<=k) (b:k<2^63) (n:k<a.size)
  (e:Q () {s with heap:=s.heap.update l (Obj.mapSeq (·.setIfInBounds k.toNat v))}):
  wpAny (model prog w) A (setItem (.ref l) (.int k t) v) Q E s:=by
 obtain⟨o,g,i,m,f⟩:=id c;unfold setItem
 try with_reducible show Xa ?_
 first | show Uh (Ux ?_) | skip
 show Uh (wpAny_sequenceKey c.typeIs #[1] ?_)
 show Uh (wpAny_callSpecial?_slot (name:=Str.ofString "__setitem__") c.typeIs slot_list_setitem
  (wpAny_call_entry slot_list_setitem c.typeIs entry_list_setitem ?_<|args_list_setitem _ _ _))
 change wpAny _ _ (Builtin.List.listSubscript? (.int k t) >>= _) _ _ s;show Uh (wpAny_listSubscript_int (fitsIndex_of h0 b) ?_)
 clear b
 obtain⟨j,rfl⟩:=Xk h0;have h:j<a.size:=by lia
 have d:a[j]? =some a[j]:=WW h;change wpAny _ _ ((seqItemAt l j >>= λr=>pure<|r.map (j ,·)) >>= _) _ _ s;show Uh<|Uh<|wpAny_seqItemAt g f<|Ux ?_;rw[d];change wpAny _ _ (setSeqItemAt l j v >>= _) _ _ s;show Uh (wpAny_setSeqItemAt g f ?_)
 first
  | show Uh (Ux<|Ux (.none,rfl,Ux e))
  | show Ux (.none,rfl,Ux e)
def Eg:∀{xs:List V} {us:List Value} {x:V} {u:Value} (i:Nat),Vals xs us->RelV x u->Vals (xs.set i x) (us.set i u)
 | _,_,_,_,_,.nil,_=>.nil
 | _,_,_,_,0,.cons _ t,r=>.cons r t
 | _,_,_,_,i+1,.cons q t,r=>.cons q (Eg i t r)
def  cPut:TSet
 | .ref p,y,v,H,Q=>(match unD (H p) with
  | some _=>∃ a,DPut H p y v a/\Q a
  | none=>match y with
   | .int i=>bnd (unM<|H p) λxs=>0<=i/\i<xs.length/\Q (upd H p<|.lst<|xs.set i.toNat v)
   | _=>False)
 | _,_,_,_,_=>False
def Pt(l:X.A.units+64<cLine):PSet X cPut:=by
 intro B s σ H o i v D y u Q I x b f h
 cases o with
 | ref p=>
  cases x;unfold cPut at h;dsimp only at h
  split at h
  . obtain⟨w,g,q⟩:=h;show Jq (UW (V5 (by decide:1<=64) _) l) I g b f λE k=>(w,k,q)
  . split at h
    . rename_i i
      obtain⟨xs,e,h0,h1,q⟩:=bu h;obtain⟨t,rfl⟩:=b;have c:=iH e;obtain⟨z,a,n,r,j,d⟩:=I.lstM c;have m:s.heap.IsList p a.toArray:=(_,d,rfl,n,rfl);have C:a.length<=sizeLine:=by rw[← j];show z
      show Gf m h0 ?_ (by rw[T1,← j];show h1) (_,I.lset (t':=s.toks) (ys:=xs.set i.toNat v) (its':=a.set i.toNat u) c d (by simp) (Eg _ r f) (by rw[XD];show z),q);have:(sizeLine:Int)<2^63:=by decide
      lia
    . show h.elim
 | _=>show False.elim h
end
section
variable{K:Frag}{g:TG}{tb:TS}{D:Ends}{σ:St}{H:Hp}{tl:TE}{ix:List (Option Nat)}{tt:TT}{te ta:TE}{k:Nat}{Q:VK}
def  gK{r:V->Option Int->Option Int->Hp->VK->Prop}{a b:TO}:tSl r te a b σ H Q=te σ H λx d=>a σ d λl e=>b σ e λu c=>r x l u c Q:=rfl
def  c7{R:Option Int->Hp->Prop}:tPart te σ H R=te σ H λx a=>∃ i,x=.int i/\R (some i) a:=rfl
def  bL{R:Option Int->Hp->Prop}:gC σ H R=R none H:=rfl
def  c9{b a:TE}{t:TSet}{v:V}{R:St->Hp->Prop}:gSub b a t v σ H R=b σ H λo e=>a σ e λi c=>t o i v c λd=>R σ d:=rfl
def  gL{r:V->Hp->VK->Prop}:tUn r te σ H Q=te σ H λx a=>r x a Q:=rfl
def  db:tFor (iStr tl) g tb D σ H=tl σ H λx a=>∃ z,x=.str z/\LoopR (Its z) g tb D σ a:=rfl
def  b8:tComp ix (iStr tl) g tt te σ H Q=tl σ H λx a=>∃ z,x=.str z/\CompR (Its z) g tt te (λl b=>Q (.ref l) b) (subσ ix σ) a:=rfl
def  bM:sComp k ix (iStr tl) g tt te D σ H=tl σ H λx a=>∃ z,x=.str z/\CompR (Its z) g tt te (λl b=>D.nx (σ.set k ↑l) b) (subσ ix σ) a:=rfl
def  L8{x:Str}:tyV K "str" (.str x) H:=rfl
def  fu{i j:Str}:cEq K (.str i) (.str j) H Q=Q (.bl<|decide<|i=j) H:=rfl
def  fv{i j:Str}:cNe K (.str i) (.str j) H Q=Q (.bl<|!decide (i=j)) H:=rfl
def  dc{z:Str}:kLen [.str z] H Q=(z.length<=sizeLine/\Q (.int z.length) H):=rfl
def  de{i j:Str}:cAdd (.str i) (.str j) H Q=(i.length+j.length<=sizeLine/\Q (.str<|i++j) H):=rfl
def  Pu{z:Str}{i:Int}:cIx (.str z) (.int i) H Q=(z.length<=sizeLine/\bnd (atI z.cps.toList i) λc=>Q (.str ⟨#[c]⟩) H):=rfl
def  df{x y:Str}:kFind (.str x) [.str y] H Q=Q (.int<|Txt.find x y) H:=rfl
def  MK{x y:Str}:zj (.str x) [.str y] H Q=((y.length==0)=false/\x.length<=sizeLine/\(Txt.split x y).length<=sizeLine/\∀ l,H l=none->Q (.ref l) (upd H l<|.lst<|(Txt.split x y).map V.str)):=rfl
def Pw{p:Addr}{i:Int}{v:V}{xs:List V}{R:Hp->Prop}(a:H p=↥xs)(h0:0<=i)(h1:i<xs.length)(h:R (upd H p<|.lst<|xs.set i.toNat v)):cPut (.ref p) (.int i) v H R:=by
 unfold cPut;dsimp only;rw[a];show(h0,h1,h)
def qg{p:Addr}{lo a:Option Int}{xs:List V}(b:H p=↥xs)(h:∀ l,H l=none->Q (.ref l) (upd H l<|.lst<|cutV xs lo a)):kF (.ref p) lo a H Q:=by
 change bnd (unL<|H p) _;rw[b];show h
end
def  cBitI(g:Int->Int->Int):R2
 | .int i,.int j,H,Q=>Q (.int<|g i j) H
 | _,_,_,_=>False
def  cShr:R2
 | .int i,.int j,H,Q=>0<=j/\Q (.int<|i/2^j.toNat) H
 | _,_,_,_=>False
abbrev cOr:R2:=cBitI Builtin.bitOr
section
variable{X:Cx}
def Lb{o:Operator}{g:Int->Int->Int}(h0:OpR X (binaryOp o) (rI0 λi j=>.int<|g i j)):OpR X (binaryOp o) (cBitI g):=by
 intro c s σ H x y v u Q I a b h;unfold cBitI at h
 split at h
 . show h0 c s σ H _ _ v u Q I a b (_,_,rfl,rfl,h)
 . show h.elim
def  Og:OpR X (binaryOp .BitOr) cOr:=Lb Pk
def ML:OpR X (binaryOp .RShift) cShr:=by
 intro c s σ H x y v u Q I a b h;unfold cShr at h
 split at h
 . show NS c s σ H _ _ v u Q I a b (_,_,rfl,rfl,h.1,h.2)
 . show h.elim
end
section
variable{H:Hp}{Q:VK}{i j:Int}
def  d4{g:Int->Int->Int}:cBitI g (.int i) (.int j) H Q=Q (.int<|g i j) H:=rfl
def  gk:cShr (.int i) (.int j) H Q=(0<=j/\Q (.int<|i/2^j.toNat) H):=rfl
end
section
variable{X:Cx}
def  kInt:List V->Hp->VK->Prop
 | [.int i],H,Q=>Q (.int i) H
 | [.bl k],H,Q=>Q (.int (if k then 1 else 0)) H
 | _,_,_=>False
def  rG:V->List V->Hp->VK->Prop
 | .int i,[],H,Q=>Q (.int (Builtin.Int.intBits i:Nat)) H
 | _,_,_,_=>False
def zk:MtR X "int.bit_length" rG:=by
 intro c s σ H x vs v d Q I a b h;unfold rG at h
 split at h
 . obtain⟨t,rfl⟩:=a;cases b;show call_int_bit_length (.int _,H,I.tok _,(_,rfl),h)
 . show h.elim
def  cRepL:R2
 | .ref l,.int k,H,Q=>bnd (unM<|H l) λxs=> -(2^63)<=k/\k<2^63/\xs.length*k.toNat<=sizeLine/\∀ p,H p=none->Q (.ref p) (upd H p<|.lst (List.replicate k.toNat xs).flatten)
 | _,_,_,_=>False
def yc:OpR X (binaryOp .Mult) cRepL:=by
 intro c s σ H x y v u Q I a b h;unfold cRepL at h
 split at h
 . obtain⟨xs,e,h1,h2,h3,q⟩:=bu h;show N4 c s σ H _ _ v u Q I a b (_,_,xs,rfl,rfl,iH e,h1,h2,h3,q)
 . show h.elim
def  kAll:List V->Hp->VK->Prop
 | [.ref p],H,Q=>bnd (unL<|H p) λys=>∃ bs:List Bool,ys=bs.map V.bl/\Q (.bl<|bs.all id) H
 | _,_,_=>False
def JD(bs:List Bool):(List.range bs.length).all (λi=>bs.getD i false)=bs.all id:=by
 rw[Up,Ty,Ty];constructor
 . intro h b d;obtain⟨i,c,e⟩:=Vy.mp d;have:=h i<|TC.mpr c;rw[List.getD,To c,e]at this;show this
 . intro h i c;have a:i<bs.length:=TC.mp c;have:=h bs[i] (T0 a)
   simpa [List.getD,a] using this
def kG:bootBuiltins "all"=some (.builtin "all"):=by decide+kernel
def uL:bootBuiltins "sum"=some (.builtin "sum"):=by decide+kernel
def f8(m:X.calm=true):CallR X (.builtin "all") kAll:=by
 intro D s σ H xs L Q I r h;unfold kAll at h
 split at h
 . rename_i p
   obtain⟨J,e,a,rfl,q⟩:=bu h;obtain⟨u,rfl,t⟩:=fU r;cases t;obtain⟨c,j,d,F⟩:=I.list<|rE e;have g:=j.length;rw[Tn]at g
   have f:p<s.heap.objs.size:=by
    obtain⟨o,h1,_⟩:=d.isList;show Ug h1
   show call_all_walkS<|VQ d.isList ?_;show(s.heap.objs.size,_,_,_,c.toArray.size,_,_,λi=>a.getD i false,rfl,(XQ (A:=X.A.in1) (I.ok.hd m) s.heap.objs.size p (Uv f) c.toArray).toS,((_,Ur _ rfl,rfl,rfl),d.isList.push _),?_,λE C=>?_)
   . intro i v s1 G K B z;have y:c[i]? =some v:=by simpa using B
     obtain⟨x,n,w⟩:=j.get' y;obtain⟨b,hb,rfl⟩:∃ b,a[i]? =some b/\V.bl b=x:=by simpa using n
     cases w;show Vh ?_;have k:a.getD i false=b:=by simp[List.getD,hb]
     rw[← k];show z
   . show(.bl _,H,I.walked (l:=p) C,?_,q);have e2:c.toArray.size=a.length:=by rw[T1];show g.symm
     rw[e2,JD];rfl
 . show h.elim
def  kSum:List V->Hp->VK->Prop
 | [.ref p],H,Q=>bnd (unL<|H p) λys=>∃ ns:∅,ys=ns.map V.int/\(∀ x∈ns,0<=x/\x<=1000000)/\ns.length<=1000000/\Q (.int ns.sum) H
 | _,_,_=>False
def JE:∀(ns:∅),(∀ x∈ns,0<=x/\x<=1000000)->0<=ns.sum/\ns.sum<=1000000*ns.length
 | [],_=>by simp
 | n::r,h=>by
  have b:=JE r λx a=>h x<|TD _ a;have h1:=h n TR;rw[U4,T8];lia
def mW(B:X.calm=true):CallR X (.builtin "sum") kSum:=by
 intro K s σ H xs O Q I r h;unfold kSum at h
 split at h
 . rename_i p
   obtain⟨N,e,a,rfl,n,P,q⟩:=bu h;obtain⟨u,rfl,D⟩:=fU r;cases D;obtain⟨f,y,g,M⟩:=I.list<|rE e;have w:=y.length;rw[Tn]at w
   have d:p<s.heap.objs.size:=by
    obtain⟨o,h1,_⟩:=g.isList;show Ug h1
   have e2:f.toArray.size=a.length:=by rw[T1];show w.symm
   show call_sum_walkS<|VQ g.isList ?_;show(s.heap.objs.size,_,_,_,f.toArray.size,_,_,λi=>a.getD i 0,rfl,(XQ (A:=X.A.in1) (I.ok.hd B) s.heap.objs.size p (Uv d) f.toArray).toS,((_,Ur _ rfl,rfl,rfl),g.isList.push _),?_,?_,?_,λL C J=>?_)
   . intro b c;change b < (s.heap.push _).objs.size;rw[Vp];simp only[TN,UD,Vr]at c;rcases c with rfl | rfl
     . show VY _
     . show Va d
   . intro i v G;have F:f[i]? =some v:=by simpa using G
     obtain⟨x,m,E⟩:=y.get' F;obtain⟨b,c,rfl⟩:∃ b,a[i]? =some b/\V.int b=x:=by simpa using m
     obtain⟨t,rfl⟩:=E;show(t,by simp[List.getD,c])
   . intro j k;rw[e2]at k;show(?_,?_)
     . have:=n a[j]<|T0 k;have z:a.getD j 0=a[j]:=by simp[List.getD,k]
       change InLong (a.getD j 0);rw[z];show(by lia,by lia)
     . rw[preSum_getD];have h1:=JE (a.take<|j+1) λx m=>n x<|VU m;have h2:(a.take<|j+1).length<=a.length:=by rw[Uu];lia
       show(by lia,by lia)
   . show(.int a.sum,H,I.walked (l:=p) J,(C,?_),q);rw[e2,preSum_getD,UF]
 . show h.elim
def  Itd(b:Int)(n:Nat):It:=(λi _=>i<n,λi H x a=>a=H/\x=.int (b-i),λi _=>n<=i)
def  iRngD(b:TA):TI:=λσ H R=>b σ H λvs a=>∃ i j:Int,vs=[.int i,.int j,.int<|-1]/\(-(2^60)<=i/\i<2^60/\ -(2^60)<=j/\j<2^60)/\R (Itd i (i-j).toNat) a
end
section
variable{K:Frag}{g:TG}{tb:TS}{D:Ends}{σ:St}{H:Hp}{ta:TA}{Q:VK}
def  d5{k:Bool}:kInt [.bl k] H Q=Q (.int (if k then 1 else 0)) H:=rfl
def  d6{i:Int}:kInt [.int i] H Q=Q (.int i) H:=rfl
def  ce{i:Int}:rG (.int i) [] H Q=Q (.int (Builtin.Int.intBits i:Nat)) H:=rfl
def oI{p:Addr}{bs:List Bool}(b:H p=↥(bs.map V.bl))(h:Q (.bl<|bs.all id) H):kAll [.ref p] H Q:=by
 change bnd (unL<|H p) _;rw[b];show d3 (a:=bs.map V.bl) rfl (bs,rfl,h)
def zl{p:Addr}{ns:∅}(d:H p=↥(ns.map V.int))(b:∀ x∈ns,0<=x/\x<=1000000)(c:ns.length<=1000000)(h:Q (.int ns.sum) H):kSum [.ref p] H Q:=by
 change bnd (unL<|H p) _;rw[d];show d3 (a:=ns.map V.int) rfl (ns,rfl,b,c,h)
def Eh{p:Addr}{xs:List V}{k:Int}(b:H p=↥xs)(h0:0<=k)(h1:k<=1000)(c:xs.length<=1)(h:∀ l,H l=none->Q (.ref l) (upd H l<|.lst (List.replicate k.toNat xs).flatten)):cRepL (.ref p) (.int k) H Q:=by
 change bnd (unM<|H p) _;rw[b];show d3 (a:=xs) rfl (by lia,by lia,?_,h);show Uy<|aH<|TU (Vf _ c) ?_;lia
def  dm:tFor (iRngD ta) g tb D σ H=ta σ H λvs a=>∃ i j:Int,vs=[.int i,.int j,.int<|-1]/\(-(2^60)<=i/\i<2^60/\ -(2^60)<=j/\j<2^60)/\LoopR (Itd i (i-j).toNat) g tb D σ a:=rfl
end
section
variable{X:Cx}
def  Ite(K:Frag)(a:Addr):It:=
 (λi H=>∃ xs x,SqL K H a xs/\xs[i]? =some x,
  λi H v b=>∃ T x,v=.ref T/\H T=none/\b=upd H T (.tup [.int i,x])/\∀ xs,SqL K H a xs->xs[i]? =some x,
  λi H=>∃ xs,SqL K H a xs/\xs.length<=i)
def  ESt(a e it:Addr)(i:Nat)(h:Heap):Prop:=(∃ b,IsEnum h e it i b)/\h.IsListIter it a i
def  JF{P:Program}{w:World}{K:Frag}{es:List Expr}{x1:Nat}{pos:Pos}(a e it:Addr):
  Turn P w K (.Tuple es x1 pos) (Ite K a) [e,it] e (ESt a e it) where
 mem:=by simp
 obj:=λi h p c f=>by
  obtain⟨⟨l,j⟩,⟨N,e1,D,y⟩⟩:=p;simp only[TN,UD,Vr]at f;rcases f with rfl | rfl
  . show(_,j,λv z=>by have z':Data.fields _=Data.cell v:=z;cases z')
  . show(_,e1,λv z=>by rw[y]at z;cases z)
 keep:=λi h h' p k=>by
  obtain⟨⟨l,j⟩,h1⟩:=p;show((l,k e (by simp) _ j),h1.at λo q=>k it (by simp) o q)
 item:=by
  intro X hP hw hK f i Tc s σ H E I C p Z;subst hP hw hK;obtain⟨xs,x,m,r⟩:=Z;obtain⟨t,A,U,af⟩:=I.list m;obtain⟨R,Y,ab⟩:=A.get r;obtain⟨⟨l,j⟩,⟨N,e1,D,y⟩⟩:=id p;have G:e≠it:=be j e1 rfl D #[1];show wpAny_pyNext_enum_item j (N,e1,D,y) U.isList (x:=R) (by simpa using Y) G λh' a1 a2 a3 a4 hk=>?_;show(_,rfl,wpAny_letOwnedTupleGo_enum a1 λh2 Q sb=>?_);have B:H s.heap.objs.size=none:=I.fresh;have lt:∀{c o},s.heap.get? c=some o->c≠s.heap.objs.size:=λe=>Uv (Ug e)
  have J:∀ c o,c∉[e,it]->s.heap.get? c=some o->h2.get? c=some o:=λc o f q=>by
   simp only[TN,UD,Vr,not_or]at f;show sb.extBut _ _ f.1 (hk c o f.1 f.2 q)
  have ae:s.heap.objs.size≠e:=(lt j).symm;have gT:h2.get? s.heap.objs.size=some {cls:=.type "tuple",data:=.seq #[.int i s.toks,R]}:=sb.extBut _ _ ae a3;have nH:∀ c∈[e,it],H c=none:=λc f=>(C c f).1;show(.ref s.heap.objs.size,upd H s.heap.objs.size<|.tup [.int i,x],I.call' (s':={s with heap:=h2,toks:=s.toks+1}) (ch:=[e,it]) rfl (λc o e n _ r=>J c o r e,λc o e n _ r=>(o.slots,J c o r e),λc o e n _=>by rw[ak<|lt e];show n,λc o e r=>(o,J c o r e),λc xs e=>by rw[ak<|aF e B];show e,λc o u e=>by rw[ak<|aF e B];show e,λc ps e=>(#[],by rw[ak<|aF e B,e];simp)) ?_ I.bare ?_,rfl,(_,x,rfl,B,rfl,λzs T=>by rw[I.list_inj T m];show r),?_,?_)
  . intro c ob e;by_cases L:c=s.heap.objs.size
    . subst L;rw[ah]at e;cases e;show(by change(2:Nat)<=sizeLine;show Uy<|aH #[1],[.int i s.toks,R],.cons (_,rfl)<|.cons ab .nil,(_,gT,rfl,_,rfl))
    . rw[ak L]at e;show(I.hok c ob e).stay (λd w' M g=>J d w' ?_ g) (λd g=>by rw[ak<|aF g B];show g) λd xs g=>by rw[ak<|aF g B];show g
      intro hm;rcases M with rfl | M
      . rw[nH _ hm]at e;cases e
      . rw[nH _ hm]at M;cases M
  . intro c f;obtain⟨f0,y,f2,W,O,f5⟩:=C c f;show(W,y,O,f5)
  . show((_,Q),a2.extBut sb.extBut G.symm)
  . intro c f
    obtain⟨o,q⟩:∃ o,s.heap.get? c=some o:=by
     simp only[TN,UD,Vr]at f;rcases f with rfl | rfl
     . show(_,j)
     . show(_,e1)
    rw[ak<|lt q];show(C c f).1
 done:=by
  intro X hP hw hK f i Tc s σ H E I C p Z;subst hP hw hK;obtain⟨xs,m,r⟩:=Z;obtain⟨t,A,U,af⟩:=I.list m;have ag:=A.length;obtain⟨⟨l,j⟩,⟨N,e1,D,y⟩⟩:=id p;have F:t.toArray[i]? =none:=by simp;omega
  obtain⟨f0,S,f2,W,O,f5⟩:=C it (by simp);show wpAny_pyNext_enum_end (I.ok.hd f) j (N,e1,D,y) U.isList F λh' eb=>(rfl,I.turned (t':=s.toks) (λb o L e=>eb b o L e) f0 S W O f5)
 self:=λ_ _ _ _ _ p h=>by
  obtain⟨⟨l,j⟩,_⟩:=p;show wpAny_pyIter_enum j h
def  iEnum(K:Frag)(c:TA):TI:=λσ H R=>c σ H λvs b=>∃ a,vs=[.ref a]/\(∃ xs,SqL K b a xs)/\R (Ite K a) b
def Ei:bootBuiltins "enumerate"=some (.type "enumerate"):=by decide+kernel
def  fX{B:List Expr}{u:Nat}{b:Pos}{e1:Expr}{k:TA}{p pos:Pos}(w:Gl X "enumerate")(A:X.mg "enumerate"=none)(x:PA X [e1] k)(r:starEach [e1] X.env=[(false ,eval e1 X.env)]:=by rfl):
  PI X (.Tuple B u b) (.Call (.Name "enumerate" p) [e1] [] pos) (iEnum X.K k):=by
 intro i s σ H R I h;show Call_<|fY I w A Ei<|Uz (thn (x pos i s σ H _ I h) λG s1 ⟨vs,n,e,r1,C⟩=>?_) r rfl;obtain⟨a,rfl,⟨xs,f⟩,q⟩:=C;obtain⟨F,rfl,g⟩:=fU r1;cases g;obtain⟨j,y,t,E⟩:=e.list f;show call_enumerate_list t.isList λz m o J D=>?_;show wpAny_pyIter_enum m ?_;have v:Inv X i σ n {s1 with heap:=z,toks:=s1.toks}:=e.kept D;show(s1.heap.objs.size+1,[s1.heap.objs.size+1,s1.heap.objs.size],ESt a (s1.heap.objs.size+1) s1.heap.objs.size,Ite X.K a,n,rfl,v,JF a (s1.heap.objs.size+1) s1.heap.objs.size,((_,m),o),λc l=>?_,q)
 have d:s1.heap.objs.size<=c:=by
  simp only[TN,UD,Vr]at l;rcases l with rfl | rfl <;> omega
 show e.fpOk d (e.hok.fresh d)
end
section
variable{K:Frag}{g:TG}{tb:TS}{D:Ends}{σ:St}{H:Hp}{ta:TA}{Q:VK}{ix:List (Option Nat)}{tt:TT}{te:TE}{k:Nat}
def  d7:tFor (iEnum K ta) g tb D σ H=ta σ H λvs b=>∃ a,vs=[.ref a]/\(∃ xs,SqL K b a xs)/\LoopR (Ite K a) g tb D σ b:=rfl
def  dn:tComp ix (iEnum K ta) g tt te σ H Q=ta σ H λvs b=>∃ a,vs=[.ref a]/\(∃ xs,SqL K b a xs)/\CompR (Ite K a) g tt te (λl c=>Q (.ref l) c) (subσ ix σ) b:=rfl
def  cg:sComp k ix (iEnum K ta) g tt te D σ H=ta σ H λvs b=>∃ a,vs=[.ref a]/\(∃ xs,SqL K b a xs)/\CompR (Ite K a) g tt te (λl c=>D.nx (σ.set k ↑l) c) (subσ ix σ) b:=rfl
def JG {a:Addr} {xs:List V} {j:Addr->Hp->Prop} {o:St} {f:Hp} (d:Addr->Nat->St->Hp->Prop) (h0:∀ l,f l=none->d l 0 o (upd f l<|.lst [])) (C:∀ l i σ H,f l=none->i<=xs.length->d l i σ H->SqL K H a xs)
  (w:∀ l i x T σ H,f l=none->xs[i]? =some x->d l i σ H->H T=none->g (.ref T) σ (upd H T<|.tup [.int i,x]) λk u=>tt k u λb r=>if b=true then te k r λy n=>∃ ys,n l=↥ys/\ys.length<sizeLine/\d l (i+1) k (upd n l<|.lst<|ys++[y]) else d l (i+1) k r)
  (z:∀ l σ H,f l=none->d l xs.length σ H->j l H):CompR (Ite K a) g tt te j o f:=by
 intro l c;show(λi m σ H=>m=xs.length-i/\i<=xs.length/\d l i σ H,(xs.length,by simp,UK _,h0 l c),?_);rintro i m σ H ⟨rfl,A,p⟩;have q:=C l i σ H c A p;by_cases h:i<xs.length
 . show .inr ((xs,xs[i],q,by simp[h]),d l<|i+1,λD B t=>(xs.length - (i+1),by lia,rfl,h,t),λv B y=>?_);obtain⟨T,x,rfl,s,rfl,e⟩:=y;show w l i x T σ _ c (e xs q) p s
 . have e:i=xs.length:=by lia
   subst e;show .inl ((xs,q,TQ _),z l σ H c p)
def kH {a:Addr} {xs:List V} {h:Addr->Hp->Prop} {g:St} {c:Hp} {k1 k2:Nat} (b:Nat->Bool) (f:Nat->V) (O:xs.length<=900) (m:k1≠k2) (M:SqL K c a xs)
  (E:∀(i:Nat) x H R,xs[i]? =some x->Same c H->(∀ n,Same H n->R (b i) n)->tt ((g.set k1 ⇑(i:Int)).set k2<|some x) H R)
  (F:∀(i:Nat) x H Q,xs[i]? =some x->b i=true->Same c H->(∀ n,Same H n->Q (f i) n)->te ((g.set k1 ⇑(i:Int)).set k2<|some x) H Q)
  (L:∀ l H,c l=none->Same c H->H l=↥(((List.range xs.length).filter b).map f)->h l H):
  CompR (Ite K a) (gTup K 2<|gCons (gName k1)<|gCons (gName k2) gNil) tt te h g c:=by
 show JG (xs:=xs) (λl i σ H=>(σ=g\/∃ z B,σ=(g.set k1 z).set k2 B)/\Same c H/\H l=↥(((List.range i).filter b).map f)) (λl j=>(.inl rfl,λb u e=>by rw[ak<|aF e j];show e,by rw[ah];rfl)) (λl i σ H _ _ p=>p.2.1.seq M) ?_<|λl σ H j p=>L l H j p.2.1 p.2.2;rintro l i x T σ H j v ⟨C,s1,J⟩ D;have G:i<xs.length:=(Tr.mp v).1;have r:Same H (upd H T<|.tup [.int i,x]):=λb u e=>by rw[ak<|aF e D];show e
 show(T,_,rfl,XR ah,rfl,_,_,rfl,_,_,rfl,rfl,?_)
 have e:(σ.set k1 ⇑i).set k2 (some x)=(g.set k1 ⇑i).set k2 (some x):=by
  rcases C with rfl | ⟨z,B,rfl⟩
  . rfl
  . rw[Xd _ _<|Wa m,Vb,Vb,Xd _ _ m]
 change tt ((σ.set k1 ⇑i).set k2<|some x) _ _;rw[e];show E i x _ _ v (s1.trans r) λI A=>?_;have k:=A _ _<|r _ _ J;have d:=(s1.trans r).trans A;have w:∀{q:Hp} {o:HO},Same c q->Same c (upd q l o):=λs b u e=>by rw[ak<|aF e j];show s b u e
 have N:∀ i,i<=900->(((List.range i).filter b).map f).length<sizeLine:=λi G=>by
  rw[Tn];show aH<|TU (Ue b _) ?_;rw[UG];lia
 cases t:b i with
 | false=>
  rw[TX TB];show(.inr (_,_,rfl),d,?_);rw[UQ,Us,Um,t]
  simpa using k
 | true=>
  rw[TZ rfl];show F i x I _ v t d λq y=>(_,y _ _ k,N i #[4],.inr (_,_,rfl),w<|d.trans y,?_);rw[ah,UQ,Us,Um,t];simp
end
def  rngL(i j:Int):∅:=(List.range (j-i).toNat).map λ(k:Nat)=>i+(k:Int)
def jH(i j:Int):(rngL i j).length=(j-i).toNat:=by unfold rngL;simp
def xf:∀{xs:List V} {us:List Value},xs.length=us.length->(∀(i:Nat) x u,xs[i]? =some x->us[i]? =some u->RelV x u)->Vals xs us
 | [],[],_,_=>.nil
 | [],_::_,h,_=>by simp at h
 | _::_,[],h,_=>by simp at h
 | x::xs,u::us,h,f=>.cons (f 0 x u rfl rfl) (xf (by simpa using h) λi y e h1 h2=>f (i+1) y e (by simpa using h1) (by simpa using h2))
def Lc{i j:Int}{b:Array Value}(h:ItemsOf (λk v=>∃ t,v=.int (i+k*1) t) b (j-i).toNat):Vals ((rngL i j).map V.int) b.toList:=by
 show xf (by rw[Tn,jH,V4];show h.1.symm) λk x u a d=>?_;obtain⟨t,rfl⟩:=h.2 k u (by simpa using d);unfold rngL at a;rw[Uq,Tw]at a;by_cases c:k < (j-i).toNat
 . rw[UE c]at a;cases a;show(t,by rw[Int.mul_one])
 . rw[TV (by simpa using c)]at a;cases a
section
variable{X:Cx}
def  mX(b:TA):TE:=λσ H Q=>b σ H λvs a=>∃ j:Int,vs=[.int j]/\ -(2^60)<=j/\j<=1000/\∀ l,a l=none->Q (.ref l) (upd a l<|.lst<|(rngL 0 j).map V.int)
def  uM(b:TA):TE:=λσ H Q=>b σ H λvs a=>∃ i j:Int,vs=[.int i,.int j]/\(0<=i/\i<=1000/\ -(2^60)<=j/\j<=1000)/\∀ l,a l=none->Q (.ref l) (upd a l<|.lst<|(rngL i j).map V.int)
def Ej {h:List (Addr × Obj)} {σ:St} {d:Hp} {s1:Shared} {Q:VK} {i j:Int} {t u v:Tok} {m:Nat} {A:Around} {E:Value->Shared->Prop} (x:A.handled=none) (s:Inv X h σ d s1) (h1:0<=i) (h2:i<=1000) (h3: -(2^60)<=j) (h4:j<=1000)
  (q:∀ l,d l=none->Q (.ref l) (upd d l<|.lst<|(rngL i j).map V.int)):
  wpAny (model X.prog X.w) A (call (.type "list") [.ref s1.heap.objs.size]) (EP X h σ Q) E {s1 with heap:=s1.heap.push {cls:=.type "range",data:=.fields #[.int i t,.int j u,.int 1 v]},toks:=m}:=by
 have p:Inv X h σ d {s1 with heap:=s1.heap.push {cls:=.type "range",data:=.fields #[.int i t,.int j u,.int 1 v]},toks:=m}:=s.kept λb o e=>TY _ e;show call_list_range (n:=(j-i).toNat) x (IsRange.new ..) (small_one #[4] #[4] #[4] #[4]) (by rw[rangeSize_one];split <;> lia) #[4] λz g c r f k a=>?_;have y:((rngL i j).map V.int).length<=sizeLine:=by rw[Tn,jH];show Uy (aH #[4])
 show(.ref _,_,p.laid (t':=g) (o:=.lst ((rngL i j).map V.int)) f (TQ _) (y,c.toList,r,Lc a,k),rfl,q _<|p.hok.fresh<|TQ _)
def qR {a:Expr} {k:TA} {p d pos b:Pos} (n:X.calm=true) (g:Gl X "list") (f:Gl X "range") (y:X.mg "list"=none) (u:X.mg "range"=none) (v:PA X [a] k)
  (c:starEach [.Call (.Name "range" d) [a] [] b] X.env=[(false ,eval (.Call (.Name "range" d) [a] [] b) X.env)]:=by rfl) (w:starEach [a] X.env=[(false ,eval a X.env)]:=by rfl):
  PE X (.Call (.Name "list" p) [.Call (.Name "range" d) [a] [] b] [] pos) (mX k):=by
 intro m s σ H Q I h;show U2<|fY I g y cK ?_ #[1] #[1];show Uz ?_ c rfl;rw[c];change wpAny _ _ (spliced [(false ,eval (.Call (.Name "range" d) [a] [] b) X.env)]) _ _ s;show Vq ?_;show Call_<|fY I f u XO<|Uz (thn (v b m s σ H _ I h) λz s1 ⟨vs,A,o,r1,i⟩=>?_) w rfl;obtain⟨j,e,i,l,q⟩:=i;subst e
 cases r1 with
 | cons r x=>
  cases x;obtain⟨t,rfl⟩:=r;show call_range_1 ?_;show Vx ?_;show Ej (I.ok.hd n) o #[4] #[4] i l q
def Gh {a b:Expr} {o:TA} {p g pos c:Pos} (z:X.calm=true) (m:Gl X "list") (k:Gl X "range") (A:X.mg "list"=none) (C:X.mg "range"=none) (D:PA X [a,b] o)
  (f:starEach [.Call (.Name "range" g) [a,b] [] c] X.env=[(false ,eval (.Call (.Name "range" g) [a,b] [] c) X.env)]:=by rfl) (x:starEach [a,b] X.env=[(false ,eval a X.env),(false ,eval b X.env)]:=by rfl) (d:starEach [b] X.env=[(false ,eval b X.env)]:=by rfl):
  PE X (.Call (.Name "list" p) [.Call (.Name "range" g) [a,b] [] c] [] pos) (uM o):=by
 intro u s σ H Q I h;show U2<|fY I m A cK ?_ #[1] #[1];show Uz ?_ f rfl;rw[f];change wpAny _ _ (spliced [(false ,eval (.Call (.Name "range" g) [a,b] [] c) X.env)]) _ _ s;show Vq ?_;show Call_ (fY I k C XO<|Uz (thn (D c u s σ H _ I h) λG s1 ⟨vs,J,w,r1,n⟩=>?_) (by rw[x,d]) (by rw[d];rfl));obtain⟨i,j,e,⟨n,B,E,v⟩,q⟩:=n;subst e
 cases r1 with
 | cons r l=>
  cases l with
  | cons y l=>
   cases l;obtain⟨t,rfl⟩:=r;obtain⟨F,rfl⟩:=y;show call_range_2 ?_;show Vx ?_;show Ej (I.ok.hd z) w n B E v q
end
section
variable{σ:St}{H:Hp}{Q:VK}{ta:TA}
def  dq:mX ta σ H Q=ta σ H λvs a=>∃ j:Int,vs=[.int j]/\ -(2^60)<=j/\j<=1000/\∀ l,a l=none->Q (.ref l) (upd a l<|.lst<|(rngL 0 j).map V.int):=rfl
def  dr:uM ta σ H Q=ta σ H λvs a=>∃ i j:Int,vs=[.int i,.int j]/\(0<=i/\i<=1000/\ -(2^60)<=j/\j<=1000)/\∀ l,a l=none->Q (.ref l) (upd a l<|.lst<|(rngL i j).map V.int):=rfl
end
end L2
namespace L2
def  besL(h w c:Int):∅:=(if 0<c/w then [c-w] else [])++(if 0<c%w then [c-1] else [])++(if c%w<w-1 then [c+1] else [])++(if c/w<h-1 then [c+w] else [])
inductive RC(h w:Int)(cs:∅)(st:Int):Int->Prop
 | start:st∈cs->RC h w cs st st
 | step {x y:Int}:RC h w cs st x->y∈besL h w x->y∈cs->RC h w cs st y
def kI:∀{xs ys:∅},xs.Nodup->(∀ x∈xs,x∈ys)->xs.length<=ys.length
 | [],_,_,_=>UK _
 | x::xs,ys,nd,h=>by
  have b:=h x TR;have a:=UB.mp nd
  have d:=kI (xs:=xs) (ys:=ys.erase x) a.2 λy c=>by
   have f:y≠x:=λe=>a.1<|e ▸ c;show(List.mem_erase_of_ne f).mpr (h y<|TD _ c)
  rw[Xe b]at d;have:0<ys.length:=Wg b;simp only[T8];lia
end L2
namespace L2
open PySem PySem.Spec PyProof.Rows
def   wk9(t:String):Lean.MacroM Lean.Syntax:=do
 let x<-(t.splitOn " ").toArray.mapM λs=>`(Lean.Parser.Tactic.simpLemma|$(Lean.mkIdent s.toName):term)
 `(tactic|(first|simp only[$x,*]|dsimp only|skip))
def   ws1:String:="aC cQ cO aZ cR cS w_c gf dC cT cU cV w_b w_not eI gG cW cX eJ eK cM gH cY eQ dU gI eV cF cZ c5 c6 b4 b7 bR bJ bK bA eX e6 e7 e8 fe fg fh fj fk fm fo fq gK c7 bL c9 gL db b8 bM fu fv dc de df List.getElem?_cons_zero List.getElem?_cons_succ Option.some.injEq exists_eq_left' exists_eq_left List.set_cons_zero List.set_cons_succ bG V.int.injEq V.bl.injEq V.ref.injEq V.str.injEq List.nil_append List.cons_append"
local macro_rules|`(tactic|walk_at "w")=>wk9 ws1
local macro_rules|`(tactic|symm)=>`(tactic|walk_at "w")
def  ba{n:Nat}(h:n<=1000):n<=sizeLine:=Uy (aH h)
def  lnR{n:Nat}(h:Nat.ble n 1000=true):n<=sizeLine:=ba (UI h)
def  IsFl(H:Hp)(a:Addr)(h w g:Int):Prop:=H a=some (.tup [.int h,.int w,.int g])
variable{H:Hp}{p:Addr}
def  Same.laid{a:Hp}{o:HO}(s:Same H a)(h:a p=none):Same H (upd a p o):=λb u e=>by
 rw[ak<|aF (s b u e) h];show s b u e
def  bp{U:Addr}(O:HO)(h:H U=none):∃ z,upd H U O=z/\Same H z/\z U=some O:=(_,rfl,(Tu H).laid h,ah)
def  Same.own{a:Hp}{o:HO}(s:Same H a)(h:H p=none):Same H (upd a p o):=λb u e=>by
 rw[ak<|aF e h];show s b u e
variable{l:∅}{i:Nat}
def cC{x:Int}(h:l[i]? =some x):l.getD i 0=x:=by
 rw[List.getD,h];rfl
def Ek{ns:∅}{k:Int}(h0:0<=k)(h1:k<ns.length):atI (ns.map V.int) k=⇑(ns.getD k.toNat 0):=by
 have e:((k.toNat:Nat):Int)=k:=Int.toNat_of_nonneg h0;have a:k.toNat<ns.length:=by lia
 have:(ns.map V.int)[k.toNat]? =⇑(ns.getD k.toNat 0):=by
  rw[Tw,To a];simp[List.getD,a]
 have q:=fG this;rw[e]at q;show q
def  bn{α:Type}(l:List α):l.filter (λ_=>true)=l:=VG.mpr λ_ _=>rfl
def aI{y:V}(h:(l.map V.int)[i]? =some y):∃ z,l[i]? =some z/\y=.int z:=by
 rw[Tw]at h
 cases e:l[i]? with
 | none=>rw[e]at h;cases h
 | some z=>rw[e]at h;cases h;show(z,rfl,rfl)
def aY{l:List Addr}{y:V}(h:(l.map V.ref)[i]? =some y):∃ z,l[i]? =some z/\y=.ref z:=by
 rw[Tw]at h
 cases e:l[i]? with
 | none=>rw[e]at h;cases h
 | some z=>rw[e]at h;cases h;show(z,rfl,rfl)
def  uN{h w:Int}(h0:1<=h)(h1:h<=6):CMul h w:=.inl (by omega,by omega)
def lU{a:List Addr}{k:Int}(h0:0<=k)(h:a[k.toNat]? =some p):atI (a.map V.ref) k=↑p:=by
 have e:((k.toNat:Nat):Int)=k:=Int.toNat_of_nonneg h0;have b:(a.map V.ref)[k.toNat]? =↑p:=by rw[Tw,h];rfl
 have q:=fG b;rw[e]at q;show q
section
variable{k:Nat}{lo:Int}{n:Nat}{tt:TT}{te:TE}{fin:Addr->Hp->Prop}{σ0:St}{H1:Hp}{K:Frag}{a:Addr}
def o9{n i:Nat}(b:Nat->Bool)(h:i<n)(a:n<=900):((List.range i).filter b).length<=900:=by
 have:=Ue b<|List.range i;rw[UG]at this;lia
def xg (b:Nat->Bool) (f:Nat->V) (w:n<=900)
  (t:∀ i H R,i<n->Same H1 H->(∀ c,Same H c->R (b i) c)->tt (σ0.set k ⇑(lo+i)) H R)
  (u:∀ i H Q,i<n->b i=true->Same H1 H->(∀ c,Same H c->Q (f i) c)->te (σ0.set k ⇑(lo+i)) H Q)
  (v:∀ l H,H1 l=none->Same H1 H->H l=↥(((List.range n).filter b).map f)->fin l H):
  CompR (Itr lo n) (gName k) tt te fin σ0 H1:=by
 show zh (λl i σ H=>(σ=σ0\/∃ o,σ=σ0.set k o)/\Same H1 H/\H l=↥(((List.range i).filter b).map f)) (λl d=>(.inl rfl,(Tu H1).laid d,by rw[ah];rfl)) ?_<|λl σ H d p=>v l H d p.2.1 p.2.2;rintro l i σ H d j ⟨q,s1,s⟩;rw[aZ]
 have e:σ.set k ⇑(lo+i)=σ0.set k ⇑(lo+i):=by
  rcases q with rfl | ⟨o,rfl⟩
  . rfl
  . show Vb ..
 rw[e];show t i H _ j s1 λr g=>?_;have a:=g _ _ s
 cases h:b i with
 | false=>
  rw[TX TB];show(.inr (_,rfl),s1.trans g,?_);rw[UQ,Us,Um,h]
  simpa using a
 | true=>
  rw[TZ rfl];show u i r _ j h (s1.trans g) λx m=>(_,m _ _ a,by rw[Tn];show aH<|TU (o9 b j w) #[1],.inr (_,rfl),((s1.trans g).trans m).own d,?_);rw[ah,UQ,Us,Um,h];simp
def dM {xs:List V} (b:Nat->Bool) (f:Nat->V) (y:xs.length<=900) (z:SqL K H1 a xs)
  (t:∀ i x H R,xs[i]? =some x->Same H1 H->(∀ d,Same H d->R (b i) d)->tt (σ0.set k<|some x) H R)
  (u:∀ i x H Q,xs[i]? =some x->b i=true->Same H1 H->(∀ d,Same H d->Q (f i) d)->te (σ0.set k<|some x) H Q)
  (v:∀ l H,H1 l=none->Same H1 H->H l=↥(((List.range xs.length).filter b).map f)->fin l H):
  CompR (Itl K a) (gName k) tt te fin σ0 H1:=by
 show mV (xs:=xs) (λl i σ H=>(σ=σ0\/∃ o,σ=σ0.set k o)/\Same H1 H/\H l=↥(((List.range i).filter b).map f)) (λl g=>(.inl rfl,(Tu H1).laid g,by rw[ah];rfl)) (λl i σ H _ _ p=>p.2.1.seq z) ?_<|λl σ H g p=>v l H g p.2.1 p.2.2;rintro l i x σ H g m ⟨q,s1,s⟩;have w:i<xs.length:=(Tr.mp m).1;rw[aZ]
 have e:σ.set k (some x)=σ0.set k (some x):=by
  rcases q with rfl | ⟨o,rfl⟩
  . rfl
  . show Vb ..
 rw[e];show t i x H _ m s1 λr h=>?_;have c:=h _ _ s
 cases j:b i with
 | false=>
  rw[TX TB];show(.inr (_,rfl),s1.trans h,?_);rw[UQ,Us,Um,j]
  simpa using c
 | true=>
  rw[TZ rfl];show u i x r _ m j (s1.trans h) λA n=>(_,n _ _ c,by rw[Tn];show aH<|TU (o9 b w y) #[1],.inr (_,rfl),((s1.trans h).trans n).own g,?_);rw[ah,UQ,Us,Um,j];simp
def  mO (b:Nat->Bool) (f:Nat->Int) (h:n<=900)
  (d:∀ i H R,i<n->Same H1 H->(∀ a,Same H a->R (b i) a)->tt (σ0.set k ⇑(lo+i)) H R)
  (e:∀ i H Q,i<n->b i=true->Same H1 H->(∀ a,Same H a->Q (.int<|f i) a)->te (σ0.set k ⇑(lo+i)) H Q)
  (g:∀ l H,H1 l=none->Same H1 H->H l=↥((((List.range n).filter b).map f).map V.int)->fin l H):
  CompR (Itr lo n) (gName k) tt te fin σ0 H1:=
 xg b (λi=>.int<|f i) h d e λl H j s1 c=>g l H j s1 (by rw[Uq];show c)
def JH(b:Int->Bool)(f:Int->Int)(xs:∅):((List.range xs.length).filter λi=>b<|xs.getD i 0).map (λi=>V.int<|f<|xs.getD i 0)=((xs.filter b).map f).map V.int:=by
 have e:xs=(List.range xs.length).map λi=>xs.getD i 0:=by
  show U0 λi=>?_;rw[Tw];by_cases h:i<xs.length
  . rw[UE h,To h];simp[List.getD,h]
  . rw[TV #[4],TV (by simpa using h)];rfl
 conv=>rhs;rw[e]
 rw[Vw,Uq,Uq];rfl
def bE {xs:∅} (b:Int->Bool) (f:Int->Int) (p:xs.length<=900) (r:SqL K H1 a (xs.map V.int))
  (m:∀ x H R,x∈xs->Same H1 H->(∀ d,Same H d->R (b x) d)->tt (σ0.set k ⇑x) H R)
  (n:∀ x H Q,x∈xs->b x=true->Same H1 H->(∀ d,Same H d->Q (.int<|f x) d)->te (σ0.set k ⇑x) H Q)
  (o:∀ l H,H1 l=none->Same H1 H->H l=↥(((xs.filter b).map f).map V.int)->fin l H):
  CompR (Itl K a) (gName k) tt te fin σ0 H1:=by
 show dM (xs:=xs.map V.int) (λi=>b<|xs.getD i 0) (λi=>.int<|f<|xs.getD i 0) (by rw[Tn];show p) r ?_ ?_ ?_
 . intro i x H R e s1 h;obtain⟨z,c,rfl⟩:=aI e;rw[cC c]at h;show m z H R (Tv c) s1 h
 . intro i x H Q e g s1 h;obtain⟨z,c,rfl⟩:=aI e;rw[cC c]at h g;show n z H Q (Tv c) g s1 h
 . intro l H q s1 j;show o l H q s1 ?_;rw[Tn]at j;rw[j,JH]
structure NewAt(H1 H:Hp)(l:Addr)(as:List Addr)(os:List HO):Prop where
 len:as.length=os.length
 nd:as.Nodup
 nl:l∉as
 fr:∀ a∈as,H1 a=none
 at_:∀(j:Nat) (a:Addr) (o:HO),as[j]? =some a->os[j]? =some o->H a=some o
def  NewAt.nil{H1 H:Hp}{l:Addr}:NewAt H1 H l [] [] where
 len:=rfl
 nd:=VW
 nl:=by simp
 fr:=λa h=>nomatch h
 at_:=λj a o h=>by simp at h
def  NewAt.same{H1 H c:Hp}{l:Addr}{b:List Addr}{os:List HO}(x:NewAt H1 H l b os)(s:Same H c):NewAt H1 c l b os:=
 (x.len,x.nd,x.nl,x.fr,λj a o h1 h2=>s _ _<|x.at_ j a o h1 h2)
def NewAt.mem{H1 H:Hp}{l:Addr}{d:List Addr}{os:List HO}(x:NewAt H1 H l d os){a:Addr}(h:a∈d):∃ o,H a=some o:=by
 obtain⟨j,c,e⟩:=Vy.mp h;have b:j<os.length:=by rw[← x.len];show c
 show(os[j],x.at_ j a os[j] (by rw[To c,e])<|To b)
def NewAt.more{H1 H i:Hp}{l p:Addr}{h:List Addr}{os:List HO}{o u:HO}(x:NewAt H1 H l h os)(s1:Same H1 H)(s:Same H i)(g:H p=none)(e:i p=some o)(y:H l=some u)(t:HO):NewAt H1 (upd i l t) l (h++[p]) (os++[o]):=by
 have f:p≠l:=λz=>by rw[z,y]at g;cases g
 show(by simp[x.len],?_,?_,?_,?_)
 . show VS.mpr (x.nd,by simp,λa c b w z=>?_);rw[TH.mp w]at z;obtain⟨m,e2⟩:=x.mem c;rw[z,g]at e2;cases e2
 . intro d;rcases Ud.mp d with d | d
   . show x.nl d
   . show f (TH.mp d).symm
 . intro a c;rcases Ud.mp c with c | c
   . show x.fr a c
   . rw[TH.mp c]
     cases q:H1 p with
     | none=>rfl
     | some v=>rw[s1 _ _ q]at g;cases g
 . intro j a m h1 h2;have A:=x.len;by_cases r:j<h.length
   . rw[Ub r]at h1;rw[Ub #[4]]at h2;have k:a≠l:=λz=>x.nl<|z ▸ Tv h1;rw[ak k];show s _ _ (x.at_ j a m h1 h2)
   . rw[Uc #[4]]at h1;rw[Uc #[4]]at h2
     have n:j-h.length=0:=by
      have:=(Tr.mp h1).1;simp at this;lia
     rw[n]at h1;rw[show j-os.length=0 by lia]at h2;simp at h1 h2;subst h1 h2;rw[ak f];show e
def Gi (b:Nat->Bool) (o:Nat->HO) (E:n<=900)
  (w:∀ i H R,i<n->Same H1 H->(∀ g,Same H g->R (b i) g)->tt (σ0.set k ⇑(lo+i)) H R)
  (z:∀ i H Q,i<n->b i=true->Same H1 H->(∀ a g,Same H g->H a=none->g a=some (o i)->Q (.ref a) g)->te (σ0.set k ⇑(lo+i)) H Q)
  (B:∀ l c H,H1 l=none->Same H1 H->H l=↥(c.map V.ref)->NewAt H1 H l c (((List.range n).filter b).map o)->fin l H):
  CompR (Itr lo n) (gName k) tt te fin σ0 H1:=by
 show zh (λl i σ H=>(σ=σ0\/∃ u,σ=σ0.set k u)/\Same H1 H/\∃ c:List Addr,H l=↥(c.map V.ref)/\NewAt H1 H l c (((List.range i).filter b).map o)) (λl h=>(.inl rfl,(Tu H1).laid h,[],by rw[ah];rfl,NewAt.nil)) ?_<|λl σ H h ⟨_,s1,c,r,x⟩=>B l c H h s1 r x;rintro l i σ H h m ⟨v,s1,c,r,x⟩;rw[aZ]
 have e:σ.set k ⇑(lo+i)=σ0.set k ⇑(lo+i):=by
  rcases v with rfl | ⟨u,rfl⟩
  . rfl
  . show Vb ..
 rw[e];show w i H _ m s1 λA t=>?_;have f:=t _ _ r;have q:=x.same t;have d:=s1.trans t
 cases s:b i with
 | false=>
  rw[TX TB];show(.inr (_,rfl),d,c,f,?_);rw[UQ,Us,Um,s]
  simpa using q
 | true=>
  rw[TZ rfl];show z i A _ m s d λp F j D C=>(_,j _ _ f,?_,.inr (_,rfl),(d.trans j).own h,c++[p],?_,?_)
  . rw[Tn,q.len,Tn];show aH (TU (o9 b m E) #[1])
  . rw[ah];simp
  . have y:=q.more d j D C f<|.lst<|c.map V.ref++[V.ref p];rw[UQ,Us,Um,s]
    simpa using y
def oJ {xs:List V} (b:Nat->Bool) (o:Nat->HO) (G:xs.length<=900) (D:SqL K H1 a xs)
  (v:∀ i x H R,xs[i]? =some x->Same H1 H->(∀ g,Same H g->R (b i) g)->tt (σ0.set k<|some x) H R)
  (w:∀ i x H Q,xs[i]? =some x->b i=true->Same H1 H->(∀ a g,Same H g->H a=none->g a=some (o i)->Q (.ref a) g)->te (σ0.set k<|some x) H Q)
  (C:∀ l c H,H1 l=none->Same H1 H->H l=↥(c.map V.ref)->NewAt H1 H l c (((List.range xs.length).filter b).map o)->fin l H):
  CompR (Itl K a) (gName k) tt te fin σ0 H1:=by
 show mV (xs:=xs) (λl i σ H=>(σ=σ0\/∃ t,σ=σ0.set k t)/\Same H1 H/\∃ c:List Addr,H l=↥(c.map V.ref)/\NewAt H1 H l c (((List.range i).filter b).map o)) (λl h=>(.inl rfl,(Tu H1).laid h,[],by rw[ah];rfl,NewAt.nil)) (λl i σ H _ _ p=>p.2.1.seq D) ?_<|λl σ H h ⟨_,s1,c,n,x⟩=>C l c H h s1 n x;rintro l i y σ H h r ⟨u,s1,c,n,x⟩;have A:i<xs.length:=(Tr.mp r).1;rw[aZ]
 have e:σ.set k (some y)=σ0.set k (some y):=by
  rcases u with rfl | ⟨t,rfl⟩
  . rfl
  . show Vb ..
 rw[e];show v i y H _ r s1 λB s=>?_;have f:=s _ _ n;have m:=x.same s;have d:=s1.trans s
 cases q:b i with
 | false=>
  rw[TX TB];show(.inr (_,rfl),d,c,f,?_);rw[UQ,Us,Um,q]
  simpa using m
 | true=>
  rw[TZ rfl];show w i y B _ r q d λp I j F E=>(_,j _ _ f,?_,.inr (_,rfl),(d.trans j).own h,c++[p],?_,?_)
  . rw[Tn,m.len,Tn];show aH (TU (o9 b A G) #[1])
  . rw[ah];simp
  . have z:=m.more d j F E f<|.lst<|c.map V.ref++[V.ref p];rw[UQ,Us,Um,q]
    simpa using z
end
def DVs.of_get{K:Frag}{H:Hp}:∀{xs:List V} {a:List PyData},xs.length=a.length->(∀(i:Nat) x d,xs[i]? =some x->a[i]? =some d->DV K H x d)->DVs K H xs a
 | [],[],_,_=>.nil
 | [],_::_,h,_=>by simp at h
 | _::_,[],h,_=>by simp at h
 | x::xs,d::a,h,f=>.cons (f 0 x d rfl rfl) (DVs.of_get (by simpa using h) λi y e h1 h2=>f (i+1) y e (by simpa using h1) (by simpa using h2))
abbrev Xu:=@DVs.of_get
def lV:∀{a:List PyData},(∀ d∈a,PyData.canLay0 d=true)->PyData.canLayAll0 a=true
 | [],_=>rfl
 | d::r,h=>by rw[PyData.canLayAll0,h d TR,lV λe b=>h e<|TD _ b];rfl
def kh{n:Nat}:∀{a:List PyData},(∀ d∈a,PyData.depth d<=n)->PyData.depthAll a<=n
 | [],_=>UK _
 | d::r,h=>by rw[PyData.depthAll];show Nat.max_le.mpr (h d TR,kh λe b=>h e<|TD _ b)
def  dLI(xs:∅):PyData:=.list (xs.map PyData.int)
def A9(xs:∅):PyData.canLay0 (dLI xs)=true:=by unfold dLI;rw[PyData.canLay0];show oZ xs
def Cp(xs:∅):PyData.depth (dLI xs)=1:=by unfold dLI;rw[PyData.depth,kC]
def Hc(xs ys:∅):PyData.eqv (dLI xs) (dLI ys)=decide (xs=ys):=by unfold dLI;rw[PyData.eqv,xZ]
def wb{α:Type}[DecidableEq α](g:α->PyData)(c:∀ a b,PyData.eqv (g a) (g b)=decide (a=b)):∀ xs ys:List α,PyData.eqvAll (xs.map g) (ys.map g)=decide (xs=ys)
 | [],[]=>rfl
 | [],_::_=>rfl
 | _::_,[]=>rfl
 | x::xs,y::ys=>by
  rw[T7,T7,PyData.eqvAll,c,wb g c xs ys,Up];simp
structure IsLL(H:Hp)(l:Addr)(as:List Addr)(Ti:List ∅):Prop where
 top:H l=↥(as.map V.ref)
 len:as.length=Ti.length
 at_:∀(j:Nat) (a:Addr) (xs:∅),as[j]? =some a->Ti[j]? =some xs->H a=↥(xs.map V.int)
variable{as:List Addr}{Ti:List ∅}
def  IsLL.same{b:Hp}{l:Addr}(x:IsLL H l as Ti)(s:Same H b):IsLL b l as Ti:=
 (s _ _ x.top,x.len,λj a c h1 h2=>s _ _<|x.at_ j a c h1 h2)
def IsLL.dv{K:Frag}{l:Addr}(x:IsLL H l as Ti):DV K H (.ref l) (.list<|Ti.map dLI):=by
 show .lst (TW x.top) (Xu (by simp[x.len]) λi y d h1 h2=>?_);obtain⟨a,c,rfl⟩:=aY h1;rw[Tw]at h2
 cases e:Ti[i]? with
 | none=>rw[e]at h2;cases h2
 | some b=>
  rw[e]at h2;cases h2;show .lst (TW<|x.at_ i a b c e) (.ints b)
def Cq(Ti:List ∅):SeqAt.shaped (.list<|Ti.map dLI)=true:=by
 have h1:PyData.canLayAll0 (Ti.map dLI)=true:=lV λd a=>by obtain⟨x,_,rfl⟩:=Tz.mp a;show A9 x
 have h2:PyData.depthAll (Ti.map dLI)<=1:=kh λd a=>by obtain⟨x,_,rfl⟩:=Tz.mp a;rw[Cp];show TQ _
 simp[SeqAt.shaped,PyData.canLay0,h1,PyData.depth];lia
def Oh{K:Frag}{Q:VK}{q:Addr}{bs:List Addr}{yss:List ∅}(a:IsLL H p as Ti)(b:IsLL H q bs yss)(h:Q (.bl<|decide<|Ti=yss) H):cEq K (.ref p) (.ref q) H Q:=by
 change rEqD K (.ref p) (.ref q) H Q;show(_,_,a.dv,b.dv,Cq Ti,Cq yss,?_);rw[PyData.eqv,wb dLI Hc];show h
structure FlOk(h w g:Int):Prop where
 h0:1<=h
 h1:h<=6
 w0:1<=w
 w1:w<=6
 m:h*w<=16
 g0:1<=g
 g1:g<=6
section
variable{K:Frag}{H:Hp}{Q:VK}
def rH{p:Addr}{xs:List V}(b:H p=↥xs)(h:Q (.bl true) H):kIsi [.ref p,.ty "list"] H Q:=by
 show(by decide,d3 (a:="list") (by unfold o6;dsimp only;rw[b]) ?_);rw[show isTy "list" "list"=true by decide];show h
def zn{p:Addr}{xs:List V}(b:H p=some (.tup xs))(h:Q (.bl true) H):kIsi [.ref p,.ty "tuple"] H Q:=by
 show(by decide,d3 (a:="tuple") (by unfold o6;dsimp only;rw[b]) ?_);rw[show isTy "tuple" "tuple"=true by decide];show h
def El{p q:Addr}{xs ys:List V}(a:H p=↥xs)(c:H q=↥ys)(b:xs.length+ys.length<=1000)(h:Q .non (upd H p<|.lst<|xs++ys)):kf (.ref p) [.ref q] H Q:=by
 change bnd (unM<|H p) _;rw[a];change bnd (unM<|H q) _;rw[c];show(Uy<|aH b,h)
def MM{p:Addr}{xs:List V}(a:H p=↥xs)(h:Q .non (upd H p<|.lst [])):ze (.ref p) [] H Q:=by
 change bnd (unM<|H p) _;rw[a];show h
def  uO{n:Nat}{t:TGs}{σ:St}{k:St->Hp->Prop}{p:Addr}{xs:List V}(a:H p=some (.tup xs))(b:xs.length=n)(h:t xs σ H k):gTup K n t (.ref p) σ H k:=(p,xs,rfl,XR a,b,h)
def yd{i j:Nat}{x y:V}{σ:St}{k:St->Hp->Prop}:gCons (gName i) (gCons (gName j) gNil) [x,y] σ H k=k ((σ.set i<|some x).set j<|some y) H:=by
 show propext (?_,λh=>(x,[y],rfl,y,[],rfl,rfl,h));rintro⟨v,r,e,b,r2,e2,a,h⟩;cases e;cases e2;show h
end
end L2
namespace L2
open PySem PySem.Builtin PySem.Builtin.Str
def  tx(l:List Nat):Str:=⟨l.toArray⟩
def zo(l:List Nat):(tx l).cps.toList=l:=by simp[tx]
def Px(x:Str):tx x.cps.toList=x:=by cases x;simp[tx]
def JI{a b:List Nat}(h:tx a=tx b):a=b:=by rw[← zo a,h,zo]
def pb(l:List Nat):(tx l).length=l.length:=by simp[tx,Str.length]
def JJ(a b:List Nat):tx a++tx b=tx (a++b):=by
 show Str.ext' ?_;rw[Str.cps_append];simp[tx]
def bN(a b:List Nat):decide (tx a=tx b)=decide (a=b):=by
 by_cases h:a=b
 . subst h;simp
 . have:¬ tx a=tx b:=λe=>h<|JI e;rw[Tq h,Tq this]
def  catL(c:Nat):List (List Nat)->List Nat
 | []=>[]
 | [x]=>x
 | x::y::r=>x++c::catL c (y::r)
def Ba(c:Nat):∀ ts:List (List Nat),Str.join (tx [c]) (ts.map tx)=tx (catL c ts)
 | []=>rfl
 | [x]=>rfl
 | x::y::r=>by
  change tx x++tx [c]++Str.join (tx [c]) ((y::r).map tx)=_;rw[Ba c (y::r),JJ,JJ];change tx _=tx (x++c::catL c (y::r));rw[UR];rfl
def  Ld(a:Str)(ts:List Str):Txt.join a ts=Str.join a ts:=StrLaws.glued_eq_join a ts
def Hd{c:Nat}:∀{a b x y:List Nat},c∉a->c∉b->a++c::x=b++c::y->a=b/\x=y
 | [],[],_,_,_,_,h=>(rfl,by simpa using h)
 | [],b::bs,_,_,_,hb,h=>by
  simp at h;show absurd (TN.mpr<|.inl h.1) hb
 | a::as,[],_,_,ha,_,h=>by
  simp at h;show absurd (TN.mpr<|.inl h.1.symm) ha
 | a::as,b::bs,x,y,ha,hb,h=>by
  simp at h;have:=Hd (λz=>ha<|TD _ z) (λz=>hb<|TD _ z) h.2;show(by rw[h.1,this.1],this.2)
def Em{c:Nat}:∀{x:List Nat} {r:List (List Nat)} {y:List Nat},c∈catL c (x::y::r):=by
 intro x r y;change c∈x++c::_;simp
def Eo{c:Nat}:∀{xs ys:List (List Nat)},xs≠[]->ys≠[]->(∀ x∈xs,c∉x)->(∀ y∈ys,c∉y)->catL c xs=catL c ys->xs=ys
 | [],_,h,_,_,_,_=>absurd rfl h
 | _,[],_,h,_,_,_=>absurd rfl h
 | [x],[y],_,_,_,_,h=>by
  have h':x=y:=h;rw[h']
 | [x],y::z::r,_,_,hx,_,h=>by
  have h':x=catL c (y::z::r):=h;show absurd (h' ▸ Em) (hx x TR)
 | x::z::r,[y],_,_,_,hy,h=>by
  have h':catL c (x::z::r)=y:=h;show absurd (h' ▸ Em) (hy y TR)
 | x::z::r,y::u::s,_,_,hx,hy,h=>by
  obtain⟨e1,e2⟩:=Hd (hx x TR) (hy y TR) (show x++c::catL c (z::r)=y++c::catL c (u::s) from h);rw[e1,Eo (by simp) (by simp) (λw hw=>hx w<|TD _ hw) (λw hw=>hy w<|TD _ hw) e2]
def Le(x y:Str):Txt.split x y≠[]:=by
 intro h;unfold Txt.split at h
 split at h
 . cases h
 . split at h
   . cases h
   . rw[StrLaws.partsBetween_eq]at h;obtain⟨p,r,e⟩:=StrLaws.partsFrom_ne x y.length 0<|occurrences x y 0 x.length<|x.length+1;rw[e]at h;cases h
def Lg{c:Nat}{Td:List (List Nat)}(a:Td≠[])(d:∀ r∈Td,c∉r):Txt.split (tx<|catL c Td) (tx [c])=Td.map tx:=by
 have h1:=StrLaws.join_split (tx<|catL c Td)<|tx [c];have h2:∀ p∈Txt.split (tx<|catL c Td) (tx [c]),c∉p.cps.toList:=StrLaws.split_free _ c;have h3:=Le (tx<|catL c Td)<|tx [c];generalize Txt.split (tx<|catL c Td) (tx [c])=S at*
 have e:S=(S.map (·.cps.toList)).map tx:=by
  rw[Uq]
  conv=>lhs;rw[← W0 S]
  show Vd λx _=>(Px x).symm
 rw[e,Ba]at h1;have h4:=JI h1;have h5:=Eo (c:=c) (xs:=S.map (·.cps.toList)) (ys:=Td) (by simpa using h3) a (λx f=>by obtain⟨p,b,rfl⟩:=Tz.mp f;show h2 p b) d h4;rw[e,h5]
end L2
namespace L2
end L2
namespace L2
open PySem PySem.Spec PyProof.Rows
local macro_rules|`(tactic|walk_at "w")=>wk9 ws1
local macro_rules|`(tactic|symm)=>`(tactic|walk_at "w")
section
variable{k:Nat}{tt:TT}{te:TE}{fin:Addr->Hp->Prop}{σ0:St}{H1:Hp}
def JK {cs:List Nat} (b:Nat->Bool) (f:Nat->V) (A:cs.length<=900)
  (u:∀ i c H R,cs[i]? =some c->Same H1 H->(∀ a,Same H a->R (b i) a)->tt (σ0.set k<|some<|.str<|tx [c]) H R)
  (v:∀ i c H Q,cs[i]? =some c->b i=true->Same H1 H->(∀ a,Same H a->Q (f i) a)->te (σ0.set k<|some<|.str<|tx [c]) H Q)
  (z:∀ l H,H1 l=none->Same H1 H->H l=↥(((List.range cs.length).filter b).map f)->fin l H):
  CompR (Its<|tx cs) (gName k) tt te fin σ0 H1:=by
 intro l q;have g:(tx cs).cps.size=cs.length:=by simp[tx]
 show(λi m σ H=>m=cs.length-i/\i<=cs.length/\(σ=σ0\/∃ n,σ=σ0.set k n)/\Same H1 H/\H l=↥(((List.range i).filter b).map f),(cs.length,by simp,UK _,.inl rfl,(Tu H1).laid q,by rw[ah];rfl),?_);rintro i m σ H ⟨rfl,D,t,s1,s⟩;by_cases d:i<cs.length
 . show .inr (by change i < (tx cs).cps.size;rw[g];show d,λσ H=>(σ=σ0\/∃ n,σ=σ0.set k n)/\Same H1 H/\H l=↥(((List.range<|i+1).filter b).map f),λE a B=>(cs.length - (i+1),by lia,rfl,d,B),?_);rintro x a ⟨rfl,c,y,rfl⟩;have h:cs[i]? =some c:=by simpa [tx] using y
   change gName k (.str<|tx [c]) σ a _;rw[aZ]
   have e:σ.set k (some<|.str<|tx [c])=σ0.set k (some<|.str<|tx [c]):=by
    rcases t with rfl | ⟨n,rfl⟩
    . rfl
    . show Vb ..
   rw[e];show u i c a _ h s1 λw o=>?_;have j:=o _ _ s
   cases p:b i with
   | false=>
    rw[TX TB];show(.inr (_,rfl),s1.trans o,?_);rw[UQ,Us,Um,p]
    simpa using j
   | true=>
    rw[TZ rfl];show v i c w _ h p (s1.trans o) λC r=>(_,r _ _ j,by rw[Tn];show aH<|TU (o9 b d A) #[1],.inr (_,rfl),((s1.trans o).trans r).own q,?_);rw[ah,UQ,Us,Um,p];simp
 . have e:i=cs.length:=by lia
   subst e;show .inl (by change(tx cs).cps.size<=_;rw[g];show TQ _,z l H q s1 s)
end
def nn{α:Type}(xs:∅)(g:Int->α):(List.range xs.length).map (λi=>g<|xs.getD i 0)=xs.map g:=by
 have e:xs=(List.range xs.length).map λi=>xs.getD i 0:=by
  show U0 λi=>?_;rw[Tw];by_cases h:i<xs.length
  . rw[UE h,To h];simp[List.getD,h]
  . rw[TV #[4],TV (by simpa using h)];rfl
 conv=>rhs;rw[e]
 rw[Uq];rfl
def Ep{a:Str}{ts:List Str}(h1:ts.length<=1000)(h2:∀ t∈ts,t.length<=1000)(h3:a.length<=10):JoinOk a ts=true:=by
 unfold JoinOk;rw[UU];show StrLaws.joinFits (B:=1000) h2 ?_;have c:ts.length*1000<=1000*1000:=Vf _ h1;have b:ts.length*a.length<=1000*10:=Vg h1 h3;lia
abbrev rIsN:R2:=λx y H Q=>y=.non/\Q (.bl<|decide<|x=.non) H
abbrev rNotN:R2:=λx y H Q=>y=.non/\Q (.bl<|!decide (x=.non)) H
def  kStr:List V->Hp->VK->Prop
 | [.int i],H,Q=>i.natAbs.log2<1920/\Q (.str<|Str.ofString<|toString i) H
 | _,_,_=>False
section
variable{X:Cx}
def JL:CallR X (.type "str") kStr:=by
 intro c s σ H e d Q I r h;unfold kStr at h
 split at h
 . obtain⟨a,q⟩:=h
   cases r with
   | cons r0 b=>
    cases b;obtain⟨t,rfl⟩:=r0;show PySem.P.str_of_int a (.str _,H,I.tok _,(_,rfl),q)
 . show h.elim
end
section
variable{K:Frag}{H:Hp}{Q:VK}
def gM{x:V}:rIsN x .non H Q=Q (.bl<|decide<|x=.non) H:=by simp[rIsN]
def fK{x:V}:rNotN x .non H Q=Q (.bl<|!decide (x=.non)) H:=by simp[rNotN]
def  gl{i:Int}:kStr [.int i] H Q=(i.natAbs.log2<1920/\Q (.str<|Str.ofString<|toString i) H):=rfl
end
structure Bt2(mg:Str->Option Value):Prop extends Bt mg where
 all_:mg "all"=none
 sum_:mg "sum"=none
 enumerate_:mg "enumerate"=none
section
variable{K:Frag}{H:Hp}{Q:VK}{D:Ends}{σ:St}{g:TG}{tb:TS}{ta:TA}{ix:List (Option Nat)}{tt:TT}{te tf:TE}{k:Nat}
def  gm:tIf tt te tf σ H Q=tt σ H λc a=>if c=true then te σ a Q else tf σ a Q:=rfl
def  cj:tComp ix (sO ta) g tt te σ H Q=ta σ H λvs a=>∃ i j:Int,vs=[.int i,.int j]/\(-(2^62)<=i/\i<2^62/\ -(2^62)<=j/\j<2^62)/\CompR (Itr i (j-i).toNat) g tt te (λl b=>Q (.ref l) b) (subσ ix σ) a:=rfl
def  bO:sComp k ix (sO ta) g tt te D σ H=ta σ H λvs a=>∃ i j:Int,vs=[.int i,.int j]/\(-(2^62)<=i/\i<2^62/\ -(2^62)<=j/\j<2^62)/\CompR (Itr i (j-i).toNat) g tt te (λl b=>D.nx (σ.set k ↑l) b) (subσ ix σ) a:=rfl
def isiE{x:V}{n t:String}{b:Bool}(d:o6 H x=some t)(c:vZ n=true)(a:isTy t n=b):kIsi [x,.ty n] H Q=Q (.bl b) H:=by
 subst a;change(vZ n=true/\bnd (o6 H x) λt=>Q (.bl<|isTy t n) H)=_;rw[d];simp only[c,true_and,bG]
def  ck{i:Int}:kIsi [.int i,.ty "int"] H Q=Q (.bl true) H:=isiE (t:="int") rfl #[1] #[1]
def  cm{i:Int}:kIsi [.int i,.ty "bool"] H Q=Q (.bl false) H:=isiE (t:="int") rfl #[1] #[1]
def  cq{i:Int}:kIsi [.int i,.ty "str"] H Q=Q (.bl false) H:=isiE (t:="int") rfl #[1] #[1]
def  cw{i:Bool}:kIsi [.bl i,.ty "bool"] H Q=Q (.bl true) H:=isiE (t:="bool") rfl #[1] #[1]
def  cy{i:Bool}:kIsi [.bl i,.ty "int"] H Q=Q (.bl true) H:=isiE (t:="bool") rfl #[1] #[1]
def  cA{i:Str}:kIsi [.str i,.ty "str"] H Q=Q (.bl true) H:=isiE (t:="str") rfl #[1] #[1]
def  cB{i:Bool}:kIsi [.bl i,.ty "str"] H Q=Q (.bl false) H:=isiE (t:="bool") rfl #[1] #[1]
def  d8{A B:Prop}:(if true=true then A else B)=A:=TZ rfl
def  d9{A B:Prop}:(if false=true then A else B)=B:=TX TB
def eh{i:Int}:rU (λi=>.int<|-i) (.int i) H Q=Q (.int<|-i) H:=by
 show propext (?_,λh=>(i,rfl,h));rintro⟨j,e,h⟩;cases e;show h
def Er {a:Addr} {xs:List V} (b:Nat->St->Hp->Prop) (h0:b 0 σ H) (q:∀ i σ H,i<=xs.length->b i σ H->SqL K H a xs)
  (l:∀ i x T σ H,xs[i]? =some x->b i σ H->H T=none->g (.ref T) σ (upd H T<|.tup [.int i,x]) λf j=>tb {D with nx:=b<|i+1,ct:=b<|i+1,bk:=D.nx} f j) (k:∀ σ H,b xs.length σ H->D.nx σ H):
  LoopR (Ite K a) g tb D σ H:=by
 show(λi m σ H=>m=xs.length-i/\i<=xs.length/\b i σ H,(xs.length,by simp,UK _,h0),?_);rintro i m σ H ⟨rfl,n,p⟩;have d:=q i σ H n p;by_cases c:i<xs.length
 . show .inr ((xs,xs[i],d,by simp[c]),b<|i+1,λs o r=>(xs.length - (i+1),by lia,rfl,c,r),λv o y=>?_);obtain⟨T,x,rfl,h,rfl,e1⟩:=y;show l i x T σ H (e1 xs d) p h
 . have e:i=xs.length:=by lia
   subst e;show .inl ((xs,d,TQ _),k σ H p)
def ixT{p:Addr}{i:Int}{xs:List V}{v:V}(h:H p=some (.tup xs))(e:atI xs i=some v)(q:Q v H):cIx (.ref p) (.int i) H Q:=by
 rw[K8 h];show d3 e q
def ixL{p:Addr}{i:Int}{xs:List V}{v:V}(h:H p=↥xs)(e:atI xs i=some v)(q:Q v H):cIx (.ref p) (.int i) H Q:=by
 rw[Ps h];show d3 e q
def  ixI{p:Addr}{i:Int}{ns:∅}(h:H p=↥(ns.map V.int))(h0:0<=i)(h1:i<ns.length)(q:Q (.int<|ns.getD i.toNat 0) H):cIx (.ref p) (.int i) H Q:=ixL h (Ek h0 h1) q
end
def  cMulB:R2
 | .int i,.int j,H,Q=>IntMulOk i j/\Q (.int<|i*j) H
 | _,_,_,_=>False
end L2
namespace Att
open PySem PySem.W PySem.Calls PyProof.Rows
end Att
namespace L2
open PySem PySem.Spec PyProof.Rows
section
variable{K:Frag}{H:Hp}{Q:VK}{D:Ends}{σ:St}
def  PZ{i j:Int}:cMulB (.int i) (.int j) H Q=(IntMulOk i j/\Q (.int<|i*j) H):=rfl
def  gN{i j:Int}:cPow (.int i) (.int j) H Q=(CPow i j/\Q (.int<|i^j.toNat) H):=rfl
def  Bb{ix:List (Option Nat)}{d:TE}{g:TG}{b:TT}{te:TE}:tComp ix (iTup K d) g b te σ H Q=d σ H λx c=>∃ a,x=.ref a/\(∃ xs,SqT K c a xs)/\CompR (Itt K a) g b te (λl e=>Q (.ref l) e) (subσ ix σ) c:=rfl
def L9{p:Addr}{bs:List Bool}(b:H p=↥(bs.map V.bl))(h:Q (.bl<|bs.any id) H):kAny [.ref p] H Q:=by
 change bnd (unL<|H p) _;rw[b];show d3 (a:=bs.map V.bl) rfl (bs,rfl,h)
def rJ{p q:Addr}{xs ys:List V}(b:H p=↥xs)(d:H q=↥ys)(c:xs.length+ys.length<=1000)(h:∀ r,H r=none->Q (.ref r) (upd H r<|.lst<|xs++ys)):cAdd (.ref p) (.ref q) H Q:=by
 change bnd (unM<|H p) _;rw[b];show d3 (a:=xs) rfl ?_;rw[d];show d3 (a:=ys) rfl (Uy<|aH c,h)
def Es {g:TG} {o:TT} {te:TE} {a:Addr} {xs:List V} {h:Addr->Hp->Prop} {r:St} {f:Hp} (d:Addr->Nat->St->Hp->Prop) (h0:∀ l,f l=none->d l 0 r (upd f l<|.lst [])) (B:∀ l i σ H,f l=none->i<=xs.length->d l i σ H->SqT K H a xs)
  (v:∀ l i x σ H,f l=none->xs[i]? =some x->d l i σ H->g x σ H λk u=>o k u λb s=>if b=true then te k s λy n=>∃ ys,n l=↥ys/\ys.length<sizeLine/\d l (i+1) k (upd n l<|.lst<|ys++[y]) else d l (i+1) k s)
  (w:∀ l σ H,f l=none->d l xs.length σ H->h l H):CompR (Itt K a) g o te h r f:=by
 intro l c;show(λi m σ H=>m=xs.length-i/\i<=xs.length/\d l i σ H,(xs.length,by simp,UK _,h0 l c),?_);rintro i m σ H ⟨rfl,z,p⟩;have q:=B l i σ H c z p;by_cases j:i<xs.length
 . show .inr ((xs,xs[i],q,by simp[j]),d l<|i+1,λC A t=>(xs.length - (i+1),by lia,rfl,j,t),λx A y=>?_);obtain⟨e,y⟩:=y;subst e;show v l i x σ _ c (y xs q) p
 . have e:i=xs.length:=by lia
   subst e;show .inl ((xs,q,TQ _),w l σ H c p)
end
inductive RK where
 | Rule | Unlike | Sum | Rising | Seen | Count | Joined | NoSquare | Ring
 deriving DecidableEq
structure RCl (ι:Type) where
 A:ι->Addr
 ok:ι->Bool
section
variable{ι:Type}
def  tFldK(c:RCl ι)(e:TE)(f:Str):TE:=λσ H Q=>e σ H λx b=>∃ a k g d v,x=.ref a/\c.ok k=true/\b a=some (.ins (c.A k) g d)/\d.lookup f=some v/\Q v b
def  sFldK(c:RCl ι)(h i:TE)(f:Str):TS:=λD σ H=>i σ H λy g=>h σ g λx e=>∃ a k d b,x=.ref a/\c.ok k=true/\e a=some (.ins (c.A k) d b)/\b.length<1000/\
 D.nx σ (upd e a<|.ins (c.A k) d<|putF f y b)
def  aN(c:RCl ι)(b:ι->Bool)(m:Str)(sp:ι->Sp)(h:TE)(t:TA):TE:=λσ H Q=>h σ H λx e=>∃ a k f d,x=.ref a/\b k=true/\e a=some (.ins (c.A k) f d)/\d.lookup m=none/\
 t σ e λvs g=>sp k (x::vs) g Q E0
structure FldK(K:Frag)(c:RCl ι)(f:Str):Prop where
 ex:∀ k,c.ok k=true->Cls K (c.A k)/\NoAttr K (c.A k) f
structure MCal(P:Program)(w:World)(K:Frag)(mg:Str->Option Value)(base:Heap)(c:RCl ι)(okm:ι->Bool)(k:Nat)(m:Str)(ps:List Str)(sp:ι->Sp):Prop where
 ex:∀ i,okm i=true->∃(f:Addr) (fd:FuncData),Cls K (c.A i)/\Meth K (c.A i) m f/\FnOk P w K mg base CX0 k f fd ps (sp i)/\Binds K fd ps []
structure KCal(P:Program)(w:World)(K:Frag)(mg:Str->Option Value)(base:Heap)(k:Nat)(x:Str)(C:Addr)(ps:List Str)(sp:Sp):Prop where
 ex:∃(f:Addr) (fd:FuncData),Mk K C f/\FnOk P w K mg base CX0 k f fd ps sp/\mg x=↑C/\Binds K fd ps []
end
section
variable{ι:Type}{X:Cx}{c:RCl ι}{o e value:Expr}{es:List Expr}{f x m:Str}{p pos pos' apos:Pos}{ta tv:TE}{t:TA}{okm:ι->Bool}{k n:Nat}{ps:List Str}{sp:ι->Sp}{sp1:Sp}{C:Addr}
def cD(n:PE X e ta)(F:FldK X.K c f)(i:attributeBase e f X.env (eval e X.env)=eval e X.env:=by rfl):PE X (.Attribute e f pos) (tFldK c ta f):=by
 intro j s σ H Q I h;show Mv i<|thn (n j s σ H _ I h) λu s1 oh=>?_;obtain⟨x,t,o,g,a,k,z,B,v,y,p,w,l,q⟩:=oh;subst y;obtain rfl:u=Value.ref a:=g;obtain⟨b,m⟩:=F.ex k p;show HU o w b m l λC A d r=>(v,t,d,r,q)
def ki(v:PE X o ta)(t:PE X value tv)(F:FldK X.K c f)(g:swapsWith value (some<|.Attribute o f pos') pos.line X.env=pure false:=by rfl):PS X (.Assign [.Attribute o f pos'] value pos) (sFldK c ta tv f):=by
 intro b s σ H D I h;show plainObj_wpAny_Assign_Attribute (thn (t b s σ H _ I h) λu s1 ⟨y,C,e,A,q⟩=>thn (v b s1 σ C _ e q) λw M oh=>?_) g;obtain⟨x,J,m,p,a,k,G,L,n,B,i,l,r⟩:=oh;subst n;obtain rfl:w=Value.ref a:=p;obtain⟨j,d⟩:=F.ex k B;show HV m i j d l A λE z=>(σ,_,z,r)
def  gO {pl:Sem Bool} (M:MCal X.prog X.w X.K X.mg X.base c okm k m ps sp) (O:Room n X.A) (R:k<=n) (B:PE X o ta) (P:PA X (e::es) t)
  (d:starEach (e::es) X.env=(false ,eval e X.env)::starEach es X.env:=by rfl) (b:(backTo pos<|starEach es X.env).any (·.1)=false:=by rfl)
  (z:eval (.Call (.Attribute o m apos) (e::es) [] pos) X.env=(do
   let ov ← eval o X.env
   standAt apos.atName
   let (f ,first) ← holding [ov] (getMethod ov m pl)
   callWith pos f first (backTo pos<|starEach (e::es) X.env) (backToKw pos<|keywordEach [] X.env)):=by rfl):
  PE X (.Call (.Attribute o m apos) (e::es) [] pos) (aN c okm m sp ta t):=by
 intro g s σ H Q I h;show XI (pl:=pl) (thn (B g s σ H _ I h) λu s1 oh=>?_) z;obtain⟨x,S,j,L,a,i,T,Y,J,C,D,l,q⟩:=oh;subst J;obtain rfl:u=Value.ref a:=L;obtain⟨f,U,E,v,F,G⟩:=M.ex i C;show y7 j D E v l ?_;show WQ (first:=[.ref a]) (h₀:=X.base) I.ok.mod.kin v.kp (thn (P pos g s1 σ S _ j q) λy Z ⟨vs,W,p,r,N⟩=>(p.kIn,?_)) d b;show DT (us:=.ref a::y) (vs:=.ref a::vs) F (O.mono R) G .nil DJ p (.cons rfl r) (by rw[Wz];show N)
def aQ {pl:Sem Bool} (M:MCal X.prog X.w X.K X.mg X.base c okm k m ps sp) (v:Room n X.A) (y:k<=n) (t:PE X o ta)
  (p:eval (.Call (.Attribute o m apos) [] [] pos) X.env=(do
   let ov ← eval o X.env
   standAt apos.atName
   let (f ,first) ← holding [ov] (getMethod ov m pl)
   callWith pos f first (backTo pos<|starEach [] X.env) (backToKw pos<|keywordEach [] X.env)):=by rfl):
  PE X (.Call (.Attribute o m apos) [] [] pos) (aN c okm m sp ta tNil):=by
 intro r s σ H Q I h;show XI (pl:=pl) (thn (t r s σ H _ I h) λu s1 oh=>?_) p;obtain⟨x,J,b,g,a,i,D,G,C,z,B,l,q⟩:=oh;subst C;obtain rfl:u=Value.ref a:=g;obtain⟨f,E,e,d,F,j⟩:=M.ex i z;show y7 b B e d l ?_;show PySem.W.callWith_K0 (first:=[.ref a]) b.kIn d.kp (DT (us:=[.ref a]) (vs:=[.ref a]) F (v.mono y) j .nil DJ b (.cons rfl .nil) q)
def oK (M:KCal X.prog X.w X.K X.mg X.base k x C ps sp1) (i:Room n X.A) (h:k+1<=n) (c:Gl X x) (j:PA X (e::es) t)
  (b:(x==("__debug__":Str))=false:=by decide) (l:starEach (e::es) X.env=(false ,eval e X.env)::starEach es X.env:=by rfl) (a:(backTo pos<|starEach es X.env).any (·.1)=false:=by rfl):
  PE X (.Call (.Name x p) (e::es) [] pos) (tMake C sp1 [] E0 t):=by
 obtain⟨f,m,mk,F,g,d⟩:=M.ex;show My mk F (i.mono h) c g d .nil DJ j b l a
end
def  pc(K:Frag):List V->Hp->VK->Prop
 | [.ref p],H,Q=>bnd (unM<|H p) λys=>∀ l,H l=none->Q (.ref l) (upd H l<|.tup ys)
 | _,_,_=>False
def  tInG(b:List Str)(a:Bool)(te:TE):TE:=λσ H Q=>te σ H λx c=>∃ z,x=.str z/\Q (.bl (if a then !decide (z∈b) else decide (z∈b))) c
structure GTup(K:Frag)(mg:Str->Option Value)(x:Str)(ws:List Str):Prop where
 ex:∃(p:Addr) (o:Obj) (Tg:Array Value) (n:Nat),mg x=↑p/\K.lookup p=some o/\o.cls=.type "tuple"/\o.data=.seq Tg n/\Tg.size<=sizeLine/\Vals (ws.map V.str) Tg.toList
def kj:∀ ns:List Str,(ns.map V.str).all flatV=true
 | []=>rfl
 | n::r=>by rw[T7,Wq,kj r];rfl
def lW(i:Str):∀ ns:List Str,inV (.str i) (ns.map V.str)=decide (i∈ns)
 | []=>by simp[inV]
 | n::r=>by
  have a:=lW i r;unfold inV at a ⊢;rw[T7,VA,a];change((n==i)||decide (i∈r))=decide (i∈n::r);rw[Up,Uw,Vz,Tt,Tt,TN];show(λh=>h.elim (λe=>.inl e.symm) .inr,λh=>h.elim (λe=>.inl e.symm) .inr)
section
variable{X:Cx}{a:Expr}{ta:TE}{pos p:Pos}{x:Str}{ws:List Str}
def xh:CallR X (.type "tuple") (pc X.K):=by
 intro b s σ H d c Q I r h;unfold pc at h
 split at h
 . obtain⟨a,e,q⟩:=bu h;show CZ b s σ H _ c Q I r (_,a,rfl,.inl (TW<|iH e,q))
 . show h.elim
def Oi{ws:List Str}{q:Addr}(c:∃(o:Obj) (Tg:Array Value) (n:Nat),X.K.lookup q=some o/\o.cls=.type "tuple"/\o.data=.seq Tg n/\Tg.size<=sizeLine/\Vals (ws.map V.str) Tg.toList):
  OpR X (compareOp .In) (λx y H Q=>∃ z,x=.str z/\y=.ref q/\Q (.bl<|decide<|z∈ws) H):=by
 intro d s σ H x y v u Q I a b h;obtain⟨z,rfl,rfl,h⟩:=h;show qe d s σ H _ _ v u Q I a b (q,ws.map V.str,rfl,.inr<|.inr c,rfl,kj ws,?_);rw[lW];show h
def MN{ws:List Str}{q:Addr}(c:∃(o:Obj) (Tg:Array Value) (n:Nat),X.K.lookup q=some o/\o.cls=.type "tuple"/\o.data=.seq Tg n/\Tg.size<=sizeLine/\Vals (ws.map V.str) Tg.toList):
  OpR X (compareOp .NotIn) (λx y H Q=>∃ z,x=.str z/\y=.ref q/\Q (.bl<|!decide (z∈ws)) H):=by
 intro d s σ H x y v u Q I a b h;obtain⟨z,rfl,rfl,h⟩:=h;show uE d s σ H _ _ v u Q I a b (q,ws.map V.str,rfl,.inr<|.inr c,rfl,kj ws,?_);rw[lW];show h
end
section
variable{ι:Type}{c:RCl ι}{ta tv:TE}{t:TA}{f m:Str}{σ:St}{H:Hp}{Q:VK}{D:Ends}{okm:ι->Bool}{sp:ι->Sp}{sp1:Sp}{C:Addr}{K:Frag}
def  fL:tMake C sp1 [] E0 t σ H Q=t σ H λvs b=>∀ x a,b x=none->b a=none->a≠x->sp1 (.ref x::(vs++[])) (upd (upd b a<|.own x) x<|.ins C a []) (λv c=>v=.non/\Q (.ref x) c) E0:=rfl
def  gP{b:List Str}{a:Bool}{te:TE}:tInG b a te σ H Q=te σ H λx c=>∃ z,x=.str z/\Q (.bl (if a then !decide (z∈b) else decide (z∈b))) c:=rfl
def MO{p:Addr}{xs:List V}(a:H p=↥xs)(h:∀ l,H l=none->Q (.ref l) (upd H l<|.tup xs)):pc K [.ref p] H Q:=by
 unfold pc;dsimp only;rw[a];show h
end
def  cntD(ns:∅):Nat:=(firstMet (λi=>ns.getD i 0) ns.length).length
def  rK(te:TE):TE:=λσ H Q=>te σ H λx b=>∃ p a,x=.ref p/\b p=↥(a.map V.int)/\a.length<=900/\Q (.int (cntD a:Nat)) b
def  cG{te:TE}{σ:St}{H:Hp}{Q:VK}:rK te σ H Q=te σ H λx a=>∃ p ns,x=.ref p/\a p=↥(ns.map V.int)/\ns.length<=900/\Q (.int (cntD ns:Nat)) a:=rfl
def MP:bootBuiltins "set"=some (.type "set"):=by decide+kernel
def uP {X:Cx} {e:Expr} {te:TE} {p g pos a:Pos} (K:X.calm=true) (w:Gl X "len") (k:Gl X "set") (M:X.mg "len"=none) (E:X.mg "set"=none) (D:PE X e te)
  (d:starEach [.Call (.Name "set" g) [e] [] a] X.env=[(false ,eval (.Call (.Name "set" g) [e] [] a) X.env)]:=by rfl) (c:starEach [e] X.env=[(false ,eval e X.env)]:=by rfl):
  PE X (.Call (.Name "len" p) [.Call (.Name "set" g) [e] [] a] [] pos) (rK te):=by
 intro y s σ H Q I h;show U2<|fY I w M aJ ?_ #[1] #[1];show Wn ?_ d rfl;rw[d];change wpAny _ _ (spliced [(false ,eval (.Call (.Name "set" g) [e] [] a) X.env)]) _ _ s;show Vq ?_;show U2<|fY I k E MP ?_ #[1] #[1];show Uz ?_ c rfl;rw[c];change wpAny _ _ (spliced [(false ,eval e X.env)]) _ _ s;show Vq<|thn (D y s σ H _ I h) λu s1 ⟨x,C,z,r1,S⟩=>?_;show Vx ?_;obtain⟨l,j,rfl,m,B,q⟩:=S;cases r1;obtain⟨v,n,A,O,U⟩:=z.lst m;have L:s1.heap.IsList l v.toArray:=(_,O,rfl,n,rfl);have N:IntsAre v j:=y8 A;have f:=A.length;rw[Tn]at f;show call_set_list (ns:=j) (I.ok.hd K) L (by simpa using N) (by rw[T1,← f];show UW (Nat.succ_le_succ B) #[1]) λR P F r=>?_;show Vx ?_;obtain⟨o,Y,W,t,h1,h2,h3,h4,h5,h6,h7,h8⟩:=F;have T:(firstMet (λi=>j.getD i 0) v.toArray.size).length<=900:=TU (firstMet_length_le _ _) (by rw[T1,← f];show B);show call_len_set h1 h2 h3 h7 #[4] ?_;have G:Inv X y σ C {s1 with heap:=R,toks:=P}:=z.kept λb J e=>r b J (Ug e) e;show(.int _,C,G.tok _,(_,rfl),?_);rw[h8,T1,← f];show q
def  uQ:V->List V->Hp->VK->Prop
 | .str sep,[.ref p],H,Q=>bnd (unS<|H p) λys=>∃ ts:List Str,ys=ts.map V.str/\JoinOk sep ts=true/\Q (.str<|Txt.join sep ts) H
 | _,_,_,_=>False
def JM{X:Cx}:MtR X "str.join" uQ:=by
 intro A s σ H x vs v B Q I r w h;unfold uQ at h
 split at h
 . rename_i d p
   obtain⟨D,e,C,rfl,c,q⟩:=bu h;rcases rF (K:=X.K) e with m | m
   . obtain⟨t,rfl⟩:=r;obtain⟨u,rfl,i⟩:=fU w;cases i;obtain⟨y,b,g,z⟩:=I.list m;obtain⟨l,rfl,j⟩:=A8 b;show SC.join g.isList j c λf k=>(.str _,H,I.tok k,(f,rfl),q)
   . obtain⟨t,rfl⟩:=r;obtain⟨u,rfl,i⟩:=fU w;cases i;obtain⟨y,b,g,z⟩:=I.tuple m;obtain⟨l,rfl,j⟩:=A8 b;subst j;obtain⟨o,h1,h2,n,h3⟩:=g;have a:=c;unfold JoinOk at a;rw[UU]at a;show VB F.slot_str_join (Wo _ _ _) F.entry_str_join (F.args_str_join_2 _ _) (meets_str_join_tuple d t p l a) ((o,n,h1,h2,h3),post_join l (joinFit_length a,λf k=>(.str _,H,I.tok k,(f,rfl),q)))
 . show h.elim
section
variable{X:Cx}{e:Expr}{te:TE}{p2 p3 p4 pos:Pos}{z0:Nat}
def  zp:V->List V->Hp->VK->Prop
 | .ref l,[.int i],H,Q=>bnd (unM<|H l) λxs=>0<=i/\i<xs.length/\bnd (xs[i.toNat]?) λy=>Q y (upd H l<|.lst<|xs.eraseIdx i.toNat)
 | _,_,_,_=>False
def seqIx{i:Int}{n:Nat}(h0:0<=i)(h1:i<n):seqIndex? i n=some i.toNat:=by
 obtain⟨k,rfl⟩:=Xk h0;have b:k<n:=by lia
 unfold seqIndex?;have a:¬ ((k:Int)<0):=by lia
 simp[b,a]
def JN:MtR X "list.pop" zp:=by
 intro d s σ H x vs v f Q I b g h;unfold zp at h
 split at h
 . obtain⟨a,e,h0,h1,h⟩:=bu h;obtain⟨y,c,q⟩:=bu h;have i:a.length<=sizeLine:=(I.lstM<|iH e).1;have j:(sizeLine:Int)<2^63:=by decide
   show K4 d s σ H _ _ v f Q I b g (_,a,_,_,y,rfl,rfl,iH e,by lia,by lia,seqIx h0 h1,c,q)
 . show h.elim
def  tRevL(te:TE):TE:=λσ H Q=>te σ H λx a=>∃ p b,x=.ref p/\a p=↥b/\∀ l,a l=none->Q (.ref l) (upd a l<|.lst b.reverse)
end
section
variable{σ:St}{H:Hp}{Q:VK}{te:TE}
def  gQ{i j:Int}{H:Hp}{Q:VK}:kMax [.int i,.int j] H Q=Q (.int (if j>i then j else i)) H:=rfl
def  fO:tRevL te σ H Q=te σ H λx a=>∃ p xs,x=.ref p/\a p=↥xs/\∀ l,a l=none->Q (.ref l) (upd a l<|.lst xs.reverse):=rfl
def MQ{l:Addr}{i:Int}{xs:List V}{y:V}(b:H l=↥xs)(h0:0<=i)(h1:i<xs.length)(c:xs[i.toNat]? =some y)(q:Q y (upd H l<|.lst<|xs.eraseIdx i.toNat)):zp (.ref l) [.int i] H Q:=by
 change bnd (unM<|H l) _;rw[b];show d3 (a:=xs) rfl (h0,h1,d3 c q)
end
def Ib:typeLookup (.type "str") (Str.ofString "__int__")=pure none:=by rw[XE,Wj];kernel_rfl
def Et:typeLookup (.type "str") (Str.ofString "__index__")=pure none:=by rw[XE,Wj];kernel_rfl
def Eu:typeLookup (.type "str") (Str.ofString "__trunc__")=pure none:=by rw[XE,Wj];kernel_rfl
def  numC(n:Nat):List Nat:=if n<10 then [48+n] else [48+n/10,48+n%10]
variable{n:Nat}
def JO(h:n<100):((tx<|numC n).cps.all λx=>decide<|x<128)=true:=by
 have t:((List.range 100).all λn=>(tx<|numC n).cps.all λx=>decide<|x<128)=true:=by decide+kernel
 show Ty.mp t n (TC.mpr h)
def  JP{α:Type}{M:Model}{A:Around}{E:Value->Shared->Prop}{s:Shared}{Q:α->Shared->Prop}{m m':Sem α}(e:m=m')(h:wpAny M A m' Q E s):wpAny M A m Q E s:=e ▸ h
def  gis(n:Nat)(b:n<100)(u:Tok):Gives (Builtin.«int.__new__» ([.type "int",.str (tx<|numC n) u],[])) (.int n):=
 .of_wp λM A E s Q h=>by
  obtain⟨o,g,d,k,l⟩:=s;have i:=PySem.F.conv_sub_int;have j:=PySem.F.madeHere_int;have f:=Ib;have c:=Et;have e:=Eu
  iterate 44 (any_goals (first | assumption | wp_step))
  show Uh<|wpAny_of_eq (a:=some (tx<|numC n)) rfl ?_;show wpAny_of_eq (a:=some (numC n)) ?e1 ?_
  case e1=>
   change(pure (some (if ((tx<|numC n).cps.all λx=>decide<|x<128)=true then(tx<|numC n).cps.toList else _)):Sem _)=_;rw[TZ<|JO b,zo]
  show JP (m':=mkInt (n:Int)) ?e2 ?_
  case e2=>
   clear h i j f c e
   match n,b with |0,_|1,_|2,_|3,_|4,_|5,_|6,_|7,_|8,_|9,_|10,_|11,_|12,_|13,_|14,_|15,_|16,_|17,_|18,_|19,_|20,_|21,_|22,_|23,_|24,_|25,_|26,_|27,_|28,_|29,_|30,_|31,_|32,_|33,_|34,_|35,_|36,_|37,_|38,_|39,_|40,_|41,_|42,_|43,_|44,_|45,_|46,_|47,_|48,_|49,_|50,_|51,_|52,_|53,_|54,_|55,_|56,_|57,_|58,_|59,_|60,_|61,_|62,_|63,_|64,_|65,_|66,_|67,_|68,_|69,_|70,_|71,_|72,_|73,_|74,_|75,_|76,_|77,_|78,_|79,_|80,_|81,_|82,_|83,_|84,_|85,_|86,_|87,_|88,_|89,_|90,_|91,_|92,_|93,_|94,_|95,_|96,_|97,_|98,_|99,_=>kernel_rfl | (m+100),hm=>show absurd hm #[0]
  repeat (any_goals (first | assumption | wp_step))
  all_goals first | show(_,rfl,h) | skip
def  wc:List V->Hp->VK->Prop
 | [.int i],H,Q=>Q (.int i) H
 | [.bl k],H,Q=>Q (.int (if k then 1 else 0)) H
 | [.str z],H,Q=>∃ n:Nat,n<100/\z=tx (numC n)/\Q (.int n) H
 | _,_,_=>False
def Ic{X:Cx}:CallR X (.type "int") wc:=by
 intro a s σ H e b Q I r h;unfold wc at h
 split at h
 . show Cd a s σ H _ b Q I r (.inl (_,rfl,h))
 . show Cd a s σ H _ b Q I r (.inr (_,rfl,h))
 . obtain⟨n,c,rfl,q⟩:=h;obtain⟨u,rfl,d⟩:=fU r;obtain⟨t,rfl⟩:=d;show call_int_1 (gis n c t).meets (show(Made.int (n:Int)).post _ s from(rfl,(.int n,H,I.tok _,(_,rfl),q)))
 . show h.elim
def  dG{k:Bool}{H:Hp}{Q:VK}:wc [.bl k] H Q=Q (.int (if k then 1 else 0)) H:=rfl
def  dH{i:Int}{H:Hp}{Q:VK}:wc [.int i] H Q=Q (.int i) H:=rfl
def MR(h:n<100):Str.ofString (toString (n:Int))=tx (numC n):=by
 have t:((List.range 100).all λ(n:Nat)=>decide<|Str.ofString (toString (n:Int))=tx (numC n))=true:=by decide+kernel
 simpa using Ty.mp t n (TC.mpr h)
def ye(h:n<100):32∉numC n:=by
 have t:((List.range 100).all λ(n:Nat)=>decide<|32∉numC n)=true:=by decide+kernel
 simpa using Ty.mp t n (TC.mpr h)
def Oj(h:n<100):numC n≠[]:=by unfold numC;split <;> simp
def Bc:(numC n).length<=2:=by unfold numC;split <;> simp
def Lh(h:n<100):((numC n).head? =some 48->n=0)/\numC 0=[48]:=by
 have t:((List.range 100).all λ(n:Nat)=>decide<|(numC n).head? =some 48->n=0)=true:=by decide+kernel
 show(TF<|Ty.mp t n<|TC.mpr h,rfl)
def He(h:n<100):∀ c∈numC n,48<=c/\c<=57:=by
 have t:((List.range 100).all λ(n:Nat)=>(numC n).all λc=>decide<|48<=c/\c<=57)=true:=by decide+kernel
 intro c a
 simpa using Ty.mp (Ty.mp t n<|TC.mpr h) c a
local macro_rules|`(tactic|walk_at "w")=>wk9 ws1
local macro_rules|`(tactic|symm)=>`(tactic|walk_at "w")
def du:d:=#[3,∃ a h w g,vs=[.ref a]/\IsFl H a h w g/\1<=h/\h<=6/\Q (.int<|h*w) H]
def nq:a:=#[":id-dk0ef#0 dk0ef#1 "]
abbrev eD9(Q:VK):Ends:={nx:=λ_ a=>Q .non a,rt:=Q}
def C0{K:Frag}{vs:List V}{H:Hp}{Q:VK}{E:XK}:R "floor" du nq K:=by
 obtain⟨a,h,w,g,rfl,b,h0,h1,q⟩:=h;exists nq;rw[K8 b];show d3 (a:=V.int h) rfl ?_;symm;rw[K8 b];show d3 (a:=V.int w) rfl ?_;exists(uN h0 h1,q)
def  cornB(h w c:Int):Bool:=decide (c/w<h-1)&&decide (c%w<w-1)
def  sqL(w c:Int):∅:=[c,c+1,c+w,c+w+1]
def  squL(h w:Int):List ∅:=((List.range (h*w).toNat).filter λ(i:Nat)=>cornB h w i).map λ(i:Nat)=>sqL w i
def  NewAt.ll{d H:Hp}{l:Addr}{b:List Addr}{c:List ∅}(x:NewAt d H l b (c.map λxs=>.lst<|xs.map V.int))(e:H l=↥(b.map V.ref)):IsLL H l b c:=
 (e,by rw[x.len,Tn],λj a xs h1 h2=>x.at_ j a _ h1 (by rw[Tw,h2];rfl))
def   ws4:String:="aC fL gP cG fO dG dH gQ gM fK gN if_true if_false Bool.false_eq_true decide_true decide_false dq dr gm cj bO dm d7 dn cg d5 d6 ce gk ck cm cw cy cA cB cq d8 d9 eh d4 gl Bool.not_true Bool.not_false aC "++ws1
local macro_rules|`(tactic|walk_at "w")=>wk9 ws4
def  nmC:RK->List Nat
 | .Rule=>[]
 | .Unlike=>s!"unlike"
 | .Sum=>s!"sum"
 | .Rising=>s!"rising"
 | .Seen=>s!"seen"
 | .Count=>s!"count"
 | .Joined=>s!"joined"
 | .NoSquare=>s!"nosquare"
 | .Ring=>s!"ring"
def  iW:List Str:=[tx s!"sum",tx s!"seen",tx s!"count"]
def  iI:List Str:=[tx s!"count",tx s!"joined",tx s!"nosquare",tx s!"ring"]
def  iD:List Str:=[tx s!"joined",tx s!"nosquare",tx s!"ring"]
def  rFs(p W C:Addr)(n m:Int):List (Str × V):=[("floor" ,.ref p),("words" ,.ref W),("cells" ,.ref C),("amount" ,.int n),("mark" ,.int m)]
abbrev XZ:=RCl RK
structure IsRule(H:Hp)(c:XZ)(k:RK)(r p:Addr)(ws:List (List Nat))(cs:∅)(n m:Int):Prop where
 ok:c.ok k=true
 ex:∃ dx W C,H r=some (.ins (c.A k) dx<|rFs p W C n m)/\H W=some (.tup<|(ws.map tx).map V.str)/\H C=some (.tup<|cs.map V.int)
variable{H:Hp}{c:XZ}{p:Addr}{cs:∅}
def IsRule.same{b:Hp}{k:RK}{r:Addr}{a:List (List Nat)}{n m:Int}(x:IsRule H c k r p a cs n m)(s:Same H b):IsRule b c k r p a cs n m:=by
 obtain⟨d,W,C,h1,h2,h3⟩:=x.ex;show(x.ok,d,W,C,s _ _ h1,s _ _ h2,s _ _ h3)
section
variable{ι:Type}{c:RCl ι}{σ:St}{H:Hp}{Q:VK}{i:Nat}{r dx:Addr}{k:ι}{fs:List (Str × V)}{f m:Str}{v:V}{okm:ι->Bool}{sp:ι->Sp}{t:TA}{D:Ends}{tv:TE}{y:V}{H1:Hp}
def  fldE(d:σ[i]? =some ↑r)(b:c.ok k=true)(e:H r=some (.ins (c.A k) dx fs))(a:fs.lookup f=some v)(q:Q v H):tFldK c (tVar i) f σ H Q:=oF d (r,k,dx,fs,v,rfl,b,e,a,q)
def  methE(a:σ[i]? =some ↑r)(f:okm k=true)(d:H r=some (.ins (c.A k) dx fs))(e:fs.lookup m=none)(q:t σ H λvs b=>sp k (.ref r::vs) b Q E0):aN c okm m sp (tVar i) t σ H Q:=oF a (r,k,dx,fs,rfl,f,d,e,q)
def  sfldV{j:Nat}{x:V}(b:σ[j]? =some (some x))(a:σ[i]? =some ↑r)(g:c.ok k=true)(d:H r=some (.ins (c.A k) dx fs))(e:fs.length<1000)(q:D.nx σ (upd H r<|.ins (c.A k) dx<|putF f x fs)):sFldK c (tVar i) (tVar j) f D σ H:=
 oF b (oF a (r,k,dx,fs,rfl,g,d,e,q))
def sfldT {K:Frag} {j:Nat} {p:Addr} {xs:List V} (g:σ[j]? =some ↑p) (e:H p=↥xs) (d:σ[i]? =some ↑r) (m:c.ok k=true) (a:H r=some (.ins (c.A k) dx fs)) (h:fs.length<1000)
  (q:∀ l,H l=none->D.nx σ (upd (upd H l<|.tup xs) r<|.ins (c.A k) dx<|putF f (.ref l) fs)):sFldK c (tVar i) (tCB (pc K)<|tCons (tVar j) tNil) f D σ H:=by
 unfold sFldK;exists oF g<|MO e λl b=>?_;show oF d (r,k,dx,fs,rfl,m,by rw[ak<|aF a b];show a,h,q l b)
end
variable{Q:VK}
def MS{xs:List V}(a:H p=some (.tup xs))(h:∀ l,H l=none->Q (.ref l) (upd H l<|.lst xs)):kList [.ref p] H Q:=by
 unfold kList;dsimp only;rw[a];show h
def MT{a:Str}{ts:List Str}(c:H p=↥(ts.map V.str))(b:JoinOk a ts=true)(h:Q (.str<|Txt.join a ts) H):uQ (.str a) [.ref p] H Q:=by
 unfold uQ;dsimp only;rw[c];show(ts,rfl,b,h)
variable{K:Frag}{fin:Addr->Hp->Prop}
def Cr {a:Addr} {k:Nat} {s:TT} {te:TE} {d:St} {c:Hp} {xs:∅} (b:Int->Bool) (f:Int->Int) (I:xs.length<=900) (D:c a=some (.tup<|xs.map V.int))
  (v:∀ x H R,x∈xs->Same c H->(∀ j,Same H j->R (b x) j)->s (d.set k ⇑x) H R)
  (w:∀ x H Q,x∈xs->b x=true->Same c H->(∀ j,Same H j->Q (.int<|f x) j)->te (d.set k ⇑x) H Q)
  (C:∀ l H,c l=none->Same c H->H l=↥(((xs.filter b).map f).map V.int)->fin l H):CompR (Itt K a) (gName k) s te fin d c:=by
 show Es (xs:=xs.map V.int) (λl i σ H=>(σ=d\/∃ r,σ=d.set k r)/\Same c H/\H l=↥((((xs.take i).filter b).map f).map V.int)) (λl g=>(.inl rfl,(Tu c).laid g,by rw[ah];rfl)) (λl i σ H _ _ p=>XR<|p.2.1 _ _ D) ?_ (λl σ H g p=>C l H g p.2.1 (by have:=p.2.2;rw[Tn,UF]at this;show this));rintro l i x σ H g B ⟨u,s1,A⟩;obtain⟨z,m,rfl⟩:=aI B;have G:i<xs.length:=(Tr.mp m).1;have t:xs.take (i+1)=xs.take i++[z]:=by rw[VX,m];rfl
 rw[aZ]
 have e:σ.set k ⇑z=d.set k ⇑z:=by
  rcases u with rfl | ⟨r,rfl⟩
  . rfl
  . show Vb ..
 rw[e];show v z H _ (Tv m) s1 λy n=>?_;have h:=n _ _ A
 have E:((((xs.take i).filter b).map f).map V.int).length<sizeLine:=by
  rw[Tn,Tn];show aH<|TU (Ue b _) ?_;rw[Uu];lia
 cases o:b z with
 | false=>
  rw[TX TB];show(.inr (_,rfl),s1.trans n,?_);rw[t,Us,Um,o]
  simpa using h
 | true=>
  rw[TZ rfl];show w z y _ (Tv m) o (s1.trans n) λF q=>(_,q _ _ h,E,.inr (_,rfl),((s1.trans n).trans q).own g,?_);rw[ah,t,Us,Um,o];simp
def  Be(K:Frag)(c:XZ)(k:RK):Sp:=#[3,∃ r p w a cs n m,vs=[.ref r]/\IsRule H c k r p (w::a) cs n m/\Q (.str<|tx w) H]
def  gR(K:Frag)(c:XZ)(k:RK):Sp:=#[3,∃ r p a cs n m,vs=[.ref r]/\IsRule H c k r p a cs n m/\∀ l,H l=none->Q (.ref l) (upd H l<|.lst<|cs.map V.int)]
def  km(K:Frag)(c:XZ)(k:RK):Sp:=#[3,∃ r p a cs n m,vs=[.ref r]/\IsRule H c k r p a cs n m/\Q (.int n) H]
def  wd(K:Frag)(c:XZ)(k:RK):Sp:=#[3,∃ r p a cs n m,vs=[.ref r]/\IsRule H c k r p a cs n m/\Q (.int m) H]
def  sgAt(xs cs:∅):∅:=cs.map λc=>xs.getD c.toNat 0
def  mkAt(xs cs:∅)(m:Int):∅:=cs.filter λc=>decide (xs.getD c.toNat 0=m)
def  a8(cs:∅)(n:Nat):Prop:=cs.length<=63/\∀ c∈cs,0<=c/\c<n
def  ik(K:Frag)(c:XZ)(k:RK):Sp:=#[3,∃ r p f d cs b n m,vs=[.ref r,.ref f]/\IsRule H c k r p d cs n m/\H f=↥(b.map V.int)/\a8 cs b.length/\
 ∀ l a,Same H a->H l=none->a l=↥((sgAt b cs).map V.int)->Q (.ref l) a]
def  uR(K:Frag)(c:XZ)(k:RK):Sp:=#[3,∃ r p f d cs b n m,vs=[.ref r,.ref f]/\IsRule H c k r p d cs n m/\H f=↥(b.map V.int)/\a8 cs b.length/\
 ∀ l a,Same H a->H l=none->a l=↥((mkAt b cs m).map V.int)->Q (.ref l) a]
def  risB:∅->Bool
 | x::y::r=>decide (x<y)&&risB (y::r)
 | _=>true
def  seenN(xs:∅):Int × Int:=xs.foldl (λa x=>if a.1<x then(x ,a.2+1) else a) (0 ,0)
def  joinB (h w:Int) (ms:∅):Bool:=@decide (ms=[]\/(ms.Pairwise (· < ·)/\∀ x∈ms,RC h w ms (ms.headD 0) x)) (Classical.propDecidable _)
def  twoB(h w:Int)(ms:∅)(c:Int):Bool:=decide (((besL h w c).filter λy=>decide<|y∈ms).length=2)
def  hoB (k:RK) (h w:Int) (cs:∅) (n m:Int) (xs:∅):Bool:=match k with
 | .Unlike=>decide (cntD (sgAt xs cs)=(sgAt xs cs).length)
 | .Sum=>decide ((sgAt xs cs).sum=n)
 | .Rising=>risB (sgAt xs cs)
 | .Seen=>decide ((seenN<|sgAt xs cs).2=n)
 | .Count=>decide (((mkAt xs cs m).length:Int)=n)
 | .NoSquare=>!((squL h w).any λa=>a.all λc=>decide<|c∈mkAt xs cs m)
 | .Joined=>joinB h w (mkAt xs cs m)
 | .Ring=>joinB h w (mkAt xs cs m)&&(mkAt xs cs m).all (twoB h w<|mkAt xs cs m)
 | _=>true
def  gS(K:Frag)(c:XZ)(k:RK):Sp:=#[3,∃ r p f d cs a n m h w g,vs=[.ref r,.ref f]/\IsRule H c k r p d cs n m/\IsFl H p h w g/\FlOk h w g/\H f=↥(a.map V.int)/\a8 cs a.length/\(∀ x∈a,0<=x/\x<=1000)/\
 ∀ b,Same H b->Q (.bl<|hoB k h w cs n m a) b]
def aW:e:=#[3,∃ k x e p W C d cs n m,vs=[.ref x,.ref p,.ref W,.ref C,.int n,.int m]/\c.ok k=true/\H x=some (.ins (c.A k) e [])/\W≠x/\C≠x/\
 H W=↥((d.map tx).map V.str)/\H C=↥(cs.map V.int)/\∀ a,(∀ b o,b≠x->H b=some o->a b=some o)->IsRule a c k x p d cs n m->Q .non a]
def jI:b:=#[":g~lj01~Bg~lj0r'eba2c'fg~lj0r'eba3c~Lg~lj04~I~lj05~V"]
variable{vs:List V}{E:XK}
def yf:R "self floor words cells amount mark" aW jI K c:=by
 obtain⟨k,x,v,p,W,C,B,cs,n,m,rfl,d,z,w,t,y,s,q⟩:=h;exists jI;show sfldV (k:=k) (j:=1) rfl rfl d z #[1] ?_;exists sfldT (k:=k) (j:=2) (p:=W) rfl (by rw[ak w];show y) rfl d ah (by change(1:Nat)<1000;decide) λr h1=>?_;have a:r≠x:=λe=>by rw[e,ah]at h1;cases h1
 have u:H r=none:=by rw[ak a]at h1;show h1
 exists sfldT (k:=k) (j:=3) (p:=C) rfl (by rw[ak t,ak<|aF s u,ak t];show s) rfl d ah (by change(2:Nat)<1000;decide) λl h2=>?_;have f:l≠x:=λe=>by rw[e,ah]at h2;cases h2
 have i:l≠r:=λe=>by rw[e,ak a,ah]at h2;cases h2
 have A:H l=none:=by rw[ak f,ak i,ak f]at h2;show h2
 exists sfldV (k:=k) (j:=4) rfl rfl d ah (by change(3:Nat)<1000;decide) ?_;exists sfldV (k:=k) (j:=5) rfl rfl d ah (by change(4:Nat)<1000;decide) ?_;show q _ (λb o g e=>?_) (d,v,r,l,by rw[ah];rfl,?_,?_)
 . rw[ak g,ak g,ak g,ak<|aF e A,ak g,ak<|aF e u,ak g];show e
 . rw[ak a,ak a,ak a,ak i.symm,ak a,ah]
 . rw[ak f,ak f,ak f,ah]
def uS:e:=λvs H Q E=>∃ k,Be K c k vs H Q E
def ph:b:=#[":idkSj0'fef#0 "]
def Ev:R "self" uS ph K c:=by
 obtain⟨k,r,p,w,b,cs,n,m,rfl,x,q⟩:=h;obtain⟨d,W,C,h1,h2,h3⟩:=x.ex;exists ph;show fldE rfl x.ok h1 (v:=.ref W) (by rfl) ?_;symm;have a:atI (((w::b).map tx).map V.str) 0=some (V.str<|tx w):=fG (j:=0) rfl;show ixT h2 a q
def tN:e:=λvs H Q E=>∃ k,gR K c k vs H Q E
def nt:b:=#[":ir~maSj0~Lc"]
def C2:R "self" tN nt K c:=by
 obtain⟨k,r,p,a,cs,n,m,rfl,x,q⟩:=h;obtain⟨b,W,C,h1,h2,h3⟩:=x.ex;exists nt;show fldE rfl x.ok h1 (v:=.ref C) (by rfl) ?_;exists MS h3 q
def rL:e:=λvs H Q E=>∃ k,km K c k vs H Q E
def lX:b:=#[":iSj0~I"]
def Bf:R "self" rL lX K c:=by
 obtain⟨k,r,p,a,cs,n,m,rfl,x,q⟩:=h;obtain⟨b,W,C,h1,h2,h3⟩:=x.ex;exists lX;show fldE rfl x.ok h1 (v:=.int n) (by rfl) q
def uT:e:=λvs H Q E=>∃ k,wd K c k vs H Q E
def pi:b:=#[":iSj0~V"]
def Ew:R "self" uT pi K c:=by
 obtain⟨k,r,p,a,cs,n,m,rfl,x,q⟩:=h;obtain⟨b,W,C,h1,h2,h3⟩:=x.ex;exists pi;show fldE rfl x.ok h1 (v:=.int m) (by rfl) q
def pj:e:=λvs H Q E=>∃ k,ik K c k vs H Q E
def jJ:b:=#[":ix&--1 ~WbSj0~Lh#1 Ddk21"]
def yg:R "self filling" pj jJ K c:=by
 obtain⟨k,r,p,f,s,cs,d,n,m,rfl,x,e,⟨y,g⟩,q⟩:=h;obtain⟨t,W,C,h1,h2,h3⟩:=x.ex;ac_nf;unfold jJ;rw[dC,Bb];show fldE rfl x.ok h1 (v:=.ref C) (by rfl) ?_;show(C,rfl,(_,XR h3),?_);show Cr (xs:=cs) (λ_=>true) (λc=>d.getD c.toNat 0) #[4] h3 ?_ ?_ ?_
 . intro x a R w s1 k1;show k1 _ (Tu _)
 . intro z a o i u s1 k1;change tOp cIx _ _ [none,⇑z,↑f] a o;symm;have:=g z i;show ixI (s1 _ _ e) this.1 #[4] (k1 _<|Tu _)
 . intro l a j s1 b;rw[bn]at b;show q l a s1 j b
def pk:d:=#[3,∃ n:Nat,vs=[.str<|tx<|numC n]/\n<100/\∀ a,Same H a->Q (.int n) a]
def pp:a:=#[":gnIpdsb0evw=Ipd>rza0cef#9 'gpdsbdk0ef#0 evw`0pdHb0evw`0ieEognyqr~gax&-- 'I0h#1 Dd[bF1evw`1cieEoir'Ja0c",[48],s!"0123456789"]
def Ol{c:Nat}(h0:48<=c)(h1:c<=57):(!(Builtin.Str.occurrences (tx s!"0123456789") ⟨#[c]⟩ 0 (tx s!"0123456789").length 1).isEmpty)=true:=by
 have t:((List.range 58).all λc=>!decide (48<=c)||!(Builtin.Str.occurrences (tx s!"0123456789") ⟨#[c]⟩ 0 (tx s!"0123456789").length 1).isEmpty)=true:=by decide+kernel
 have:=Ty.mp t c (TC.mpr #[4])
 simpa [h0] using this
def Ex:R "word" pk pp K:=by
 obtain⟨n,rfl,m,q⟩:=h;have f:=Oj m;have y:=Bc (n:=n);ac_nf;unfold pp;rw[aC,aA];symm;rw[bN,Tq f];show iteF (by rw[pb];show ba #[4],?_);symm;rw[pb,Tq (show ¬ (9:Int) < ((numC n).length:Nat) by lia)];show iteF ?_;rw[Pu,pb,zo]
 obtain⟨c,r,ec⟩:∃ c r,numC n=c::r:=by
  cases e:numC n with
  | nil=>show absurd e f
  | cons c r=>show(c,r,rfl)
 show(ba #[4],d3 (a:=c) (by rw[ec];show fG (j:=0) rfl) ?_);symm
 have e1:decide ((⟨#[c]⟩:Str)=tx [48])=decide (c=48):=by
  have:(⟨#[c]⟩:Str)=tx [c]:=rfl;rw[this,bN];simp
 rw[e1,bN]
 have e2:(decide (c=48)=true->decide (numC n=[48])=true):=by
  intro h;rw[Tt]at h;have:=(Lh m).1 (by rw[ec,h];rfl);subst this;decide
 have d:tSeq (tIfS (tNot<|tB<|tCB kAll<|tCons (tComp [none,none] (iStr<|tVar 0) (gName 1) tTrue<|tOp (cIn K false) (tVar 1)<|tC<|.str<|tx s!"0123456789") tNil) (tRet<|tC .non) tNext) (tRet<|tCB wc<|tCons (tVar 0) tNil)
   (eD9 Q) [some<|.str<|tx<|numC n] H:=by
  rw[aC,aA];exists JK (cs:=numC n) (λ_=>true) (λ_=>.bl true) #[4] ?_ ?_ ?_
  . intro i c g R k s1 k1;show k1 _ (Tu _)
  . intro i c g t k o s1 k1;have s:=He m c<|Tv k;change tOp (cIn K false) _ _ [none,some<|.str<|tx [c]] g t;symm;have v:=k1 _<|Tu g;change t (.bl (if false=true then _ else !(Builtin.Str.occurrences (tx s!"0123456789") (tx [c]) 0 (tx s!"0123456789").length 1).isEmpty)) g;rw[TX TB,show tx [c]=⟨#[c]⟩ from rfl,Ol s.1 s.2];show v
  . intro l g w s1 p
    have u:((List.range (numC n).length).filter λ_=>true).map (λ_=>V.bl true)=(List.replicate (numC n).length true).map V.bl:=by
     rw[bn,List.map_const',UG,WS]
    rw[u]at p;show oI p ?_
    have x:(List.replicate (numC n).length true).all id=true:=by
     rw[Ty];intro b o;show(V9.mp o).2
    rw[x];exists(n,m,rfl,q _ s1)
 cases k:decide (c=48) with
 | false=>
  show iteF ?_;show d
 | true=>
  show iteT ?_;rw[e2 k];show d
def gU:d:=#[3,∃ n a c,vs=[.str<|tx<|numC n,.int a,.int c]/\n<100/\a<=n/\n<=c/\∀ b,Same H b->Q (.int n) b]
def jK:a:=#[":gl,'Kba0ch#3 gnIpd'L3eEIpd<31pd>32Xoi3"]
def yh:R "word least most number" gU jK K:=by
 obtain⟨n,a,c,rfl,b,h0,h1,q⟩:=h;exists jK;show(n,rfl,b,λd s1=>?_);symm;rw[aA];symm;rw[Tq (show ¬ V.int n=V.non from λe=>nomatch e)];show iteF ?_;rw[Tq (show ¬ (n:Int)<a by lia)];show iteF ?_;rw[Tq (show ¬ c < (n:Int) by lia)];show iteF ?_;exists q _ s1
def  WOk(a:List (List Nat)):Prop:=∀ w∈a,∀ c∈w,c<128
variable{w:List Nat}
def  WOk.cons{b:List (List Nat)}(h:∀ c∈w,c<128)(d:WOk b):WOk (w::b):=λv a=>by
 rcases TN.mp a with rfl | a
 . show h
 . show d v a
variable{n:Nat}
def  Bg(h:n<100):∀ c∈numC n,c<128:=λc a=>by have:=He h c a;omega
def Ma(h:∀ c∈w,c<128):PyData.strOk (tx w)=true:=by
 unfold PyData.strOk;simp[tx];intro c a;have:=h c a;lia
def  WOk.strs{a:List (List Nat)}(h:WOk a):∀ x∈a.map tx,PyData.strOk x=true:=λx b=>by
 obtain⟨w,hw,rfl⟩:=Tz.mp b;show Ma (h w hw)
def ga:d:=#[3,∃ p n b a d,vs=[.ref p,.int a,.int d]/\H p=↥(((numC n::b).map tx).map V.str)/\n<100/\WOk b/\a<=n/\n<=d/\∀ c,Same H c->Q (.int n) c]
def kJ:a:=#[":gnpdsb0tcXoi,'hbadk0ef#0 a1a2c"]
def DVs.strs{K:Frag}{H:Hp}:∀ ns:List Str,DVs K H (ns.map V.str) (ns.map PyData.str)
 | []=>.nil
 | n::r=>.cons (.str n) (DVs.strs r)
def Ct(a b:Str):PyData.eqv (.str a) (.str b)=decide (a=b):=by
 rw[PyData.eqv];by_cases h:a=b
 . subst h;simp
 . simp[h]
def mP(ns:List Str)(b:∀ x∈ns,PyData.strOk x=true):SeqAt.shaped (.list<|ns.map PyData.str)=true:=by
 have h1:PyData.canLayAll0 (ns.map PyData.str)=true:=lV λd a=>by obtain⟨x,c,rfl⟩:=Tz.mp a;rw[PyData.canLay0];show b x c
 have h2:PyData.depthAll (ns.map PyData.str)<=0:=kh λd a=>by obtain⟨x,_,rfl⟩:=Tz.mp a;show TQ _
 simp[SeqAt.shaped,PyData.canLay0,h1,PyData.depth];lia
variable{xs:List Str}
def Om{q:Addr}{ys:List Str}(a:H p=↥(xs.map V.str))(b:H q=↥(ys.map V.str))(h1:∀ x∈xs,PyData.strOk x=true)(h2:∀ x∈ys,PyData.strOk x=true)(h:Q (.bl<|decide<|xs=ys) H):cEq K (.ref p) (.ref q) H Q:=by
 change rEqD K (.ref p) (.ref q) H Q;show(.list<|xs.map PyData.str,.list<|ys.map PyData.str,.lst (TW a)<|.strs xs,.lst (TW b)<|.strs ys,mP xs h1,mP ys h2,?_);rw[PyData.eqv,wb PyData.str Ct];show h
def On{q:Addr}{ys:List Str}(a:H p=↥(xs.map V.str))(b:H q=↥(ys.map V.str))(h1:∀ x∈xs,PyData.strOk x=true)(h2:∀ x∈ys,PyData.strOk x=true)(h:Q (.bl<|!decide (xs=ys)) H):cNe K (.ref p) (.ref q) H Q:=by
 change rNeD K (.ref p) (.ref q) H Q;show(.list<|xs.map PyData.str,.list<|ys.map PyData.str,.lst (TW a)<|.strs xs,.lst (TW b)<|.strs ys,mP xs h1,mP ys h2,?_);rw[PyData.eqv,wb PyData.str Ct];show h
def zq:R "words least most" ga kJ K:=by
 obtain⟨p,n,c,e,g,rfl,a,b,hw,h0,h1,q⟩:=h;ac_nf;unfold kJ;rw[aC,aA];exists(ba #[1],λl i=>?_);have s1:Same H (upd H l<|.lst []):=(Tu H).laid i;show Om (s1 _ _ a) (ys:=[]) ah (WOk.strs<|WOk.cons (Bg b) hw) (λx f=>nomatch f) ?_;generalize upd H l (.lst [])=H1 at*;symm;rw[Tq (by simp)];show iteF ?_;symm;have d:atI (((numC n::c).map tx).map V.str) 0=some (V.str<|tx<|numC n):=fG (j:=0) rfl;show ixL (s1 _ _ a) d ?_;exists(n,e,g,rfl,b,h0,h1,λm k=>q _<|s1.trans k)
def Li(a:∅)(v:Int):(step_dedup a v).length<=a.length+1:=by
 unfold step_dedup
 split <;> simp
def Ey:∀(l a:∅),(l.foldl step_dedup a).length<=a.length+l.length
 | [],a=>by simp
 | x::r,a=>by
  have h1:=Ey r<|step_dedup a x;have h2:=Li a x;rw[Ul,T8];lia
def xi:∀(l c:∅),c.Nodup->((l.foldl step_dedup c).length=c.length+l.length↔(c++l).Nodup)
 | [],c,h=>by simpa using h
 | x::r,c,h=>by
  rw[Ul];by_cases d:x∈c
  . have e:step_dedup c x=c:=by
     unfold step_dedup;rw[TZ (by simpa using d)]
    rw[e];have:=Ey r c;constructor
    . intro z;rw[T8]at z;lia
    . intro z;have:=(VS.mp z).2.2 x d x TR;show absurd rfl this
  . have e:step_dedup c x=c++[x]:=by
     unfold step_dedup;rw[TX (by simpa using d)]
    rw[e];have j:(c++[x]).Nodup:=VS.mpr (h,by simp,λa i b g z=>d (by rw[TH.mp g]at z;show z ▸ i));have f:=xi r (c++[x]) j;rw[TJ,XG]at f;rw[T8,show c.length+(r.length+1)=c.length+1+r.length by lia,show c++x::r=c++[x]++r by simp];show f
def Bh(ns:∅):(List.range ns.length).map (λi=>ns.getD i 0)=ns:=by
 have:=nn ns (λx=>x)
 simpa using this
def Ez(ns:∅):cntD ns=ns.length↔ns.Nodup:=by
 unfold cntD firstMet;rw[Bh];have:=xi ns [] VW
 simpa using this
def nv:d:=#[3,∃(a p:Addr) (h w g:Int) (b:List Nat),vs=[.ref a,.ref p]/\IsFl H a h w g/\FlOk h w g/\H p=↥(((b.map numC).map tx).map V.str)/\b≠[]/\b.length<=16/\(∀ n∈b,(n:Int)<h*w)/\b.Nodup/\
 ∀ l c,Same H c->H l=none->c l=↥((b.map λ(n:Nat)=>(n:Int)).map V.int)->Q (.ref l) c]
def nG:a:=#[":g'i#2 &--0 ub1h#1 D,'hba1aef#0 ad~a,~Cba2cef#1 cgnpdsb2tcXognpdHb~X2rza2cXoi2"]
variable{ns:List Nat}
def zr(h:ns.Nodup):(ns.map λ(n:Nat)=>(n:Int)).Nodup:=by
 induction ns with
 | nil=>show VW
 | cons a r ih=>
  rw[UB]at h;rw[T7,UB];show(λz=>?_,ih h.2);obtain⟨b,hb,e⟩:=Tz.mp z
  exact h.1 (by have:b=a:=by lia
                show this ▸ hb)
def C5:R "floor words cells" nv nG K:=by
 obtain⟨a,p,h,w,g,ns,rfl,A,F,r,k,o,j,m,q⟩:=h;obtain⟨h0,h1,G,I,D,L,N⟩:=F;exists nG;show((_,TW r),?_);show dM (xs:=((ns.map numC).map tx).map V.str) (λ_=>true) (λi=>.int (ns.getD i 0:Nat)) (by simp;lia) (TW r) ?_ ?_ ?_
 . intro i x c R d s1 k1;show k1 _ (Tu _)
 . intro i x c y d J s1 k1;rw[Tw,Tw,Tw]at d
   cases e:ns[i]? with
   | none=>rw[e]at d;cases d
   | some n=>
    rw[e]at d;cases d;have M:=j n<|Tv e;change tCall _ _ _ _ [none,some<|.str<|tx<|numC n,↑a] c y;exists(a,h,w,g,rfl,s1 _ _ A,h0,h1,?_);exists(n,0,_,rfl,by lia,by lia,by lia,λt b=>?_);have s:=k1 _ b;have C:ns.getD i 0=n:=by rw[List.getD,e];rfl
    rw[C]at s;show s
 . intro l c v s1 f
   have B:((List.range (((ns.map numC).map tx).map V.str).length).filter λ_=>true).map (λi=>V.int (ns.getD i 0:Nat))=(ns.map λ(n:Nat)=>(n:Int)).map V.int:=by
    rw[bn,Tn,Tn,Tn,Uq];show U0 λi=>?_;rw[Tw,Tw];by_cases h:i<ns.length
    . rw[UE h,To h];simp[List.getD,h]
    . rw[TV (by simpa using h),TV #[4]];rfl
   rw[B]at f;symm;rw[aA];exists(ba #[1],λz u=>?_);have b:Same c (upd c z<|.lst []):=(Tu c).laid u;show wa (b _ _ f) (ys:=[]) ah ?_;generalize upd c z (.lst [])=t at*;symm;rw[Tq (by simpa using k)];show iteF ?_;symm;rw[aA];exists(l,_,rfl,b _ _ f,by rw[Tn];lia,?_);rw[bh<|b _ _ f,Tn];symm;rw[Tp (by rw[(Ez _).mpr<|zr m])];show iteF ?_;exists q l _ (s1.trans b) v (b _ _ f)
def  allK:RK->Bool
 | .Joined=>true
 | .NoSquare=>true
 | .Ring=>true
 | _=>false
def  numK:RK->Bool
 | .Sum=>true
 | .Seen=>true
 | .Count=>true
 | _=>false
def  sgnK:RK->Bool
 | .Count=>true
 | .Joined=>true
 | .NoSquare=>true
 | .Ring=>true
 | _=>false
def Oo(k:RK):decide (tx (nmC k)∈iD)=allK k:=by cases k <;> decide+kernel
def Op(k:RK):decide (tx (nmC k)∈iW)=numK k:=by cases k <;> decide+kernel
def Oq(k:RK):decide (tx (nmC k)∈iI)=sgnK k:=by cases k <;> decide+kernel
structure Bi(k:RK)(h w:Int)(ns:List Nat)(cs:∅):Prop where
 told:allK k=false->ns≠[]/\ns.length<=16/\(∀ n∈ns,(n:Int)<h*w)/\ns.Nodup/\cs=ns.map λ(n:Nat)=>(n:Int)
 all:allK k=true->ns=[]/\cs=rngL 0 (h*w)
def qS:d:=#[3,∃ k a p h w g ns cs,vs=[.ref a,.str<|tx<|nmC k,.ref p]/\IsFl H a h w g/\FlOk h w g/\H p=↥(((ns.map numC).map tx).map V.str)/\Bi k h w ns cs/\(∀ n∈ns,n<100)/\
 ∀ l b,Same H b->H l=none->b l=↥(cs.map V.int)->Q (.ref l) b]
def qT:a:=#[":gnq~D'M~h1i,'Nba0a2cognpdHb2tcXoi~Ya,~Cba0cc"]
def Gj:R "floor name words" qS qT K:=by
 obtain⟨k,a,p,h,w,g,ns,cs,rfl,f,F,d,e,A,q⟩:=h;obtain⟨h0,h1,u,v,o,y,B⟩:=id F;have c:0<=h*w:=Vs #[4] #[4];ac_nf;unfold qT;rw[aC,aA];symm;rw[Oo]
 cases i:allK k with
 | false=>
  obtain⟨m,t,n,s,rfl⟩:=e.told i;exists(a,p,h,w,g,ns,rfl,f,F,d,m,t,n,s,q)
 | true=>
  obtain⟨rfl,rfl⟩:=e.all i;symm;rw[aA];exists(ba #[1],λz r=>?_);have s1:Same H (upd H z<|.lst []):=(Tu H).laid r;show On (xs:=[]) (ys:=[]) (s1 _ _ d) ah (λx b=>nomatch b) (λx b=>nomatch b) ?_;generalize upd H z (.lst [])=H1 at*;exists(a,h,w,g,rfl,s1 _ _ f,h0,h1,?_);exists(h*w,rfl,by lia,by lia,λl j=>?_);show q l _ (s1.laid j) (s1.free j) ah
def sR:e:=#[3,∃ k p W C b cs n m,vs=[.ref p,.ref W,.ref C,.int n,.int m]/\k≠.Rule/\c.ok k=true/\H W=↥(((nmC k::b).map tx).map V.str)/\H C=↥(cs.map V.int)/\
 ∀ r a,Same H a->H r=none->IsRule a c k r p (nmC k::b) cs n m->Q (.ref r) a]
def sS:b:=#[":gldk1ef#0 h#5 gnpdsb5evw`0i~i~n'O~obj=~ja0a1a2a3a4cognpdsb5evw`1i~i~n'P~obj=~ja0a1a2a3a4cognpdsb5evw`2i~i~n'Q~obj=~ja0a1a2a3a4cognpdsb5evw`3i~i~n'R~obj=~ja0a1a2a3a4cognpdsb5evw`4i~i~n'S~obj=~ja0a1a2a3a4cognpdsb5evw`5i~i~n'T~obj=~ja0a1a2a3a4cognpdsb5evw`6i~i~n'U~obj=~ja0a1a2a3a4cognpdsb5evw`7i~i~n'V~obj=~ja0a1a2a3a4coX",s!"unlike",s!"sum",s!"rising",s!"seen",s!"count",s!"joined",s!"nosquare",s!"ring"]
def MU{k:RK}{W C:Addr}{i:List (List Nat)}{n m:Int}(u:c.ok k=true)(g:H W=↥((i.map tx).map V.str))(h:H C=↥(cs.map V.int))(q:∀ r f,Same H f->H r=none->IsRule f c k r p i cs n m->Q (.ref r) f):
  ∀ x d,H x=none->H d=none->d≠x->aW K c (.ref x::([.ref p,.ref W,.ref C,.int n,.int m]++[])) (upd (upd H d<|.own x) x<|.ins (c.A k) d []) (λv l=>v=.non/\Q (.ref x) l) E0:=by
 intro x d a j w;show(k,x,d,p,W,C,i,cs,n,m,rfl,u,ah,aF g a,aF h a,?_,?_,λf t s=>(rfl,q x f (λb o e=>t b o (aF e a) ?_) a s))
 . rw[ak<|aF g a,ak<|aF g j];show g
 . rw[ak<|aF h a,ak<|aF h j];show h
 . rw[ak<|aF e a,ak<|aF e j];show e
def Id:R "floor words cells amount mark name" sR sS K c:=by
 obtain⟨k,p,W,C,d,cs,n,m,rfl,i,r,a,o,q⟩:=h;have mk:=MU (K:=K) r a o q;have f:atI (((nmC k::d).map tx).map V.str) 0=some (V.str<|tx<|nmC k):=fG (j:=0) rfl;exists sS;show ixL a f ?_
 have D:∀(l:List Nat) (t:TS) (u:TS) (D:Ends) (b:Bool),decide (nmC k=l)=b->(if b=true then t D [↑p,↑W,↑C,⇑n,⇑m,some<|.str<|tx<|nmC k] H else u D [↑p,↑W,↑C,⇑n,⇑m,some<|.str<|tx<|nmC k] H)->
   tIfS (tTest<|tOp (cEq K) (tVar 5)<|tC<|.str<|tx l) t u D [↑p,↑W,↑C,⇑n,⇑m,some<|.str<|tx<|nmC k] H:=λl t u D b g s=>by
  rw[aA];symm;rw[bN,g];show s
 have R:∀(D:Ends),D.rt=Q->tRet (tMake (c.A k) (aW K c) [] E0<|tCons (tVar 0)<|tCons (tVar 1)<|tCons (tVar 2)<|tCons (tVar 3)<|tCons (tVar 4) tNil) D [↑p,↑W,↑C,⇑n,⇑m,some<|.str<|tx<|nmC k] H:=λD e=>by
  symm;rw[e];show mk
 cases k with
 | Rule=>show absurd rfl i
 | Unlike=>show D _ _ _ _ true #[1] (iteT<|R _ rfl)
 | Sum=>show D _ _ _ _ false #[1] (iteF<|D _ _ _ _ true #[1] (iteT<|R _ rfl))
 | Rising=>show D _ _ _ _ false #[1] (iteF<|D _ _ _ _ false #[1] (iteF<|D _ _ _ _ true #[1] (iteT<|R _ rfl)))
 | Seen=>show D _ _ _ _ false #[1] (iteF<|D _ _ _ _ false #[1] (iteF<|D _ _ _ _ false #[1] (iteF<|D _ _ _ _ true #[1] (iteT<|R _ rfl))))
 | Count=>show D _ _ _ _ false #[1] (iteF<|D _ _ _ _ false #[1] (iteF<|D _ _ _ _ false #[1] (iteF<|D _ _ _ _ false #[1] (iteF<|D _ _ _ _ true #[1] (iteT<|R _ rfl)))))
 | Joined=>show D _ _ _ _ false #[1] (iteF<|D _ _ _ _ false #[1] (iteF<|D _ _ _ _ false #[1] (iteF<|D _ _ _ _ false #[1] (iteF<|D _ _ _ _ false #[1] (iteF<|D _ _ _ _ true #[1] (iteT<|R _ rfl))))))
 | NoSquare=>show D _ _ _ _ false #[1] (iteF<|D _ _ _ _ false #[1] (iteF<|D _ _ _ _ false #[1] (iteF<|D _ _ _ _ false #[1] (iteF<|D _ _ _ _ false #[1] (iteF<|D _ _ _ _ false #[1] (iteF<|D _ _ _ _ true #[1] (iteT<|R _ rfl)))))))
 | Ring=>show D _ _ _ _ false #[1] (iteF<|D _ _ _ _ false #[1] (iteF<|D _ _ _ _ false #[1] (iteF<|D _ _ _ _ false #[1] (iteF<|D _ _ _ _ false #[1] (iteF<|D _ _ _ _ false #[1] (iteF<|D _ _ _ _ false #[1] (iteF<|D _ _ _ _ true #[1] (iteT<|R _ rfl))))))))
def  rowW(k:RK)(n m:Nat)(ns:List Nat):List (List Nat):=nmC k::((if numK k then [numC n] else [])++(if sgnK k then [numC m] else [])++ns.map numC)
structure EA(k:RK)(h w g:Int)(n m:Nat)(ns:List Nat)(cs:∅):Prop where
 k0:k≠.Rule
 n0:n<=99
 nz:numK k=false->n=0
 m0:sgnK k=true->1<=(m:Int)/\(m:Int)<=g
 mz:sgnK k=false->m=0
 cl:Bi k h w ns cs
 ns0:∀ x∈ns,x<100
 len:ns.length<=16
def pq:e:=#[3,∃ k p h w g n m ns cs,vs=[.ref p,.str<|tx<|catL 32<|rowW k n m ns]/\IsFl H p h w g/\FlOk h w g/\EA k h w g n m ns cs/\c.ok k=true/\
 ∀ r a,Same H a->H r=none->IsRule a c k r p (rowW k n m ns) cs n m->Q (.ref r) a]
def iE:b:=#[":i,'Wbja0a2a,'Xba0a3a4ca5a6c"]
def kK:b:=#[":gldk2ef#0 h#3 gl~b~c2/ef#1 ~ph#4 glef#0 h#5 glef#0 h#6 gnq~D'YF3gl,'jba4aef#0 aef#99 ch#5 l~b~c4/ef#1 ~ph#4 ognq~D'ZF3gl,'jba4aef#1 adk0ef#2 ch#6 l~b~c4/ef#1 ~ph#4 o'*bj"]
def pA:b:=#[":gnyqrYa1aeZ~ZcXoglOb~Z'+1aevw`0ch#2 '-bj",[32]]
def MV(k:RK):32∉nmC k:=by cases k <;> decide
variable{m:Nat}
def JQ{k:RK}(d:n<100)(b:m<100)(e:∀ x∈ns,x<100):∀ r∈rowW k n m ns,32∉r:=by
 intro r a;unfold rowW at a;rcases TN.mp a with rfl | a
 . show MV k
 rcases Ud.mp a with a | a
 . rcases Ud.mp a with a | a
   . split at a
     . rw[TH.mp a];show ye d
     . cases a
   . split at a
     . rw[TH.mp a];show ye b
     . cases a
 . obtain⟨x,c,rfl⟩:=Tz.mp a;show ye (e x c)
def EB(xs:List V):cutV xs (some 1) none=xs.drop 1:=by
 unfold cutV;have h1:HT.sIx xs.length 0 (some 1)=min 1 xs.length:=HT.sIx_nat ..;have h2:HT.sIx xs.length xs.length none=xs.length:=rfl;rw[h1,h2]
 cases xs with
 | nil=>rfl
 | cons x r=>
  have:min 1 (x::r).length=1:=by simp
  rw[this];change(r).take _=r;rw[Ut (by simp)]
def qh {k:RK} {W R:Addr} {h w g:Int} {a:List (List Nat)} {d:V} (F:FlOk h w g) (u:IsFl H p h w g) (j:H W=↥(((nmC k::a).map tx).map V.str)) (e:H R=↥(((ns.map numC).map tx).map V.str)) (o:Bi k h w ns cs) (v:∀ x∈ns,x<100) (k0:k≠.Rule) (t:c.ok k=true)
  (q:∀ r b,Same H b->H r=none->IsRule b c k r p (nmC k::a) cs n m->Q (.ref r) b):
  iE K c (eD9 Q) [↑p,some d,↑W,some<|.str<|tx<|nmC k,↑R,⇑n,⇑m] H:=by
 unfold iE;exists(k,p,R,h,w,g,ns,cs,rfl,u,F,e,o,v,λl z s1 A i=>?_);exists(k,p,W,l,a,cs,n,m,rfl,k0,t,s1 _ _ j,i,λr f y s x=>q r f (s1.trans y) (s1.free s) x)
def Gk{k:RK}(h:ns.length<=16):(rowW k n m ns).length<=100/\∀ w∈rowW k n m ns,w.length<=100:=by
 unfold rowW;show(?_,λw hw=>?_)
 . simp only[T8,TJ,Tn]
   split <;> split <;> simp <;> lia
 . rcases TN.mp hw with rfl | hw
   . cases k <;> decide
   have h2:∀ x,(numC x).length<=100:=λx=>TU Bc #[1];rcases Ud.mp hw with hw | hw
   . rcases Ud.mp hw with hw | hw
     . split at hw
       . rw[TH.mp hw];show h2 _
       . cases hw
     . split at hw
       . rw[TH.mp hw];show h2 _
       . cases hw
   . obtain⟨x,a,rfl⟩:=Tz.mp hw;show h2 _
def zt:∀(Td:List (List Nat)),(∀ r∈Td,r.length<=100)->(catL 32 Td).length<=101*Td.length
 | [],_=>UK _
 | [x],h=>by
  have:=h x TR;change x.length<=101*1;lia
 | x::y::r,h=>by
  have h1:=h x TR;have b:=zt (y::r) λz a=>h z<|TD _ a;have e:catL 32 (x::y::r)=x++32::catL 32 (y::r):=by first | rfl | simp[catL]
  rw[e,TJ,T8,T8];lia
def Bj{x:Str}(b:H p=↥((x::xs).map V.str))(q:∀ l,H l=none->Q (.ref l) (upd H l<|.lst<|xs.map V.str)):kF (.ref p) (some 1) none H Q:=by
 show qg b λl a=>?_;rw[EB];show q l a
def zu {k:RK} {W:Addr} {h w g:Int} {N:V} (F:FlOk h w g) (E:IsFl H p h w g) (B:H W=↥(((rowW k n m ns).map tx).map V.str)) (O:EA k h w g n m ns cs) (S:c.ok k=true)
  (q:∀ r J,Same H J->H r=none->IsRule J c k r p (rowW k n m ns) cs n m->Q (.ref r) J):
  kK K c (eD9 Q) [↑p,some N,↑W,none,none,none,none] H:=by
 obtain⟨k0,n0,nz,L,mz,M,i,ab⟩:=O;obtain⟨h0,h1,w0,w1,ae,g0,g1⟩:=id F;have Z:atI (((rowW k n m ns).map tx).map V.str) 0=some (V.str<|tx<|nmC k):=fG (j:=0) rfl;have y:WOk (ns.map numC):=λv e=>by obtain⟨x,hx,rfl⟩:=Tz.mp e;show Bg (i x hx)
 unfold kK;exists ixL B Z ?_;exists Bj B λR X=>?_;obtain⟨H1,U,s1,t⟩:=bp (.lst<|(((if numK k then [numC n] else [])++(if sgnK k then [numC m] else [])++ns.map numC).map tx).map V.str) X;rw[U];symm
 have u:∀{A:Hp} {z:Addr},Same H A->A z=↥((((if sgnK k then [numC m] else [])++ns.map numC).map tx).map V.str)->
   tSeq (tIfS (tB<|tInG iI false<|tVar 3) (tSeq (tAsg (tCall (ga K) [] E0<|tCons (tVar 4)<|tCons (tC<|.int 1)<|tCons (tOp cIx (tVar 0)<|tC<|.int 2) tNil)<|gName 6)<|tAsg (tSl kF (tVar 4) (tPart<|tC<|.int 1) gC)<|gName 4) tNext) (iE K c) (eD9 Q)
    [↑p,some N,↑W,some<|.str<|tx<|nmC k,↑z,⇑n,⇑0] A:=by
  intro A z s a;rw[aC,aA];symm;rw[Oq]
  cases o:sgnK k with
  | false=>
   rw[o]at a;have:=mz o;subst this;exists qh F (s _ _ E) (s _ _ B) a M i k0 S λr b f D x=>q r b (s.trans f) (s.free D) x
  | true=>
   rw[o]at a;have P:=L o;exists ixT (s _ _ E) (v:=V.int g) rfl ?_;exists(z,m,ns.map numC,1,g,rfl,a,by lia,y,P.1,P.2,λb f=>?_);exists Bj (f _ _ a) λC l=>?_;have G:Same b (upd b C<|.lst<|((ns.map numC).map tx).map V.str):=(Tu b).laid l;have d:=(s.trans f).trans G;show qh F (d _ _ E) (d _ _ B) ah M i k0 S λr Y T D x=>q r Y (d.trans T) (d.free D) x
 rw[aA];symm;rw[Op]
 cases I:numK k with
 | false=>
  rw[I]at t;have:=nz I;subst this;exists u s1 t
 | true=>
  rw[I]at t;exists(R,n,(if sgnK k then [numC m] else [])++ns.map numC,0,99,rfl,t,by lia,?_,by lia,by lia,λb f=>?_)
  . intro v e;rcases Ud.mp e with e | e
    . split at e
      . rename_i o
        have:=L o;rw[TH.mp e];show Bg #[4]
      . cases e
    . show y v e
  exists Bj (f _ _ t) λC l=>?_;have G:Same b (upd b C<|.lst<|(((if sgnK k then [numC m] else [])++ns.map numC).map tx).map V.str):=(Tu b).laid l;exists u ((s1.trans f).trans G) ah
def EC:R "floor line words name rest amount mark" pq pA K c:=by
 obtain⟨k,p,h,w,g,n,m,ns,cs,rfl,s,F,O,o,q⟩:=h
 have j:m<100:=by
  by_cases d:sgnK k=true
  . have:=(O.m0 d).2;have:=F.g1;lia
  . have:=O.mz (by simpa using d);lia
 have a:Txt.split (tx<|catL 32<|rowW k n m ns) (tx [32])=(rowW k n m ns).map tx:=Lg (by simp[rowW]) (JQ (by have:=O.n0;lia) j O.ns0);have e:=Gk (k:=k) (n:=n) (m:=m) O.len;have b:=zt _ e.2;ac_nf;unfold pA;rw[aC,aA];exists(L8,?_);rw[MK,a];show(by rw[pb];decide,by rw[pb];show Uy<|UW b<|UW (Nat.mul_le_mul_left 101 e.1) #[1],by rw[Tn];show ba #[4],λW i=>?_);have s1:Same H (upd H W<|.lst<|((rowW k n m ns).map tx).map V.str):=(Tu H).laid i;show zu F (s1 _ _ s) ah O o λr f t l x=>q r f (s1.trans t) (s1.free l) x
def Cu{α β:Type}(f:α->β):∀(l:List α) (j:Nat),(l.map f).eraseIdx j=(l.eraseIdx j).map f
 | [],_=>rfl
 | _::_,0=>rfl
 | x::r,j+1=>by
  change f x::(r.map f).eraseIdx j=f x::(r.eraseIdx j).map f;rw[Cu f r j]
def zv{α:Type}:∀(l:List α) (j:Nat) (h:j<l.length),(l[j]::l.eraseIdx j).Perm l
 | [],_,h=>absurd h (by simp)
 | x::r,0,_=>List.Perm.refl _
 | x::r,j+1,h=>by
  have a:j<r.length:=by simpa using h
  have b:=zv r j a;change(r[j]::x::r.eraseIdx j).Perm (x::r);show(List.Perm.swap x r[j]<|r.eraseIdx j).trans (List.Perm.cons x b)
def uU{α β:Type}(f:α->β):∀{l:List α},(l.map f).Nodup->l.Nodup
 | [],_=>VW
 | a::r,h=>by
  rw[T7,UB]at h;rw[UB];show(λz=>h.1<|Tz.mpr (a,z,rfl),uU f h.2)
def JR(n:Int):(rngL 0 n).Nodup:=by
 unfold rngL;have e:(List.range (n-0).toNat).map (λ(k:Nat)=>0+(k:Int))=(List.range (n-0).toNat).map λ(k:Nat)=>(k:Int):=Vd λk _=>by lia
 rw[e];show zr Xl
def we{n x:Int}(h:x∈rngL 0 n):0<=x/\x<n:=by
 unfold rngL at h;obtain⟨k,a,rfl⟩:=Tz.mp h;have:=TC.mp a;lia
def qi:e:=gS K c .Unlike
def kL:b:=#[":glBjP~M~Nbj0a1ch#2 idsb~X2rza2c"]
def zw:R "self filling signs" qi kL K c:=by
 obtain⟨r,p,f,i,cs,xs,n,m,h,w,g,rfl,x,s,F,j,d,o,q⟩:=h;obtain⟨k,W,C,h1,h2,h3⟩:=x.ex;exists kL;show methE rfl x.ok h1 (by rfl) ?_;exists(r,p,f,i,cs,xs,n,m,rfl,x,j,d,λl t s1 u b=>?_);have v:(sgAt xs cs).length<=100:=by unfold sgAt;rw[Tn];show TU d.1 #[1]
 exists(l,_,rfl,b,by lia,?_);symm;rw[bh b,Tn];symm;have a:=q _ s1;unfold hoB at a;dsimp only at a
 have e:decide (((cntD (sgAt xs cs):Nat):Int)=((sgAt xs cs).length:Nat))=decide (cntD (sgAt xs cs)=(sgAt xs cs).length):=by
  rw[Up,Tt,Tt];lia
 rw[e];show a
def MW(h:n<100):((n:Int)).natAbs.log2<1920:=by
 have t:((List.range 100).all λn=>decide<|n.log2<1920)=true:=by decide+kernel
 have:=Ty.mp t n (TC.mpr h)
 simpa using this
def MX(h:n<100)(q:Q (.str<|tx<|numC n) H):kStr [.int (n:Int)] H Q:=by
 show(MW h,?_);rw[MR h];show q
def JS {C:Addr} {cs:List Nat} (q:H C=↥((cs.map λ(n:Nat)=>(n:Int)).map V.int)) (s:cs.length<=100) (o:∀ c∈cs,c<100)
  (p:∀ l f,H l=none->Same H f->f l=↥(((cs.map numC).map tx).map V.str)->fin l f):CompR (Itl K C) (gName 1) tTrue (tCB kStr<|tCons (tVar 1) tNil) fin [none,none] H:=by
 show dM (xs:=(cs.map λ(n:Nat)=>(n:Int)).map V.int) (λ_=>true) (λi=>.str<|tx<|numC<|cs.getD i 0) (by simp;lia) (TW q) ?_ ?_ ?_
 . intro i x b R a s1 k1;show k1 _ (Tu _)
 . intro i x b j a r s1 k1;rw[Tw,Tw]at a
   cases e:cs[i]? with
   | none=>rw[e]at a;cases a
   | some n=>
    rw[e]at a;cases a;change tCB kStr _ [none,⇑(n:Int)] b j;symm;have g:=k1 _<|Tu b;have k:cs.getD i 0=n:=by rw[List.getD,e];rfl
    rw[k]at g;have:=MX (H:=b) (Q:=j) (o n<|Tv e) g;show this
 . intro l b d s1 m;show p l b d s1 ?_;rw[m,bn,Tn,Tn,Uq,Uq]
   congr 2
   show U0 λi=>?_;rw[Tw,Tw];by_cases h:i<cs.length
   . rw[UE h,To h];simp[List.getD,h]
   . rw[TV (by simpa using h),TV #[4]];rfl
section
variable{X:Cx}{a:Expr}{ta:TE}{pos p:Pos}{x:Str}{ws:List Str}
def zy(G:GTup X.K X.mg x ws)(l:PE X a ta)(f:Gl X x)(c:(x==("__debug__":Str))=false:=by decide)(j:behindInMarks .In (.Name x p)=false:=by with_unfolding_all rfl):PT X (.Compare a [.In] [.Name x p] pos) (tB<|tInG ws false ta):=by
 obtain⟨q,o,g,n,h1,h2⟩:=G.ex;have h0:=ao (pos:=pos) (Oi (o,g,n,h2)) l (bQ (v:=V.ref q) f h1 rfl c) j;intro i s σ H Q I h;show h0 i s σ H Q I ?_
 have e:(λ(x:V) (b:Hp)=>∃ z,x=.str z/\∃ k,V.bl (if false=true then !decide (z∈ws) else decide (z∈ws))=.bl k/\Q k b)=λx b=>∃ z,x=.str z/\(V.ref q=V.ref q)/\∃ k,V.bl (decide<|z∈ws)=.bl k/\Q k b:=by
  funext x b;simp
 have d:ta σ H (λ(x:V) (b:Hp)=>∃ z,x=.str z/\∃ k,V.bl (if false=true then !decide (z∈ws) else decide (z∈ws))=.bl k/\Q k b):=h;rw[e]at d;show d
def Hf(G:GTup X.K X.mg x ws)(l:PE X a ta)(f:Gl X x)(c:(x==("__debug__":Str))=false:=by decide)(j:behindInMarks .NotIn (.Name x p)=false:=by with_unfolding_all rfl):PT X (.Compare a [.NotIn] [.Name x p] pos) (tB<|tInG ws true ta):=by
 obtain⟨q,o,g,n,h1,h2⟩:=G.ex;have h0:=ao (pos:=pos) (MN (o,g,n,h2)) l (bQ (v:=V.ref q) f h1 rfl c) j;intro i s σ H Q I h;show h0 i s σ H Q I ?_
 have e:(λ(x:V) (b:Hp)=>∃ z,x=.str z/\∃ k,V.bl (if true=true then !decide (z∈ws) else decide (z∈ws))=.bl k/\Q k b)=λx b=>∃ z,x=.str z/\(V.ref q=V.ref q)/\∃ k,V.bl (!decide (z∈ws))=.bl k/\Q k b:=by
  funext x b;simp
 have d:ta σ H (λ(x:V) (b:Hp)=>∃ z,x=.str z/\∃ k,V.bl (if true=true then !decide (z∈ws) else decide (z∈ws))=.bl k/\Q k b):=h;rw[e]at d;show d
end
inductive PzK where
 | Puzzle
 deriving DecidableEq
structure RR where
 k:RK
 n:Nat
 m:Nat
 ns:List Nat
 cs:∅
def  RR.ws(r:RR):List (List Nat):=rowW r.k r.n r.m r.ns
def  RR.txt(r:RR):Str:=tx (catL 32 r.ws)
def  RR.Ok(r:RR)(h w g:Int):Prop:=EA r.k h w g r.n r.m r.ns r.cs
structure IsRules(H:Hp)(c:XZ)(p L:Addr)(rs:List Addr)(Td:List RR):Prop where
 top:H L=↥(rs.map V.ref)
 len:rs.length=Td.length
 at_:∀(i:Nat) (r:Addr) (x:RR),rs[i]? =some r->Td[i]? =some x->IsRule H c x.k r p x.ws x.cs x.n x.m
variable{H:Hp}{c:XZ}{p:Addr}{rs:List Addr}{Td:List RR}
def  IsRules.same{a:Hp}{L:Addr}(x:IsRules H c p L rs Td)(s:Same H a):IsRules a c p L rs Td:=
 (s _ _ x.top,x.len,λi r y h1 h2=>(x.at_ i r y h1 h2).same s)
variable{cs:∅}{o:HO}
def IsRule.lst{k:RK}{r a:Addr}{d:List (List Nat)}{n m:Int}{xs:List V}(x:IsRule H c k r p d cs n m)(b:H a=↥xs):IsRule (upd H a o) c k r p d cs n m:=by
 obtain⟨f,W,C,h1,h2,h3⟩:=x.ex;show(x.ok,f,W,C,?_,?_,?_)
 . rw[ak (λe=>by rw[e,b]at h1;cases h1)];show h1
 . rw[ak (λe=>by rw[e,b]at h2;cases h2)];show h2
 . rw[ak (λe=>by rw[e,b]at h3;cases h3)];show h3
def  pFs(p L G:Addr):List (Str × V):=[("floor" ,.ref p),("laws" ,.ref L),("given" ,.ref G)]
structure bY(c:XZ)(h w g:Int)(Td:List RR):Prop where
 F:FlOk h w g
 n:Td.length<=12
 ok:∀ r∈Td,r.Ok h w g
 c:∀ r∈Td,c.ok r.k=true
 nr:∀ r∈Td,allK r.k=false
structure CluesOk(h w g:Int)(cl:∅):Prop where
 len:cl.length=(h*w).toNat
 ok:∀ x∈cl,0<=x/\x<=g
abbrev X8:=RCl PzK
structure IsPz(H:Hp)(c:XZ)(d:X8)(P L G:Addr)(h w g:Int)(Td:List RR)(cl:∅):Prop where
 ok:d.ok .Puzzle=true
 R:bY c h w g Td
 C:CluesOk h w g cl
 gv:H G=↥(cl.map V.int)
 ex:∃ dx p rs,H P=some (.ins (d.A .Puzzle) dx<|pFs p L G)/\IsFl H p h w g/\IsRules H c p L rs Td
variable{d:X8}{cl:∅}
def IsPz.same{a:Hp}{P L G:Addr}{h w g:Int}(x:IsPz H c d P L G h w g Td cl)(s:Same H a):IsPz a c d P L G h w g Td cl:=by
 obtain⟨b,p,rs,h1,h2,h3⟩:=x.ex;show(x.ok,x.R,x.C,s _ _ x.gv,b,p,rs,s _ _ h1,s _ _ h2,h3.same s)
def fA:d:=#[3,∃ i:Int,vs=[.int i]/\Q (.bl true) H]
def qU:a:=#[":iJrYa0aeZ~Oc'krYa0aeZ'lc"]
variable{K:Frag}{vs:List V}{Q:VK}{E:XK}
def Gm:R "value" fA qU K:=by
 obtain⟨i,rfl,q⟩:=h;exists qU;show q
def dt:d:=#[3,∃ i m:Int,vs=[.int i,.int m]/\Q (.bl<|decide (1<=i)&&decide (i<=m)) H]
def i8:a:=#[":iJ,~Eba0cJd(ef#1 0d(01"]
def wr:R "value most" dt i8 K:=by
 obtain⟨i,m,rfl,q⟩:=h;exists i8;show(i,rfl,(true,rfl,iteT ?_));symm
 cases a:decide (1<=i) with
 | false=>
  rw[a,Uk]at q;show iteF q
 | true=>
  rw[a,Uj]at q;show iteT q
def qV:d:=#[3,∃ h w g:Int,vs=[.int h,.int w,.int g]/\FlOk h w g/\∀ p,H p=none->Q (.ref p) (upd H p<|.tup [.int h,.int w,.int g])]
def qW:a:=#[":gnyq,~Pba0aef#6 cXognyq,~Pba1aef#6 cXognpd>d-01ef#16 Xognyq,~Pba2aef#6 cXoiNa0a1a2c"]
def Gn:R "high wide signs" qV qW K:=by
 obtain⟨h,w,g,rfl,F,q⟩:=h;obtain⟨h0,h1,a,c,b,d,e⟩:=id F;ac_nf;unfold qW;rw[aC,aA];exists(h,6,rfl,(_,rfl,?_));rw[Tp h0,Tp h1,Xf];show iteF ?_;rw[aA];exists(w,6,rfl,(_,rfl,?_));rw[Tp a,Tp c,Xf];show iteF ?_;rw[aA];exists(uN h0 h1,?_);rw[Tq (show ¬ (16:Int)<h*w by lia)];show iteF ?_;rw[aA];exists(g,6,rfl,(_,rfl,?_));rw[Tp d,Tp e,Xf];show iteF ?_;exists(lnR rfl,q)
def jL:d:=#[3,∃ p h w g,vs=[.ref p]/\IsFl H p h w g/\FlOk h w g/\∀ p,H p=none->Q (.ref p) (upd H p<|.tup [.int h,.int w,.int g])]
def jM:a:=#[":gnIyqrYa0aeZ~QcpdHbrza0cef#3 Xoi,'/badk0ef#0 adk0ef#1 adk0ef#2 c"]
def yj:R "floor" jL jM K:=by
 obtain⟨p,h,w,g,rfl,a,F,q⟩:=h;ac_nf;unfold jM;rw[aC,aA];exists zn a ?_;symm;rw[o7 a,show(([V.int h,V.int w,V.int g]:List V).length:Int)=3 from rfl];exists ixT a (v:=V.int h) rfl ?_;exists ixT a (v:=V.int w) rfl ?_;exists ixT a (v:=V.int g) rfl ?_;exists(h,w,g,rfl,F,q)
def nI:e:=#[3,∃ p a h w g Td,vs=[.ref p,.ref a]/\IsFl H p h w g/\H a=↥((Td.map RR.txt).map V.str)/\bY c h w g Td/\
 ∀ l rs b,Same H b->H l=none->IsRules b c p l rs Td->Q (.ref l) b]
def nJ:b:=#[":gnpd>rza1cef#12 Xoix&--0 ub1h#1 D,':bja2a1c"]
def C6:R "floor lines" nI nJ K c:=by
 obtain⟨p,a,h,w,g,Td,rfl,N,A,O,q⟩:=h;have T:=O.n;ac_nf;unfold nJ;rw[aC,aA];symm;rw[bh A,Tn,Tn];symm;rw[Tq (show ¬ (12:Int) < (Td.length:Nat) by lia)];show iteF ?_;exists((_,TW A),?_)
 show mV (xs:=(Td.map RR.txt).map V.str) (λl i σ t=>(∃ C,σ=[none,C,↑p])/\Same H t/\∃ rs:List Addr,t l=↥(rs.map V.ref)/\rs.length=i/\∀(j:Nat) (r:Addr) (x:RR),rs[j]? =some r->Td[j]? =some x->IsRule t c x.k r p x.ws x.cs x.n x.m)
  (λl o=>((none,rfl),(Tu H).laid o,[],by rw[ah];rfl,rfl,λj r x e=>by simp at e)) (λl i σ t _ _ x=>x.2.1.seq<|TW A) ?_ ?_
 . rintro l i x σ B o f ⟨⟨C,rfl⟩,s1,rs,d,v,b⟩;rw[Tw,Tw]at f
   cases e:Td[i]? with
   | none=>rw[e]at f;cases f
   | some y=>
    rw[e]at f;cases f;have R:=(Tr.mp e).1;have G:=Tv e;rw[aZ];change tTrue [none,some<|.str y.txt,↑p] B _;exists(y.k,p,h,w,g,y.n,y.m,y.ns,y.cs,rfl,s1 _ _ N,O.F,O.ok y G,O.c y G,λr S s D I=>?_);have M:r≠l:=λz=>by rw[z,d]at D;cases D
    show(_,s _ _ d,by rw[Tn];show aH #[4],(_,rfl),(s1.trans s).own o,rs++[r],by rw[ah];simp,by simp[v],λj J P h1 h2=>?_);by_cases L:j<rs.length
    . rw[Ub L]at h1;show((b j J P h1 h2).same s).lst (s _ _ d)
    . rw[Uc #[4]]at h1
      have u:j-rs.length=0:=by
       have:=(Tr.mp h1).1;simp at this;lia
      rw[u]at h1;have:j=i:=by lia
      subst this;rw[e]at h2;simp at h1;cases h2;subst h1;show I.lst (s _ _ d)
 . rintro l σ B o ⟨_,s1,rs,d,v,b⟩;show q l rs B s1 o (d,by rw[v];simp,b)
def  filB(a g:Int)(n:Nat)(xs:∅):Bool:=decide (xs.length=n)&&xs.all λx=>decide (a<=x)&&decide (x<=g)
def jC:d:=#[3,∃ p a h w g b xs,vs=[.ref p,.ref a,.int b]/\IsFl H p h w g/\FlOk h w g/\H a=↥(xs.map V.int)/\xs.length<=100/\∀ c,Same H c->Q (.bl<|filB b g (h*w).toNat xs) c]
def nK:a:=#[":gnIyqrYa1aeZKcpdHbrza1c,~Cba0cieLFoir~gax&--02 ub1h#1 DJ,~Eba1cJd(31d(1dk2ef#2 c"]
def C7:R "floor filling least" jC nK K:=by
 obtain⟨p,a,h,w,g,b,xs,rfl,o,F,d,G,q⟩:=h;obtain⟨h0,h1,B,C,y,D,I⟩:=id F;have n:0<=h*w:=Vs #[4] #[4];ac_nf;unfold nK;rw[aC,aA];exists rH d ?_;symm;rw[bh d,Tn];exists(p,h,w,g,rfl,o,h0,h1,?_);symm;unfold filB at q;by_cases m:xs.length=(h*w).toNat
 . rw[Tp (show(xs.length:Int)=h*w by lia)];rw[Tp m]at q;exists((_,TW d),?_);show dM (xs:=xs.map V.int) (λ_=>true) (λi=>.bl<|decide (b<=xs.getD i 0)&&decide (xs.getD i 0<=g)) (by rw[Tn];lia) (TW d) ?_ ?_ ?_
   . intro i x e R k s1 k1;show k1 _ (Tu _)
   . intro i x e u k f s1 k1;obtain⟨z,t,rfl⟩:=aI k;have c:=k1 _<|Tu e;rw[cC t]at c;change tAndV _ _ [none,⇑z,↑p,⇑b] e u;exists(z,rfl,(true,rfl,iteT ?_));symm
     cases f:decide (b<=z) with
     | false=>
      rw[f,Uk]at c;show iteF c
     | true=>
      rw[f,Uj]at c;show iteT ?_;exists ixT (s1 _ _ o) (v:=V.int g) rfl ?_;symm;show c
   . intro l e A s1 j
     have s:((List.range (xs.map V.int).length).filter λ_=>true).map (λi=>V.bl<|decide (b<=xs.getD i 0)&&decide (xs.getD i 0<=g))=(xs.map λx=>decide (b<=x)&&decide (x<=g)).map V.bl:=by
      rw[bn,Tn];show U0 λi=>?_;rw[Tw,Tw,Tw];by_cases h:i<xs.length
      . rw[UE h,To h];simp[List.getD,h]
      . rw[TV (by simpa using h),TV #[4]];rfl
     rw[s]at j;show oI j ?_;have r:(xs.map λx=>decide (b<=x)&&decide (x<=g)).all id=xs.all λx=>decide (b<=x)&&decide (x<=g):=by rw[VN];rfl
     rw[r];show q _ s1
 . rw[Tq (show ¬ (xs.length:Int)=h*w by lia)];rw[Tq m]at q;exists q _ (Tu _)
def jN:d:=#[3,∃ p a h w g xs,vs=[.ref p,.ref a]/\IsFl H p h w g/\FlOk h w g/\H a=↥(xs.map V.int)/\CluesOk h w g xs/\∀ l b,Same H b->H l=none->b l=↥(xs.map V.int)->Q (.ref l) b]
def jO:a:=#[":gnyq,'mba0a1aef#0 cXoir~ma1c"]
def CluesOk.fil{h w g:Int}{xs:∅}(C:CluesOk h w g xs):filB 0 g (h*w).toNat xs=true:=by
 unfold filB;rw[Tp C.len,Uj,Ty];intro x a;have:=C.ok x a;simp[this.1,this.2]
def yn:R "floor clues" jN jO K:=by
 obtain⟨p,a,h,w,g,xs,rfl,e,F,b,C,q⟩:=h;obtain⟨h0,h1,f,i,d,j,k⟩:=id F;ac_nf;unfold jO;rw[aC,aA];exists(p,a,h,w,g,0,xs,rfl,e,F,b,by have:=C.len;lia,λm s1=>?_);rw[C.fil];show(true,rfl,iteF ?_);exists o8 (s1 _ _ b) λl c=>?_;show q l _ (s1.laid c) (s1.free c) ah
def IsRule.ins{k:RK}{r a:Addr}{f:List (List Nat)}{n m:Int}{C h:Addr}{fs:List (Str × V)}(x:IsRule H c k r p f cs n m)(d:H a=some (.ins C h fs))(g:fs.length≠5):IsRule (upd H a o) c k r p f cs n m:=by
 obtain⟨b,W,i,h1,h2,h3⟩:=x.ex;show(x.ok,b,W,i,?_,?_,?_)
 . rw[ak (λe=>by rw[e,d]at h1;cases h1;show g rfl)];show h1
 . rw[ak (λe=>by rw[e,d]at h2;cases h2)];show h2
 . rw[ak (λe=>by rw[e,d]at h3;cases h3)];show h3
def  IsRules.ins{L a:Addr}{C f:Addr}{fs:List (Str × V)}(x:IsRules H c p L rs Td)(b:H a=some (.ins C f fs))(d:fs.length≠5):IsRules (upd H a o) c p L rs Td:=
 (by rw[ak (λe=>by have:=x.top;rw[e,b]at this;cases this)];show x.top,x.len,λi r y h1 h2=>(x.at_ i r y h1 h2).ins b d)
def dP:f:=#[3,∃ x f p a b h w g Td cl,vs=[.ref x,.ref p,.ref a,.ref b]/\d.ok .Puzzle=true/\H x=some (.ins (d.A .Puzzle) f [])/\IsFl H p h w g/\H a=↥((Td.map RR.txt).map V.str)/\H b=↥(cl.map V.int)/\bY c h w g Td/\CluesOk h w g cl/\
 ∀ L G e,(∀ y o,y≠x->H y=some o->e y=some o)->H L=none->H G=none->IsPz e c d x L G h w g Td cl->Q .non e]
def iJ:c:=#[":g~lm0,';ba1c~Bg~lm0,'?bjaSm0~Ba2c~*~lm0,'[baSm0~Ba3c~+"]
def uV:R "self floor lines clues" dP iJ K c d:=by
 obtain⟨x,i,p,a,b,h,w,g,Td,cl,rfl,u,N,hp,Y,T,R,C,q⟩:=h;ac_nf;unfold iJ sFldK;exists(p,h,w,g,rfl,hp,R.F,λf I=>?_);have j:x≠f:=aF N I;show(x,.Puzzle,i,[],rfl,u,by rw[ak j];show N,by change(0:Nat)<1000;decide,?_)
 have f1:∀ y o,y≠x->H y=some o->(upd (upd H f<|.tup [.int h,.int w,.int g]) x<|.ins (d.A .Puzzle) i<|putF "floor" (.ref f) []) y=some o:=λy o s e=>by
  rw[ak s,ak<|aF e I];show e
 have m:(upd (upd H f<|.tup [.int h,.int w,.int g]) x<|.ins (d.A .Puzzle) i<|putF "floor" (.ref f) []) x=some (.ins (d.A .Puzzle) i [("floor" ,.ref f)]):=ah
 have r:IsFl (upd (upd H f<|.tup [.int h,.int w,.int g]) x<|.ins (d.A .Puzzle) i<|putF "floor" (.ref f) []) f h w g:=by
  change(upd (upd H f<|.tup [.int h,.int w,.int g]) x _) f=_;rw[ak j.symm,ah]
 have D:∀ l,(upd (upd H f<|.tup [.int h,.int w,.int g]) x<|.ins (d.A .Puzzle) i<|putF "floor" (.ref f) []) l=none->H l=none:=λl e=>by
  have O:l≠x:=λz=>by rw[z,ah]at e;cases e
  rw[ak O]at e;have n2:l≠f:=λz=>by rw[z,ah]at e;cases e
  rw[ak n2]at e;show e
 have S:a≠x:=λz=>by rw[z,N]at Y;cases Y
 have U:b≠x:=λz=>by rw[z,N]at T;cases T
 generalize upd (upd H f<|.tup [.int h,.int w,.int g]) x (.ins (d.A .Puzzle) i<|putF "floor" (.ref f) [])=H1 at*;show fldE (c:=d) (k:=.Puzzle) rfl u m (v:=.ref f) (by rfl) ?_;exists(f,a,h,w,g,Td,rfl,r,f1 a _ S Y,R,λL rs t J W X=>?_);show(x,.Puzzle,i,_,rfl,u,J _ _ m,by change(1:Nat)<1000;decide,?_);have ae:L≠x:=λz=>by rw[z,m]at W;cases W
 have X3:=X.ins (o:=.ins (d.A .Puzzle) i (putF "laws" (.ref L) [("floor" ,.ref f)])) (J _ _ m) (by change(1:Nat)≠5;decide)
 have f2:∀ y o,y≠x->H y=some o->(upd t x<|.ins (d.A .Puzzle) i<|putF "laws" (.ref L) [("floor" ,.ref f)]) y=some o:=λy o s e=>by
  rw[ak s];show J _ _ (f1 y o s e)
 have n:(upd t x<|.ins (d.A .Puzzle) i<|putF "laws" (.ref L) [("floor" ,.ref f)]) x=some (.ins (d.A .Puzzle) i [("floor" ,.ref f),("laws" ,.ref L)]):=ah
 have B:IsFl (upd t x<|.ins (d.A .Puzzle) i<|putF "laws" (.ref L) [("floor" ,.ref f)]) f h w g:=by
  change(upd t x _) f=_;rw[ak j.symm];show J _ _ r
 have ab:∀ l,(upd t x<|.ins (d.A .Puzzle) i<|putF "laws" (.ref L) [("floor" ,.ref f)]) l=none->H1 l=none:=λl e=>by
  have O:l≠x:=λz=>by rw[z,ah]at e;cases e
  rw[ak O]at e;show J.free e
 generalize upd t x (.ins (d.A .Puzzle) i<|putF "laws" (.ref L) [("floor" ,.ref f)])=H3 at*;show fldE (c:=d) (k:=.Puzzle) rfl u n (v:=.ref f) (by rfl) ?_;exists(f,b,h,w,g,cl,rfl,B,R.F,f2 b _ U T,C,λG H4 M Z eG=>?_);show(x,.Puzzle,i,_,rfl,u,M _ _ n,by change(2:Nat)<1000;decide,?_);have P:G≠x:=λz=>by rw[z,n]at Z;cases Z
 show q L G _ (λy o s e=>?_) (D L W) (D G<|ab G Z) (u,R,C,?_,i,f,rs,?_,?_,?_)
 . rw[ak s];show M _ _ (f2 y o s e)
 . rw[ak P];show eG
 . rw[ah];rfl
 . change(upd H4 x _) f=_;rw[ak j.symm];show M _ _ B
 . show(X3.same M).ins (M _ _ n) (by change(2:Nat)≠5;decide)
def Os {Z:Addr->Hp->Prop} {a b:Addr} {h w g:Int} (s:d.ok .Puzzle=true) (I:IsFl H p h w g) (E:H a=↥((Td.map RR.txt).map V.str)) (n:H b=↥(cl.map V.int)) (R:bY c h w g Td) (C:CluesOk h w g cl)
  (q:∀ P L G i,Same H i->H P=none->H L=none->H G=none->IsPz i c d P L G h w g Td cl->Z P i):
  ∀ x f,H x=none->H f=none->f≠x->dP K c d (.ref x::([.ref p,.ref a,.ref b]++[])) (upd (upd H f<|.own x) x<|.ins (d.A .Puzzle) f []) (λv r=>v=.non/\Z x r) E0:=by
 intro x f j B J;have k:∀ y o,H y=some o->(upd (upd H f<|.own x) x<|.ins (d.A .Puzzle) f []) y=some o:=λy o e=>by rw[ak<|aF e j,ak<|aF e B];show e
 have l:∀ y,(upd (upd H f<|.own x) x<|.ins (d.A .Puzzle) f []) y=none->H y=none:=λy e=>by
  have t:y≠x:=λz=>by rw[z,ah]at e;cases e
  rw[ak t]at e;have m:y≠f:=λz=>by rw[z,ah]at e;cases e
  rw[ak m]at e;show e
 show(x,f,p,a,b,h,w,g,Td,cl,rfl,s,ah,k _ _ I,k _ _ E,k _ _ n,R,C,λL G i u D F X=>(rfl,q x L G i (λy o e=>u y o (aF e j)<|k _ _ e) j (l L D) (l G F) X))
def  gW(K:Frag)(c:XZ)(d:X8)(_:PzK):Sp:=#[3,∃(P L G:Addr) (h w g:Int) (Td:List RR) (cl:∅),vs=[.ref P]/\IsPz H c d P L G h w g Td cl/\∀ p,IsFl H p h w g->Q (.ref p) H]
def qj:f:=gW K c d .Puzzle
def kM:c:=#[":iSm0~B"]
def zA:R "self" qj kM K c d:=by
 obtain⟨P,L,G,h,w,g,Td,cl,rfl,x,q⟩:=h;obtain⟨a,p,rs,h1,h2,h3⟩:=x.ex;exists kM;show fldE (k:=.Puzzle) rfl x.ok h1 (v:=.ref p) (by rfl) (q p h2)
def  yo(K:Frag)(c:XZ)(d:X8)(_:PzK):Sp:=#[3,∃(P L G:Addr) (h w g:Int) (Td:List RR) (cl:∅),vs=[.ref P]/\IsPz H c d P L G h w g Td cl/\∀ l,H l=none->Q (.ref l) (upd H l<|.lst<|cl.map V.int)]
def qk:f:=yo K c d .Puzzle
def kN:c:=#[":ir~maSm0~+c"]
def zB:R "self" qk kN K c d:=by
 obtain⟨P,L,G,h,w,g,Td,cl,rfl,x,q⟩:=h;obtain⟨a,p,rs,h1,h2,h3⟩:=x.ex;exists kN;show fldE (k:=.Puzzle) rfl x.ok h1 (v:=.ref G) (by rfl) ?_;exists o8 x.gv q
def  gX(K:Frag)(c:XZ)(d:X8)(_:PzK):Sp:=#[3,∃(P L G:Addr) (h w g:Int) (Td:List RR) (cl:∅),vs=[.ref P]/\IsPz H c d P L G h w g Td cl/\∀ l p rs,H l=none->IsFl (upd H l<|.lst<|rs.map V.ref) p h w g->IsRules (upd H l<|.lst<|rs.map V.ref) c p l rs Td->Q (.ref l) (upd H l<|.lst<|rs.map V.ref)]
def ql:f:=gX K c d .Puzzle
def kO:c:=#[":ir~maSm0~*c"]
def zC:R "self" ql kO K c d:=by
 obtain⟨P,L,G,h,w,g,Td,cl,rfl,x,q⟩:=h;obtain⟨b,p,rs,h1,h2,h3⟩:=x.ex;exists kO;show fldE (k:=.Puzzle) rfl x.ok h1 (v:=.ref L) (by rfl) ?_;exists o8 h3.top λl a=>?_;have s1:Same H (upd H l<|.lst<|rs.map V.ref):=(Tu H).laid a;show q l p rs a (s1 _ _ h2) (ah,h3.len,λi r y e1 e2=>(h3.at_ i r y e1 e2).same s1)
inductive DRows(w:World)(K:Frag):List DictEntry->List (Str × List Str)->Prop
 | nil:DRows w K [] []
 | cons {hsh:Int} {k:Str} {t:Tok} {q:Addr} {o:Obj} {Tg:Array Value} {n:Nat} {ws:List Str} {es:List DictEntry} {D:List (Str × List Str)}:hsh=hashStr w k->K.lookup q=some o->o.cls=.type "tuple"->o.data=.seq Tg n->Tg.size<=sizeLine->Vals (ws.map V.str) Tg.toList->DRows w K es D->DRows w K ((hsh,.str k t,.ref q)::es) ((k ,ws)::D)
structure GDict(w:World)(K:Frag)(mg:Str->Option Value)(x:Str)(D:List (Str × List Str)):Prop where
 ex:∃(p:Addr) (o:Obj) (es:Array DictEntry) (ep:Nat),mg x=↑p/\K.lookup p=some o/\o.ExactDict/\o.data=.dict es ep/\DRows w K es.toList D/\(D.map λx=>x.1).Nodup
def DRows.of{P:Program}{w:World}{K:Frag}{f:List DictEntry}{D:List (Str × List Str)}(h:DRows w K f D):
  ∃ b:List (Str × Value),Pairs (strKind P w) f b/\b.map (λx=>x.1)=D.map (λx=>x.1)/\(∀ e∈f,∃ k,(strKind P w).is k e.key=true/\e.hash=(strKind P w).hash k)/\
   ∀ k d,D.lookup k=some d->∃ q,valueAt b k=↑q/\∃(o:Obj) (Tg:Array Value) (n:Nat),K.lookup q=some o/\o.cls=.type "tuple"/\o.data=.seq Tg n/\Tg.size<=sizeLine/\Vals (d.map V.str) Tg.toList:=by
 induction h with
 | nil=>show([],.nil,rfl,λe c=>(by cases c),λk d e=>(by cases e))
 | @cons v k t q o Tg n d f D h1 h2 h3 h4 h5 h6 _ r=>
  obtain⟨b,l,s,y,m⟩:=r;have j:(strKind P w).is k (.str k t)=true:=by change(k==k)=true;simp
  show((k ,.ref q)::b,.cons j rfl l,by rw[T7,T7,s],λe c=>?_,λg i e=>?_)
  . rcases TN.mp c with rfl | c
    . show(k,j,h1)
    . show y e c
  . rw[UO]at e;unfold valueAt;rw[Vv];by_cases a:g=k
    . subst a;simp at e;subst e;show(q,by simp,o,Tg,n,h2,h3,h4,h5,h6)
    . have p:(g==k)=false:=by simpa using a
      rw[p]at e;have u:decide (k=g)=false:=Tq<|λz=>a z.symm;dsimp only;rw[u];show m g i e
def  tIxG(K:Frag)(D:List (Str × List Str))(te:TE):TE:=λσ H Q=>te σ H λy a=>∃ k b,y=.str k/\D.lookup k=some b/\∀ q,SqT K a q (b.map V.str)->Q (.ref q) a
def  rInS(K:Frag):R2:=λx y H Q=>∃(z:Str) (q:Addr) (a:List Str),x=.str z/\y=.ref q/\SqT K H q (a.map V.str)/\Q (.bl<|decide<|z∈a) H
section
variable{X:Cx}{a b:Expr}{ta tb:TE}{pos p:Pos}{x:Str}{D:List (Str × List Str)}
def Ot(G:GDict X.w X.K X.mg x D)(O:PE X b tb)(S:Gl X x)(g:A6 b)(j:(x==("__debug__":Str))=false:=by decide):PE X (.Subscript (.Name x p) b pos) (tIxG X.K D tb):=by
 obtain⟨d,o,es,U,h1,h2,h3,h4,h5,h6⟩:=G.ex;obtain⟨Y,J,Z,p3,p4⟩:=h5.of (P:=X.prog)
 have M:IxR X (λx y H Q=>x=.ref d/\∃ k a,y=.str k/\D.lookup k=some a/\∀ q,SqT X.K H q (a.map V.str)->Q (.ref q) H):=by
  intro i l m s σ H x y v u Q I W ry h F;obtain⟨rfl,k,a,rfl,R,q⟩:=h;cases (show v=Value.ref d from W);have f:s.heap.get? d=some o:=I.kIn d o h2;have A:Heap.DictOf (strKind X.prog X.w) s.heap d Y:=(o,es,U,f,h3,h4,λe B=>p3 e<|Array.mem_toList_iff.mpr B,J,by rw[Z];show h6);obtain⟨r,hv,L,Tg,n,g1,E,T,C,N⟩:=p4 k a R;obtain⟨t,rfl⟩:∃ t,u=Value.str k t:=ry;have hk:(strKind X.prog X.w).is k (.str k t)=true:=by change(k==k)=true;simp
  show tail_any A.typeIs V1.lookup (wpAny_getItem_of hk A.mapOf hv ?_) F;show(.ref r,H,I.tok _,rfl,q r<|.inr (L,Tg,n,g1,E,T,C,N))
 have h0:=DI (pos:=pos) M (bQ (pos:=p) (v:=V.ref d) S h1 rfl j) O g;intro m s σ H Q I h;show h0 m s σ H Q I ?_
 have e:(λ(y:V) (c:Hp)=>∃ k a,y=.str k/\D.lookup k=some a/\∀ q,SqT X.K c q (a.map V.str)->Q (.ref q) c)=λy c=>(V.ref d=V.ref d)/\∃ k a,y=.str k/\D.lookup k=some a/\∀ q,SqT X.K c q (a.map V.str)->Q (.ref q) c:=by
  funext y c;simp
 have z:tb σ H (λ(y:V) (c:Hp)=>∃ k a,y=.str k/\D.lookup k=some a/\∀ q,SqT X.K c q (a.map V.str)->Q (.ref q) c):=h;rw[e]at z;show z
def Ou:OpR X (compareOp .In) (rInS X.K):=by
 intro d s σ H x y v u Q I b c h;obtain⟨z,q,a,rfl,rfl,e,h⟩:=h;show qe d s σ H _ _ v u Q I b c (q,a.map V.str,rfl,.inr e,rfl,kj a,?_);rw[lW];show h
end
section
variable{K:Frag}{σ:St}{H:Hp}{Q:VK}{te:TE}{D:List (Str × List Str)}
def  Py:tIxG K D te σ H Q=te σ H λy a=>∃ k b,y=.str k/\D.lookup k=some b/\∀ q,SqT K a q (b.map V.str)->Q (.ref q) a:=rfl
end
def   ws5:String:="aC if_true if_false Bool.false_eq_true decide_true decide_false dq dr gm cj bO dm d7 dn cg d5 d6 ce gk ck cm cw cy cA cB cq d8 d9 eh d4 gl Bool.not_true Bool.not_false aC "++ws1
local macro_rules|`(tactic|walk_at "w")=>wk9 ws5
def  stB(m s:Int):Bool:=decide (1<=s)&&(decide (s<=((Builtin.Int.intBits m:Nat):Int))&&decide (m/2^(s-1).toNat%2=1))
def iK:d:=#[3,∃ m s:Int,vs=[.int m,.int s]/\Q (.bl<|stB m s) H]
def uW:a:=#[":iJd(ef#1 1Jd(1~-b~O'n0dsbdTd']0d~a1ef#1 ef#2 ef#1 "]
variable{K:Frag}{vs:List V}{H:Hp}{Q:VK}{E:XK}
def JT:R "mask sign" iK uW K:=by
 obtain⟨m,s,rfl,q⟩:=h;exists uW;unfold stB at q
 cases h1:decide (1<=s) with
 | false=>rw[h1,Uk]at q;show iteF q
 | true=>
  show iteT (rfl,?_);symm;rw[h1,Uj]at q
  cases h2:decide (s<=((Builtin.Int.intBits m:Nat):Int)) with
  | false=>rw[h2,Uk]at q;show iteF q
  | true=>
   rw[h2,Uj]at q;show iteT (by have:=TF h1;lia,by decide,q)
def mY:d:=#[3,∃ s:Int,vs=[.int s]/\1<=s/\s<=100000/\Q (.int<|2^(s-1).toNat) H]
def uX:a:=#[":glef#1 h#1 gG~sad~a0ef#1 ch#2 ld-1ef#2 h#1 i1"]
def JU:R "sign bit step" mY uX K:=by
 obtain⟨s,rfl,h1,h2,q⟩:=h;exists uX;show(s-1,rfl,by lia,by lia,?_);show qd (λi σ a=>∃ b:Option V,σ=[⇑s,⇑(2^i),b]/\a=H) (none,rfl,rfl) ?_ ?_
 . rintro i σ a c ⟨b,rfl,rfl⟩;exists(.inr (by decide,by decide),?_);simp[Int.pow_succ]
 . rintro σ a ⟨b,rfl,rfl⟩;symm;show q
def  woI(m s:Int):Int:=if stB m s=true then m-2^(s-1).toNat else m
def oM:d:=#[3,∃ m s:Int,vs=[.int m,.int s]/\s<=100000/\Q (.int<|woI m s) H]
def sU:a:=#[":iRq,~Jba0a1cd~a0,~/ba1c0"]
def Ie:R "mask sign" oM sU K:=by
 obtain⟨m,s,rfl,h2,q⟩:=h;exists sU;show(m,s,rfl,_,rfl,?_);unfold woI at q
 cases a:stB m s with
 | false=>
  rw[a,TX TB]at q;show iteF q
 | true=>
  rw[a,TZ rfl]at q;show iteT (s,rfl,?_,h2,?_)
  . unfold stB at a;rw[Tx,Tt]at a;show a.1
  . symm;show q
def jv:d:=#[3,∃ m s:Int,vs=[.int m,.int s]/\s<=100000/\Q (.bl<|decide<|woI m s=0) H]
def qX:a:=#[":idsb,'oba0a1cef#0 "]
def Gp:R "mask sign" jv qX K:=by
 obtain⟨m,s,rfl,h2,q⟩:=h;exists qX;show(m,s,rfl,h2,?_);symm;show q
def  sgL(m:Int):∅:=((List.range<|Builtin.Int.intBits m).filter λ(i:Nat)=>stB m<|1+(i:Int)).map λ(i:Nat)=>1+(i:Int)
def aS:d:=#[3,∃ m:Int,vs=[.int m]/\Builtin.Int.intBits m<=900/\∀ l a,Same H a->H l=none->a l=↥((sgL m).map V.int)->Q (.ref l) a]
def qY:a:=#[":ix&--0 ~:aef#1 adA~-b~O'n0ef#1 ch#1 q,~Jba2a1c1"]
def Gq:R "mask" aS qY K:=by
 obtain⟨m,rfl,b,k⟩:=h;exists qY;show(rfl,1,_,rfl,by lia,?_);have d:(((Builtin.Int.intBits m:Nat):Int)+1-1).toNat=Builtin.Int.intBits m:=by lia
 rw[d];show mO (λ(i:Nat)=>stB m<|1+(i:Int)) (λ(i:Nat)=>1+(i:Int)) b ?_ ?_ ?_
 . intro i a R e s1 k1;change tB _ [none,⇑(1+(i:Int)),⇑m] a R;exists(m,_,rfl,_,rfl,k1 _<|Tu _)
 . intro i a g e b s1 k1;show k1 _ (Tu _)
 . intro l a f s1 c;show k l a s1 f c
local macro_rules|`(tactic|walk_at "w")=>wk9 ws4
inductive TK where
 | clue | only | place | count | step | sum | square | reach | turn | pair | ways
 deriving DecidableEq
def  tkC:TK->List Nat
 | .clue=>s!"clue"
 | .only=>s!"only"
 | .place=>s!"place"
 | .count=>s!"count"
 | .step=>s!"step"
 | .sum=>s!"sum"
 | .square=>s!"square"
 | .reach=>s!"reach"
 | .turn=>s!"turn"
 | .pair=>s!"pair"
 | .ways=>s!"ways"
def  aX:List Str:=[tx s!"clue",tx s!"only",tx s!"place",tx s!"count",tx s!"step",tx s!"sum",tx s!"square",tx s!"reach",tx s!"turn",tx s!"pair",tx s!"ways"]
def  jD:List Str:=[tx s!"clue",tx s!"only",tx s!"place",tx s!"step",tx s!"pair"]
def  iF:List Str:=[tx s!"count",tx s!"sum",tx s!"ways"]
def  gd_RULES_OF_KIND:List (Str × List Str):=[(tx s!"only" ,[tx s!"unlike"]),(tx s!"place" ,[tx s!"unlike"]),(tx s!"count" ,[tx s!"count"]),(tx s!"step" ,[tx s!"rising"]),(tx s!"sum" ,[tx s!"sum"]),(tx s!"square" ,[tx s!"nosquare"]),(tx s!"reach" ,[tx s!"joined",tx s!"ring"]),(tx s!"turn" ,[tx s!"ring"]),(tx s!"pair" ,[tx s!"unlike"])]
def  wsOf:TK->List Str
 | .only=>[tx s!"unlike"]
 | .place=>[tx s!"unlike"]
 | .count=>[tx s!"count"]
 | .step=>[tx s!"rising"]
 | .sum=>[tx s!"sum"]
 | .square=>[tx s!"nosquare"]
 | .reach=>[tx s!"joined",tx s!"ring"]
 | .turn=>[tx s!"ring"]
 | .pair=>[tx s!"unlike"]
 | _=>[]
def  goesB:TK->RK->Bool
 | .ways,_=>true
 | .only,.Unlike=>true
 | .place,.Unlike=>true
 | .count,.Count=>true
 | .step,.Rising=>true
 | .sum,.Sum=>true
 | .square,.NoSquare=>true
 | .reach,.Joined=>true
 | .reach,.Ring=>true
 | .turn,.Ring=>true
 | .pair,.Unlike=>true
 | _,_=>false
def  lineK:TK->Bool
 | .clue=>true
 | .only=>true
 | .place=>true
 | .step=>true
 | .pair=>true
 | _=>false
def  nbrK:TK->Bool
 | .count=>true
 | .sum=>true
 | .ways=>true
 | _=>false
def Lj(t:TK):decide (tx (tkC t)∈aX)=true:=by cases t <;> decide+kernel
def MY(t:TK):decide (tx (tkC t)∈jD)=lineK t:=by cases t <;> decide+kernel
def Ov(t:TK):decide (tx (tkC t)∈iF)=nbrK t:=by cases t <;> decide+kernel
variable{t:TK}
def Pz(h1:t≠.clue)(h2:t≠.ways):gd_RULES_OF_KIND.lookup (tx<|tkC t)=some (wsOf t):=by
 cases t <;> first | show absurd rfl h1 | show absurd rfl h2 | decide+kernel
def MZ(h2:t≠.ways)(k:RK):decide (tx (nmC k)∈wsOf t)=goesB t k:=by
 cases t <;> first | show absurd rfl h2 | (cases k <;> decide+kernel)
def M3(t:TK):decide (tkC t=s!"ways")=decide (t=.ways):=by cases t <;> decide
def wg(t:TK):decide (tkC t=s!"clue")=decide (t=.clue):=by cases t <;> decide
def Hg(t:TK):decide (tkC t=s!"only")=decide (t=.only):=by cases t <;> decide
def oN:d:=#[3,∃ p h w g i,vs=[.ref p,.int i]/\IsFl H p h w g/\FlOk h w g/\Q (.bl<|decide (0<=i)&&decide (i<h*w)) H]
def sV:a:=#[":iJ,~Eba1cJd(ef#0 1d<1,~Cba0c"]
variable{K:Frag}{vs:List V}{H:Hp}{Q:VK}{E:XK}
def Ig:R "floor value" oN sV K:=by
 obtain⟨p,h,w,g,i,rfl,b,F,q⟩:=h;exists sV;show(i,rfl,(true,rfl,iteT ?_));symm
 cases a:decide (0<=i) with
 | false=>
  rw[a,Uk]at q;show iteF q
 | true=>
  rw[a,Uj]at q;show iteT ?_;exists(p,h,w,g,rfl,b,F.h0,F.h1,?_);symm;show q
def kP:d:=#[3,∃ p h w g i,vs=[.ref p,.int i]/\IsFl H p h w g/\Q (.bl<|decide (1<=i)&&decide (i<=g)) H]
def sW:a:=#[":i,~Pba1adk0ef#2 c"]
def Ih:R "floor value" kP sW K:=by
 obtain⟨p,h,w,g,i,rfl,a,q⟩:=h;exists sW;show ixT a (v:=V.int g) rfl ?_;exists(i,g,rfl,q)
def oO:e:=#[3,∃ t k r p a cs n m,vs=[.str<|tx<|tkC t,.ref r]/\t≠.clue/\IsRule H c k r p (nmC k::a) cs n m/\Q (.bl<|goesB t k) H]
def sX:b:=#[":i~;dsb0evw`0d'^bBjP{a{bbj1c{cb{d0",s!"ways"]
variable{c:XZ}
def Ii:R "kind rule" oO sX K c:=by
 obtain⟨t,k,r,p,a,cs,n,m,rfl,d,x,q⟩:=h;obtain⟨f,W,C,h1,h2,h3⟩:=x.ex;exists sX;rw[bN,M3];by_cases hw:t=.ways
 . subst hw;rw[Tp rfl];show iteT q
 . rw[Tq hw];show iteF ?_;show methE (k:=k) rfl x.ok h1 (by rfl) ?_;exists(r,p,nmC k,a,cs,n,m,rfl,x,?_);dsimp only;rw[Py];exists(_,_,rfl,Pz d hw,λb e=>?_);show(_,b,_,rfl,rfl,e,?_);rw[MZ hw];show q
def fC:e:=#[3,∃ k r p b cs n m z,vs=[.ref r,.int z]/\IsRule H c k r p b cs n m/\cs.length<=63/\∀ l a,Same H a->H l=none->a l=↥((cs.filter λx=>!decide (x=z)).map V.int)->Q (.ref l) a]
def uY:b:=#[":ix&--1 ubBjP~t~ubj0ch#1 pdHb121"]
def JV:R "rule cell" fC uY K c:=by
 obtain⟨k,r,p,g,cs,n,m,z,rfl,x,v,q⟩:=h;obtain⟨t,W,C,h1,h2,h3⟩:=x.ex;ac_nf;unfold uY;rw[dC,bR];show methE (k:=k) rfl x.ok h1 (by rfl) ?_;exists(r,p,g,cs,n,m,rfl,x,λl s=>?_);obtain⟨w,o,s1,e⟩:=bp (.lst<|cs.map V.int) s;rw[o];show(l,rfl,(_,TW e),?_);show bE (xs:=cs) (λx=>!decide (x=z)) (λx=>x) #[4] (TW e) ?_ ?_ ?_
 . intro y a R f b k2;change tTest _ [none,⇑y,⇑z] a R;exists k2 _ (Tu _)
 . intro y a j f u b k2;change tVar 1 [none,⇑y,⇑z] a j;exists k2 _ (Tu _)
 . intro T a i b d;rw[VO]at d;show q T a (s1.trans b) (s1.free i) d
def  hitB(t:TK)(Td:List RR)(r z:Int):Bool:=if r<0 then false else if t=.clue then decide (r=0) else match Td[r.toNat]? with
 | none=>false
 | some x=>goesB t x.k&&decide (z∈x.cs)
def kQ:f:=#[3,∃ t P L G h w g r z Td cl,vs=[.ref P,.str<|tx<|tkC t,.int r,.int z]/\IsPz H c d P L G h w g Td cl/\∀ a,Same H a->Q (.bl<|hitB t Td r z) a]
def kR:c:=#[":gnIyq,~Eba2cpd<2ef#0 ieLFognpdsb1evw`0idsb2ef#0 oglBmU~v~wbjm0ch#4 gnpd)2rza4cieLFoiJ,'pbja1adk42cd[bF3BjP~t~ubjdk42c",s!"clue"]
def  RR.ws_cons(r:RR):∃ t,r.ws=nmC r.k::t:=(_,rfl)
variable{d:X8}
def zD:R "puzzle kind number cell rules" kQ kR K c d:=by
 obtain⟨t,P,L,G,h,w,g,r,z,Td,cl,rfl,x,q⟩:=h;obtain⟨Y,p,rs,h1,h2,h3⟩:=x.ex;have hN:=x.R.F.m;ac_nf;unfold kR;rw[aC,aA];exists(r,rfl,(true,rfl,iteF ?_));symm;unfold hitB at q;by_cases n:r<0
 . rw[TZ n]at q;rw[Tp n];show iteT (q _<|Tu _)
 rw[TX n]at q;rw[Tq n];show iteF ?_;rw[aA];symm;rw[bN,wg];by_cases f:t=.clue
 . rw[TZ f]at q;rw[Tp f];show iteT (q _<|Tu _)
 rw[TX f]at q;rw[Tq f];show iteF ?_;show methE (k:=.Puzzle) rfl x.ok h1 (by rfl) ?_;exists(P,L,G,h,w,g,Td,cl,rfl,x,λl A a I O X=>?_);have s1:Same H (upd H l<|.lst<|a.map V.ref):=(Tu H).laid I;generalize upd H l (.lst<|a.map V.ref)=H1 at*;have J:=X.len;symm;rw[aA];symm;rw[bh X.top,Tn,J];symm;by_cases j:(Td.length:Int)<=r
 . rw[Tp j];have e:Td[r.toNat]? =none:=TV #[4];rw[e]at q;show iteT (q _ s1)
 rw[Tq j];have u:r.toNat<Td.length:=by lia
 have B:Td[r.toNat]? =some Td[r.toNat]:=To u;rw[B]at q;have v:a[r.toNat]? =some a[r.toNat]:=To #[4];have i:=X.at_ _ _ _ v B;obtain⟨C,o⟩:=RR.ws_cons Td[r.toNat];rw[o]at i;have b:atI (a.map V.ref) r=some (V.ref a[r.toNat]):=lU #[4] v;show iteF ?_;show ixL X.top b ?_;exists(t,_,_,A,C,_,_,_,rfl,f,i,?_);dsimp only at q
 cases y:goesB t Td[r.toNat].k with
 | false=>
  rw[y,Uk]at q;show(false,rfl,iteF<|q _ s1)
 | true=>
  rw[y,Uj]at q;show(true,rfl,iteT ?_);unfold aN;symm;obtain⟨s,W1,W,T,U,Z⟩:=i.ex;show ixL X.top b ?_;show(_,Td[r.toNat].k,s,_,rfl,i.ok,T,by rfl,?_);show(_,A,_,_,_,_,rfl,i,λS D=>?_);have N:Same H1 (upd H1 S<|.lst<|Td[r.toNat].cs.map V.int):=(Tu H1).laid D;have M:(upd H1 S<|.lst<|Td[r.toNat].cs.map V.int) S=↥(Td[r.toNat].cs.map V.int):=ah;dsimp only;rw[HY M];show q _ (s1.trans N)
structure IsTh(H:Hp)(T M:Addr)(t:TK)(r z s:Int)(ms:∅):Prop where
 T:H T=some (.tup [.str<|tx<|tkC t,.int r,.int z,.int s,.ref M])
 M:H M=↥(ms.map V.int)
 n:ms.length<=100
variable{r z:Int}{ms:∅}
def  IsTh.same{a:Hp}{T M:Addr}{s:Int}(x:IsTh H T M t r z s ms)(s':Same H a):IsTh a T M t r z s ms:=(s' _ _ x.T,s' _ _ x.M,x.n)
def  formB(h w g:Int)(Td:List RR)(t:TK)(r z s:Int):Bool:=(decide (0<=z)&&decide (z<h*w))&&((decide (1<=s)&&decide (s<=g))&&hitB t Td r z)
def pB:f:=#[3,∃ t P L G T M h w g r z s Td cl ms,vs=[.ref P,.ref T]/\IsPz H c d P L G h w g Td cl/\IsTh H T M t r z s ms/\∀ a,Same H a->Q (.bl<|formB h w g Td t r z s) a]
def kS:c:=#[":iJrYadk1ef#4 aeZKcr~gax&-- ubdk1ef#4 h#1 D,~Eba1cc"]
def pC:c:=#[":gnIyqrYa1aeZ~QcIpdHbrza1cef#5 q~D:~hdk1ef#0 ieLFoglBmU~x~ybjm0ch#2 gnIyq,'qba2adk1ef#2 cyq,~?ba2adk1ef#3 cieLFognyq,{ebjma0adk1ef#0 adk1ef#1 adk1ef#2 cieLFo{fbjm"]
def zE{P T M:Addr}{s:Int}{v2:Option V}(x:IsTh H T M t r z s ms)(q:∀ g,Same H g->Q (.bl true) g):
  kS K c d (eD9 Q) [↑P,↑T,v2] H:=by
 have u:=x.n;unfold kS;exists ixT x.T (v:=V.ref M) rfl ?_;exists rH x.M ?_;exists ixT x.T (v:=V.ref M) rfl ?_;exists((_,TW x.M),?_);show dM (xs:=ms.map V.int) (λ_=>true) (λ_=>.bl true) (by rw[Tn];lia) (TW x.M) ?_ ?_ ?_
 . intro i y a R h s1 k1;show k1 _ (Tu _)
 . intro i y a m h e s1 k1;obtain⟨v,p,rfl⟩:=aI h;change tCall _ _ _ _ [none,⇑v] a m;exists(v,rfl,k1 _<|Tu _)
 . intro l a o s1 f
   have j:((List.range (ms.map V.int).length).filter λ_=>true).map (λ_=>V.bl true)=(List.replicate (ms.map V.int).length true).map V.bl:=by
    rw[bn,List.map_const',UG,WS]
   rw[j]at f;show oI f ?_
   have k:(List.replicate (ms.map V.int).length true).all id=true:=by
    rw[Ty];intro b e;show(V9.mp e).2
   rw[k];show q _ s1
def ED:R "puzzle thought floor" pB pC K c d:=by
 obtain⟨t,P,L,G,T,M,h,w,g,r,z,s,Td,cl,ms,rfl,x,y,q⟩:=h;obtain⟨m,p,rs,h1,h2,h3⟩:=x.ex;ac_nf;unfold pC;rw[aC,aA];exists zn y.T ?_;symm;rw[o7 y.T,show(([.str<|tx<|tkC t,.int r,.int z,.int s,.ref M]:List V).length:Int)=5 from rfl];exists ixT y.T (v:=V.str (tx<|tkC t)) rfl ?_;symm;rw[Lj];exists methE (k:=.Puzzle) rfl x.ok h1 (by rfl) ?_;exists(P,L,G,h,w,g,Td,cl,rfl,x,λf a=>?_);symm;rw[aA];exists ixT y.T (v:=V.int z) rfl ?_;exists(f,h,w,g,z,rfl,a,x.R.F,?_);unfold formB at q
 cases i:(decide (0<=z)&&decide (z<h*w)) with
 | false=>
  rw[i,Uk]at q;show(false,rfl,iteT<|q _<|Tu _)
 | true=>
  rw[i,Uj]at q;show(true,rfl,iteF ?_);show ixT y.T (v:=V.int s) rfl ?_;exists(f,h,w,g,s,rfl,a,?_)
  cases e:(decide (1<=s)&&decide (s<=g)) with
  | false=>
   rw[e,Uk]at q;show(false,rfl,iteT<|q _<|Tu _)
  | true=>
   rw[e,Uj]at q;show(true,rfl,iteF ?_);rw[aA];exists ixT y.T (v:=V.str (tx<|tkC t)) rfl ?_;exists ixT y.T (v:=V.int r) rfl ?_;exists ixT y.T (v:=V.int z) rfl ?_;exists(t,P,L,G,h,w,g,r,z,Td,cl,rfl,x,λn s1=>?_)
   cases b:hitB t Td r z with
   | false=>
    rw[b]at q;show(false,rfl,iteT<|q _ s1)
   | true=>
    rw[b]at q;show(true,rfl,iteF ?_);show zE (y.same s1) λj l=>q j (s1.trans l)
abbrev nsV(cs:List Nat):List V:=(cs.map λ(n:Nat)=>(n:Int)).map V.int
def yp(xs:List V){k:Int}(h:0<=k):cutV xs none (some k)=xs.take k.toNat:=by
 unfold cutV;have e:k=((k.toNat:Nat):Int):=by lia
 have h1:HT.sIx xs.length 0 none=0:=rfl
 have h2:HT.sIx xs.length xs.length (some k)=min k.toNat xs.length:=by
  conv=>lhs;rw[e]
  show HT.sIx_nat ..
 rw[h1,h2];change(xs.drop 0).take _=_;rw[List.drop_zero];by_cases a:k.toNat<=xs.length
 . rw[WC a];rfl
 . rw[V0 #[4],Ut #[4],Ut #[4]]
def  dW:TE:=λ_ _ _=>False
def  dw{X:Cx}{e:Expr}:PE X e dW:=λ_ _ _ _ _ _ h=>h.elim
def  clueB(cl:∅)(z s:Int)(ms:∅):Bool:=decide (ms=[])&&(!decide (cl.getD z.toNat 0=0)&&!decide (cl.getD z.toNat 0=s))
def kT:d:=#[3,∃ C M z s cl ms,vs=[.ref C,.int z,.int s,.ref M]/\H C=↥(cl.map V.int)/\0<=z/\z<cl.length/\H M=↥(ms.map V.int)/\∀ a,Same H a->Q (.bl<|clueB cl z s ms) a]
def kU:a:=#[":iJdsb3tcJdHbdk01ef#0 dHbdk012"]
def zF:R "clues cell sign more" kT kU K:=by
 obtain⟨C,M,z,s,cl,ms,rfl,d,f,e,i,q⟩:=h;exists kU;show(ba #[1],λl g=>?_);obtain⟨H1,z9,s1,el⟩:∃ z,upd H l (.lst [])=z/\Same H z/\z l=↥(([]:∅).map V.int):=bp _ g;rw[z9];show wa (s1 _ _ i) el ?_;have a:=q _ s1;unfold clueB at a
 cases c:decide (ms=[]) with
 | false=>
  rw[c,Uk]at a;show(false,rfl,iteF a)
 | true=>
  rw[c,Uj]at a;show(true,rfl,iteT ?_);exists ixI (s1 _ _ d) f e ?_;symm
  cases b:decide (cl.getD z.toNat 0=0) with
  | true=>
   rw[b,Wr,Uk]at a;show iteF a
  | false=>
   rw[b,WT,Uj]at a;show iteT ?_;show ixI (s1 _ _ d) f e ?_;symm;show a
def  onlyB(cs Tb:∅)(z s:Int)(ms:∅):Bool:=decide (ms.length=1)&&(decide (ms.getD 0 0∈cs.filter λx=>!decide (x=z))&&decide (woI (Tb.getD (ms.getD 0 0).toNat 0) s=0))
def kW:e:=#[3,∃ k r p A M d cs a ms n m z s,vs=[.ref r,.ref A,.int z,.int s,.ref M]/\IsRule H c k r p d cs n m/\a8 cs a.length/\H A=↥(a.map V.int)/\H M=↥(ms.map V.int)/\s<=1000/\∀ b,Same H b->Q (.bl<|onlyB cs a z s ms) b]
def kX:b:=#[":iJdsbrza4cef#1 Jd[bFdk4ef#0 ,~qbja0a2c,~[badk1dk4ef#0 a3c"]
def zG:R "rule masks cell sign more" kW kX K c:=by
 obtain⟨k,r,p,A,M,g,cs,y,ms,n,m,z,s,rfl,x,f,j,d,u,q⟩:=h;exists kX;rw[bh d,Tn];symm;unfold onlyB at q
 have e1:decide ((ms.length:Int)=1)=decide (ms.length=1):=by
  rw[Up,Tt,Tt];lia
 rw[e1]
 cases b:decide (ms.length=1) with
 | false=>
  rw[b,Uk]at q;show iteF (q _<|Tu _)
 | true=>
  rw[b,Uj]at q;have w:=TF b;show iteT ?_;show ixI d #[1] #[4] ?_;rw[show(0:Int).toNat=0 from rfl];exists(k,r,p,g,cs,n,m,z,rfl,x,f.1,λl v s1 t i=>?_);dsimp only;rw[HY i]
  cases a:decide (ms.getD 0 0∈cs.filter λx=>!decide (x=z)) with
  | false=>
   rw[a,Uk]at q;show(false,rfl,iteF<|q _ s1)
  | true=>
   rw[a,Uj]at q;have o:=TM.mp<|TF a;have e:=f.2 _ o.1;show(true,rfl,iteT ?_);exists ixI (s1 _ _ d) #[1] #[4] ?_;rw[show(0:Int).toNat=0 from rfl];exists ixI (s1 _ _ j) e.1 e.2 ?_;exists(_,s,rfl,by lia,q _ s1)
def RR.cin22{r:RR}{h w g:Int}(O:r.Ok h w g)(F:FlOk h w g):a8 r.cs (h*w).toNat:=by
 obtain⟨h0,h1,l,p,i,q,s⟩:=id F;have b:0<=h*w:=Vs #[4] #[4]
 cases d:allK r.k with
 | false=>
  obtain⟨m,t,f,o,e⟩:=O.cl.told d;rw[e];show(by rw[Tn];lia,λc a=>?_);obtain⟨n,j,rfl⟩:=Tz.mp a;have:=f n j;lia
 | true=>
  obtain⟨_,e⟩:=O.cl.all d;rw[e];show(by rw[jH];lia,λc a=>?_);have:=we a;lia
abbrev WU:=@RR.cin22
structure Asks(H:Hp)(c:XZ)(d:X8)(P L G A T M:Addr)(h w g:Int)(Td:List RR)(cl Tb:∅)(t:TK)(r z s:Int)(ms:∅):Prop where
 P:IsPz H c d P L G h w g Td cl
 T:IsTh H T M t r z s ms
 A:H A=↥(Tb.map V.int)
 n:Tb.length=(h*w).toNat
variable{Td:List RR}
def  Asks.same{a:Hp}{P L G A T M:Addr}{h w g:Int}{cl Tb:∅}{s:Int}(x:Asks H c d P L G A T M h w g Td cl Tb t r z s ms)(s':Same H a):Asks a c d P L G A T M h w g Td cl Tb t r z s ms:=(x.P.same s',x.T.same s',s' _ _ x.A,x.n)
def dz{h w g:Int}{s:Int}(f:formB h w g Td t r z s=true):0<=z/\z<h*w/\1<=s/\s<=g/\hitB t Td r z=true:=by
 unfold formB at f;simp only[Tx,Tt]at f;show(f.1.1,f.1.2,f.2.1.1,f.2.1.2,f.2.2)
def iX(b:t≠.clue)(f:hitB t Td r z=true):0<=r/\∃ x,Td[r.toNat]? =some x/\goesB t x.k=true/\z∈x.cs:=by
 unfold hitB at f;by_cases a:r<0
 . rw[TZ a]at f;cases f
 rw[TX a,TX b]at f
 cases e:Td[r.toNat]? with
 | none=>rw[e]at f;cases f
 | some x=>
  rw[e]at f;simp only[Tx,Tt]at f;show(by lia,x,rfl,f.1,f.2)
def im:d:=#[3,∃ A C a cs,vs=[.ref A,.ref C]/\H A=↥(a.map V.int)/\H C=↥(cs.map V.int)/\a8 cs a.length/\∀ l b,Same H b->H l=none->b l=↥((sgAt a cs).map V.int)->Q (.ref l) b]
def qZ:a:=#[":ix&--0 ub1h#1 Ddk21"]
def Gr:R "masks cells" im qZ K:=by
 obtain⟨A,C,e,cs,rfl,f,d,⟨o,g⟩,q⟩:=h;exists qZ;show((_,TW d),?_);show bE (xs:=cs) (λ_=>true) (λc=>e.getD c.toNat 0) #[4] (TW d) ?_ ?_ ?_
 . intro x a R n s1 k1;show k1 _ (Tu _)
 . intro z a k i m s1 k1;change tOp cIx _ _ [none,⇑z,↑A] a k;symm;have:=g z i;show ixI (s1 _ _ f) this.1 #[4] (k1 _<|Tu _)
 . intro l a j s1 b;rw[bn]at b;show q l a s1 j b
def mQ:d:=#[3,∃(C:Addr) (ms:∅) (s:Int),vs=[.ref C,.int s]/\H C=↥(ms.map V.int)/\ms.length<=63/\∀ a,Same H a->Q (.int ((ms.filter λm=>stB m s).length:Nat)) a]
def q5:a:=#[":irzax&--1 ub0h#1 q,~Jba1a2c1c"]
def Gs:R "some sign" mQ q5 K:=by
 obtain⟨C,ms,s,rfl,c,i,q⟩:=h;exists q5;show((_,TW c),?_);show bE (xs:=ms) (λm=>stB m s) (λm=>m) #[4] (TW c) ?_ ?_ ?_
 . intro x a R f s1 k1;change tB _ [none,⇑x,⇑s] a R;exists(x,s,rfl,_,rfl,k1 _<|Tu _)
 . intro z a d g e s1 k1;change tVar 1 [none,⇑z,⇑s] a d;exists k1 _ (Tu _)
 . intro l a j s1 b;rw[VO]at b;rw[bh b,Tn];show q _ s1
def  kY(g:Int)(cs Tb:∅)(z s:Int)(ms:∅):Bool:=decide ((cs.length:Int)=g)&&(decide (ms.length=1)&&(!decide (ms.getD 0 0=s)&&((decide (1<=ms.getD 0 0)&&decide (ms.getD 0 0<=g))&&decide (((sgAt Tb<|cs.filter λx=>!decide (x=z)).filter λm=>stB m<|ms.getD 0 0).length=0))))
def jP:e:=#[3,∃ k f r p A M d cs a ms n m z s h w g,vs=[.ref f,.ref r,.ref A,.int z,.int s,.ref M]/\IsFl H f h w g/\IsRule H c k r p d cs n m/\a8 cs a.length/\H A=↥(a.map V.int)/\H M=↥(ms.map V.int)/\∀ b,Same H b->Q (.bl<|kY g cs a z s ms) b]
def ip:b:=#[":idsb,'rba,~Rba2a,~qbja1a3ccadk5ef#0 cef#0 "]
def lN:b:=#[":gnIpdsbdk5ef#0 4yq,~?ba0adk5ef#0 cieLFo{gbj"]
def jQ:b:=#[":gnIpdHbrzaBjP~t~ubj1ccdk0ef#2 pdHbrza5cef#1 ieLFo{hbj"]
def uj {k:RK} {f r p A M:Addr} {d:List (List Nat)} {cs Tb:∅} {n m s:Int} (x:IsRule H c k r p d cs n m) (b:a8 cs Tb.length) (o:H A=↥(Tb.map V.int)) (w:H M=↥(ms.map V.int)) (G:ms.length=1)
  (q:∀ g,Same H g->Q (.bl<|decide<|((sgAt Tb<|cs.filter λx=>!decide (x=z)).filter λm=>stB m<|ms.getD 0 0).length=0) g):
  ip K c (eD9 Q) [↑f,↑r,↑A,⇑z,⇑s,↑M] H:=by
 unfold ip;exists(k,r,p,d,cs,n,m,z,rfl,x,b.1,λO E s1 C l=>?_);symm;have a:a8 (cs.filter λx=>!decide (x=z)) Tb.length:=(TU (Ue _ _) b.1,λy i=>b.2 y (TM.mp i).1);show(A,O,Tb,_,rfl,s1 _ _ o,l,a,λB D h F v=>?_);dsimp only;show ixI ((s1.trans h) _ _ w) #[1] #[4] ?_;rw[show(0:Int).toNat=0 from rfl];exists(B,_,_,rfl,v,by unfold sgAt;rw[Tn];show a.1,λu j=>?_);symm;have t:=q u ((s1.trans h).trans j)
 have e:decide ((((sgAt Tb<|cs.filter λx=>!decide (x=z)).filter λm=>stB m<|ms.getD 0 0).length:Int)=0)=decide (((sgAt Tb<|cs.filter λx=>!decide (x=z)).filter λm=>stB m<|ms.getD 0 0).length=0):=by
  rw[Up,Tt,Tt];lia
 rw[e];show t
def yq:R "floor rule masks cell sign more" jP jQ K c:=by
 obtain⟨k,f,r,p,A,M,t,cs,N,ms,n,m,z,s,h,w,g,rfl,j,x,B,y,e,q⟩:=h;obtain⟨J,W,C,h1,h2,h3⟩:=x.ex;ac_nf;unfold jQ;rw[aC,aA];exists methE (k:=k) rfl x.ok h1 (by rfl) ?_;exists(r,p,t,cs,n,m,rfl,x,λl G=>?_);obtain⟨L,F,s1,u⟩:=bp (.lst<|cs.map V.int) G;rw[F]
 try dsimp only
 rw[bh u,Tn];show ixT (s1 _ _ j) (v:=V.int g) rfl ?_;symm;unfold kY at q
 cases o:decide ((cs.length:Int)=g) with
 | false=>
  rw[o,Uk]at q;exists q _ s1
 | true=>
  rw[o,Uj]at q;symm;rw[bh<|s1 _ _ e,Tn];symm
  have e1:decide ((ms.length:Int)=1)=decide (ms.length=1):=by
   rw[Up,Tt,Tt];lia
  rw[e1]
  cases a:decide (ms.length=1) with
  | false=>
   rw[a,Uk]at q;exists q _ s1
  | true=>
   rw[a,Uj]at q;have i:=TF a;symm;unfold lN;rw[aC,aA];exists ixI (s1 _ _ e) #[1] #[4] ?_;rw[show(0:Int).toNat=0 from rfl];symm
   cases b:decide (ms.getD 0 0=s) with
   | true=>
    rw[b,Wr,Uk]at q;show iteT ?_;exists q _ s1
   | false=>
    rw[b,WT,Uj]at q;show iteF ?_;show ixI (s1 _ _ e) #[1] #[4] ?_;rw[show(0:Int).toNat=0 from rfl];exists(f,h,w,g,_,rfl,s1 _ _ j,?_)
    cases d:(decide (1<=ms.getD 0 0)&&decide (ms.getD 0 0<=g)) with
    | false=>
     rw[d,Uk]at q;show(false,rfl,iteT ?_);exists q _ s1
    | true=>
     rw[d,Uj]at q;show(true,rfl,iteF ?_);show uj (x.same s1) B (s1 _ _ y) (s1 _ _ e) i λD I=>q D (s1.trans I)
def EE(t:TK):decide (tkC t=s!"place")=decide (t=.place):=by cases t <;> decide
def pD:d:=#[3,∃(C:Addr) (ms:∅) (s:Int),vs=[.ref C,.int s]/\H C=↥(ms.map V.int)/\ms.length<=63/\s<=100000/\∀ a,Same H a->Q (.int ((ms.filter λm=>decide<|woI m s=0).length:Nat)) a]
def pE:a:=#[":irzax&--1 ub0h#1 q,~[ba1a2c1c"]
variable{K:Frag}{vs:List V}{H:Hp}{Q:VK}{E:XK}
def EF:R "some sign" pD pE K:=by
 obtain⟨C,ms,s,rfl,c,j,d,q⟩:=h;exists pE;show((_,TW c),?_);show bE (xs:=ms) (λm=>decide<|woI m s=0) (λm=>m) #[4] (TW c) ?_ ?_ ?_
 . intro x a R g s1 k1;change tB _ [none,⇑x,⇑s] a R;exists(x,s,rfl,d,_,rfl,k1 _<|Tu _)
 . intro z a e i f s1 k1;change tVar 1 [none,⇑z,⇑s] a e;exists k1 _ (Tu _)
 . intro l a k s1 b;rw[VO]at b;rw[bh b,Tn];show q _ s1
def JW(t:TK):decide (tkC t=s!"square")=decide (t=.square):=by cases t <;> decide
def  othL(cs:∅)(z:Int):∅:=cs.filter λx=>!decide (x=z)
def  cntB(cs:∅)(n m:Int)(Tb:∅)(z s:Int)(ms:∅):Bool:=
 decide (ms=[])&&(if s=m then decide (n<=(((sgAt Tb<|othL cs z).filter λk=>decide<|woI k s=0).length:Int)) else decide ((((sgAt Tb<|othL cs z).filter λk=>stB k m).length:Int)<n))
def jR:e:=#[3,∃ k r p A M d cs a ms n m z s,vs=[.ref r,.ref A,.int z,.int s,.ref M]/\IsRule H c k r p d cs n m/\a8 cs a.length/\H A=↥(a.map V.int)/\H M=↥(ms.map V.int)/\s<=1000/\∀ b,Same H b->Q (.bl<|cntB cs n m a z s ms) b]
def iq:b:=#[":gl,~Rba1a,~qbja0a2cch#5 gnpdsb3BjP's'tbj0cid),{iba5a3cBjP~S~Tbj0coid<,'rba5aBjP's'tbj0ccBjP~S~Tbj0c"]
def jS:b:=#[":gnpdHb4tcieLFo{jbj"]
variable{c:XZ}{cs Tb:∅}{m z:Int}
def uk {k:RK} {r p A M:Addr} {e:List (List Nat)} {n s:Int} (x:IsRule H c k r p e cs n m) (i:a8 cs Tb.length) (N:H A=↥(Tb.map V.int)) (F:s<=1000)
  (q:∀ u,Same H u->Q (.bl (if s=m then decide (n<=(((sgAt Tb<|othL cs z).filter λk=>decide<|woI k s=0).length:Int)) else decide ((((sgAt Tb<|othL cs z).filter λk=>stB k m).length:Int)<n))) u):
  iq K c (eD9 Q) [↑r,↑A,⇑z,⇑s,↑M,none] H:=by
 have g:a8 (othL cs z) Tb.length:=(TU (Ue _ _) i.1,λy D=>i.2 y (TM.mp D).1);have t:(sgAt Tb<|othL cs z).length<=63:=by unfold sgAt;rw[Tn];show g.1
 unfold iq;exists(k,r,p,e,cs,n,m,z,rfl,x,i.1,λO U s1 P L=>?_);exists(A,O,Tb,othL cs z,rfl,s1 _ _ N,L,g,λB S I T o=>?_);have d:=s1.trans I;have a:=x.same d;obtain⟨R,W,C,h1,h2,h3⟩:=a.ex;symm;rw[aA];exists methE (k:=k) rfl a.ok h1 (by rfl) ?_;exists(r,p,e,cs,n,m,rfl,a,?_);symm;by_cases h:s=m
 . rw[TZ h]at q;rw[Tp h];exists(B,_,_,rfl,o,t,by lia,λw f=>?_);have b:=a.same f;obtain⟨j,G,J,l,v,E⟩:=b.ex;show methE (k:=k) rfl b.ok l (by rfl) ?_;exists(r,p,e,cs,n,m,rfl,b,?_);exists q _ (d.trans f)
 . rw[TX h]at q;rw[Tq h];exists methE (k:=k) rfl a.ok h1 (by rfl) ?_;exists(r,p,e,cs,n,m,rfl,a,?_);exists(B,_,_,rfl,o,t,λw f=>?_);have b:=a.same f;obtain⟨j,G,J,l,v,E⟩:=b.ex;show methE (k:=k) rfl b.ok l (by rfl) ?_;exists(r,p,e,cs,n,m,rfl,b,?_);exists q _ (d.trans f)
def yr:R "rule masks cell sign more some" jR jS K c:=by
 obtain⟨k,r,p,A,M,l,cs,Tb,ms,n,m,z,s,rfl,x,e,b,j,d,q⟩:=h;ac_nf;unfold jS;rw[aC,aA];exists(ba #[1],λZ g=>?_);obtain⟨H1,z9,s1,eZ⟩:∃ z,upd H Z (.lst [])=z/\Same H z/\z Z=↥(([]:∅).map V.int):=bp _ g;rw[z9];show zi (s1 _ _ j) eZ ?_;unfold cntB at q
 cases a:decide (ms=[]) with
 | false=>
  rw[a,Uk]at q;show(true,rfl,?_);exists q _ s1
 | true=>
  rw[a,Uj]at q;show(false,rfl,?_);exists uk (x.same s1) e (s1 _ _ b) d λf i=>q f (s1.trans i)
def Ll(t:TK):decide (tkC t=s!"count")=decide (t=.count):=by cases t <;> decide
variable{xs:∅}
def lY{q:Addr}{x:Int}(k:H q=↥(xs.map V.int))(j:x∈xs)(l:xs.length<=900)(h:Q (.int (xs.findIdx (· ==x):Nat)) H):kE K (.ref q) [.int x] H Q:=by
 have c:xs.findIdx (· ==x)<xs.length:=Wh (x,j,by simp)
 have g:∀ a b:Int,PyData.eqv (.int a) (.int b)=decide (a=b):=λa b=>by
  rw[PyData.eqv];by_cases h:a=b
  . subst h;simp
  . simp[h]
 show(xs.map PyData.int,.int x,xs.findIdx (· ==x),.lst (TW k)<|.ints xs,.int x,oZ xs,rfl,?_,by lia,(PyData.int xs[xs.findIdx (· ==x)],?_,?_),λm e f i=>?_,h)
 . rw[kC];lia
 . rw[Tw,To c];rfl
 . have:=List.findIdx_getElem (w:=c);rw[g,Tt]
   simpa using this
 . have d:m<xs.length:=by lia
   rw[Tw,To d]at i;cases i;have:=List.not_of_lt_findIdx f;rw[g,U1]
   simpa using this
def  gg(xs:∅)(x:Int):Nat:=xs.findIdx (· ==x)
def  ordB(cs ms:∅):Bool:=decide (ms.length=2)&&(decide (ms.getD 0 0∈cs)&&(decide (ms.getD 1 0∈cs)&&decide (gg cs (ms.getD 0 0)<gg cs (ms.getD 1 0))))
def gY:d:=#[3,∃ C M cs ms,vs=[.ref C,.ref M]/\H C=↥(cs.map V.int)/\cs.length<=63/\H M=↥(ms.map V.int)/\Q (.bl<|ordB cs ms) H]
def gZ:a:=#[":gnIpdHbrza1cef#2 Ipd[b~hdk1ef#0 0pd[b~hdk1ef#1 0ieLFoid<ObK~Fb0adk1ef#0 cObK~Fb0adk1ef#1 c"]
def sY:R "cells more" gY gZ K:=by
 obtain⟨C,M,cs,ms,rfl,c,f,d,q⟩:=h;ac_nf;unfold gZ;rw[aC,aA];symm;rw[bh d,Tn];symm;unfold ordB at q
 have e1:decide ((ms.length:Int)=2)=decide (ms.length=2):=by
  rw[Up,Tt,Tt];lia
 rw[e1]
 cases e:decide (ms.length=2) with
 | false=>
  rw[e,Uk]at q;symm;show q
 | true=>
  rw[e,Uj]at q;have g:=TF e;exists ixI d #[1] #[4] ?_;rw[show(0:Int).toNat=0 from rfl];symm;rw[HZ c]
  cases b:decide (ms.getD 0 0∈cs) with
  | false=>
   rw[b,Uk]at q;show(true,rfl,iteT ?_);symm;show q
  | true=>
   rw[b,Uj]at q;show(false,rfl,iteF ?_);exists ixI d #[1] #[4] ?_;rw[show(1:Int).toNat=1 from rfl];symm;rw[HZ c]
   cases a:decide (ms.getD 1 0∈cs) with
   | false=>
    rw[a,Uk]at q;show(true,rfl,iteT ?_);symm;show q
   | true=>
    rw[a,Uj]at q;show(false,rfl,iteF ?_);exists(bB c,?_);show ixI d #[1] #[4] ?_;rw[show(0:Int).toNat=0 from rfl];exists lY c (TF b) #[4] ?_;exists(bB c,?_);show ixI d #[1] #[4] ?_;rw[show(1:Int).toNat=1 from rfl];exists lY c (TF a) #[4] ?_;symm
    have e2:decide (((cs.findIdx (· ==ms.getD 0 0):Nat):Int) < ((cs.findIdx (· ==ms.getD 1 0):Nat):Int))=decide (gg cs (ms.getD 0 0)<gg cs (ms.getD 1 0)):=by
     rw[Up,Tt,Tt];unfold gg;lia
    rw[e2];show q
def  orM(Tb:∅)(ms:∅):Int:=Builtin.bitOr (Tb.getD (ms.getD 0 0).toNat 0) (Tb.getD (ms.getD 1 0).toNat 0)
def  pairB(cs Tb:∅)(z s:Int)(ms:∅):Bool:=ordB (cs.filter λx=>!decide (x=z)) ms&&decide (((sgL<|orM Tb ms).filter λx=>!decide (x=s)).length<=1)
def JX{a b:Int}(d:0<=a)(c:0<=b):Builtin.bitOr a b=((a.toNat||| b.toNat:Nat):Int):=by
 have f:∀{x:Int},0<=x->decide (0<= -x-1)=false/\ -(-x-1)-1=x:=λh=>(Tq #[4],by lia);unfold Builtin.bitOr Builtin.bitAnd Builtin.bitNot;rw[(f d).1,(f c).1];change -(-((((-(-a-1)-1).toNat||| (-(-b-1)-1).toNat:Nat):Int))-1)-1=_;rw[(f d).2,(f c).2];lia
def zH{a b:Int}(d:0<=a)(f:a<64)(c:0<=b)(e:b<64):0<=Builtin.bitOr a b/\Builtin.bitOr a b<64:=by
 have l:a.toNat||| b.toNat<2^6:=Nat.or_lt_two_pow #[4] #[4];rw[JX d c];lia
def Ow:((List.range 64).all λm=>decide (Builtin.Int.intBits (m:Int)<=6)&&decide (sgL (m:Int)=(([0,1,2,3,4,5]:List Nat).filter λ(i:Nat)=>stB (m:Int)<|1+(i:Int)).map λ(i:Nat)=>1+(i:Int)))=true:=by decide+kernel
def gb(a:0<=m)(b:m<64):Builtin.Int.intBits m<=6/\sgL m=(([0,1,2,3,4,5]:List Nat).filter λ(i:Nat)=>stB m<|1+(i:Int)).map λ(i:Nat)=>1+(i:Int):=by
 have t:=Ty.mp Ow m.toNat<|TC.mpr #[4];have e1:((m.toNat:Nat):Int)=m:=by lia
 rw[e1,Tx,Tt,Tt]at t;show t
def zI{i:Int}(b:∀ m∈Tb,0<=m/\m<64)(d:0<=i)(c:i<Tb.length):0<=Tb.getD i.toNat 0/\Tb.getD i.toNat 0<64:=by
 have a:i.toNat<Tb.length:=by lia
 rw[List.getD,To a];show b _ (T0 a)
def kZ:e:=#[3,∃ k r p A M b cs Tb ms n m z s,vs=[.ref r,.ref A,.int z,.int s,.ref M]/\IsRule H c k r p b cs n m/\a8 cs Tb.length/\(∀ m∈Tb,0<=m/\m<64)/\H A=↥(Tb.map V.int)/\H M=↥(ms.map V.int)/\∀ a,Same H a->Q (.bl<|pairB cs Tb z s ms) a]
def iL:b:=#[":gl,Qbad{kdk1dk4ef#0 dk1dk4ef#1 ch#5 id(rzax&--3 ub5h#1 pdHb121cef#1 "]
def lc:b:=#[":gnyq,{lba,~qbja0a2ca4cieLFo{mbj"]
def uZ {A M:Addr} {ms:∅} {s:Int} {v0:V} (k:a8 cs Tb.length) (i:∀ m∈Tb,0<=m/\m<64) (o:H A=↥(Tb.map V.int)) (n:H M=↥(ms.map V.int)) (g:ordB (cs.filter λx=>!decide (x=z)) ms=true)
  (q:∀ p,Same H p->Q (.bl<|decide<|((sgL<|orM Tb ms).filter λx=>!decide (x=s)).length<=1) p):
  iL K c (eD9 Q) [some v0,↑A,⇑z,⇑s,↑M,none] H:=by
 unfold ordB at g;simp only[Tx,Tt]at g;obtain⟨F,r,w,_⟩:=g;have b:=k.2 _ (TM.mp r).1;have e:=k.2 _ (TM.mp w).1;have k0:=zI i b.1 b.2;have k1:=zI i e.1 e.2;have d:=zH k0.1 k0.2 k1.1 k1.2;have G:=(gb d.1 d.2).1;unfold iL;exists ixI n #[1] #[4] ?_;rw[show(0:Int).toNat=0 from rfl];exists ixI o b.1 b.2 ?_;exists ixI n #[1] #[4] ?_;rw[show(1:Int).toNat=1 from rfl];exists ixI o e.1 e.2 ?_;exists(_,rfl,by lia,λl C s1 y t=>?_);have a:C l=↥((sgL<|orM Tb ms).map V.int):=t
 have v:(sgL<|orM Tb ms).length<=6:=by
  unfold orM;rw[(gb d.1 d.2).2,Tn];show Ue _ _
 exists((_,TW a),?_);show bE (xs:=sgL (orM Tb ms)) (λx=>!decide (x=s)) (λx=>x) #[4] (TW a) ?_ ?_ ?_
 . intro x f R u h k2;change tTest _ [none,⇑x,⇑s] f R;exists k2 _ (Tu _)
 . intro x f B u E h k2;change tVar 1 [none,⇑x,⇑s] f B;exists k2 _ (Tu _)
 . intro T f D h j;rw[VO]at j;symm;rw[bh j,Tn];symm
   have e2:decide ((((sgL<|orM Tb ms).filter λx=>!decide (x=s)).length:Int)<=1)=decide (((sgL<|orM Tb ms).filter λx=>!decide (x=s)).length<=1):=by
    rw[Up,Tt,Tt];lia
   rw[e2];show q _ (s1.trans h)
def zJ:R "rule masks cell sign more together" kZ lc K c:=by
 obtain⟨k,r,p,A,M,f,cs,Tb,ms,n,m,z,s,rfl,x,b,e,i,d,q⟩:=h;ac_nf;unfold lc;rw[aC,aA];exists(k,r,p,f,cs,n,m,z,rfl,x,b.1,λO t s1 o g=>?_);exists(O,M,_,ms,rfl,g,TU (Ue _ _) b.1,s1 _ _ d,?_);unfold pairB at q
 cases a:ordB (cs.filter λx=>!decide (x=z)) ms with
 | false=>
  rw[a,Uk]at q;show(false,rfl,iteT ?_);exists q _ s1
 | true=>
  rw[a,Uj]at q;show(true,rfl,iteF ?_);show uZ b e (s1 _ _ i) (s1 _ _ d) a λj l=>q j (s1.trans l)
def M4(t:TK):decide (tkC t=s!"step")=decide (t=.step):=by cases t <;> decide
def Hh(xs:List V){a b:Nat}(e:a<=b):cutV xs (some (a:Int)) (some (b:Int))=(xs.drop a).take (b-a):=by
 have h1:HT.sIx xs.length 0 (some (a:Int))=min a xs.length:=by rw[HT.sIx_nat]
 have h2:HT.sIx xs.length xs.length (some (b:Int))=min b xs.length:=by rw[HT.sIx_nat]
 unfold cutV;rw[h1,h2];by_cases c:a<=xs.length
 . rw[WC c];by_cases d:b<=xs.length
   . rw[WC d]
   . rw[V0 #[4],Ut (by simp),Ut (by simp;lia)]
 . rw[V0 #[4],V0 #[4],VI,Xv #[4]];simp
def mR {k:Nat} {a:Addr} {te:TE} {fin:Addr->Hp->Prop} {g:St} {b:Hp} (f:Int->Bool) (o:xs.length<=900) (q:SqL K b a (xs.map V.int))
  (m:∀ x H Q,x∈xs->Same b H->(∀ e,Same H e->Q (.bl<|f x) e)->te (g.set k ⇑x) H Q)
  (n:∀ l H,b l=none->Same b H->H l=↥((xs.map f).map V.bl)->fin l H):
  CompR (Itl K a) (gName k) tTrue te fin g b:=by
 show dM (xs:=xs.map V.int) (λ_=>true) (λi=>.bl<|f<|xs.getD i 0) (by rw[Tn];show o) q ?_ ?_ ?_
 . intro i x H R c s1 k1;show k1 _ (Tu _)
 . intro i x H Q c r s1 h;obtain⟨z,d,rfl⟩:=aI c;have h2:=h;simp only[cC d]at h2;show m z H Q (Tv d) s1 h2
 . intro l H p s1 j;show n l H p s1 ?_;rw[j,bn,Tn,Uq]
   congr 2
   show nn xs λx=>V.bl (f x)
def  ahdL(cs:∅)(z:Int):∅:=if 0<gg cs z then [cs.getD (gg cs z-1) 0] else []
def  behL(cs:∅)(z:Int):∅:=if gg cs z+1<cs.length then [cs.getD (gg cs z+1) 0] else []
def  DK(h:z∈cs):gg cs z<cs.length:=Wh (z,h,by simp)
def Hi{o:Int}(h:z∈cs)(a:o∈ahdL cs z):o∈cs:=by
 have:=DK h;unfold ahdL at a
 split at a
 . rw[TH.mp a,List.getD,To #[4]];show T0 _
 . cases a
def Hj{o:Int}(a:o∈behL cs z):o∈cs:=by
 unfold behL at a
 split at a
 . rename_i h
   rw[TH.mp a,List.getD,To h];show T0 _
 . cases a
def EG(cs:∅)(k:Nat):(cs.drop k).take 1=if k<cs.length then [cs.getD k 0] else []:=by
 by_cases h:k<cs.length
 . rw[TZ h,UV h,List.getD,To h];rfl
 . rw[TX h,Xv #[4]];rfl
def ra:e:=#[3,∃ k r p b cs n m z,vs=[.ref r,.int z]/\IsRule H c k r p b cs n m/\cs.length<=63/\z∈cs/\∀ l a,Same H a->H l=none->a l=↥((ahdL cs z).map V.int)->Q (.ref l) a]
def rb:b:=#[":glBjP~t~ubj0ch#2 glObK~Fb2a1ch#3 iRpd>3ef#0 ~b~c2/d~a3ef#1 /3tc"]
def Gu:R "rule cell spots place" ra rb K c:=by
 obtain⟨k,r,p,g,cs,n,m,z,rfl,x,v,e,q⟩:=h;obtain⟨u,W,C,h1,h2,h3⟩:=x.ex;have s:=DK e;ac_nf;unfold rb;rw[aC,cO];show methE (k:=k) rfl x.ok h1 (by rfl) ?_;exists(r,p,g,cs,n,m,rfl,x,λS t=>?_);obtain⟨w,o,s1,b⟩:=bp (.lst<|cs.map V.int) t;rw[o];exists(bB b,?_);show lY b e #[4] ?_;have f:(cs.findIdx (· ==z))=gg cs z:=rfl;rw[f];unfold ahdL at q;generalize gg cs z=j at*;symm;by_cases d:0<j
 . rw[TZ d]at q;rw[Tp (show(0:Int) < (j:Int) by lia)];show iteT ?_;show qg b λl a=>?_;have i:(j:Int)-1=((j-1:Nat):Int):=by lia
   rw[i,Hh _ #[4],show j - (j-1)=1 by lia,← XN,← VC,EG,TZ #[4]];show q l _ (s1.laid a) (s1.free a) ah
 . rw[TX d]at q;rw[Tq (show ¬ (0:Int) < (j:Int) by lia)];show iteF ?_;show(ba #[1],λl a=>?_);show q l _ (s1.laid a) (s1.free a) ah
def u6:e:=#[3,∃ k r p b cs n m z,vs=[.ref r,.int z]/\IsRule H c k r p b cs n m/\cs.length<=63/\z∈cs/\∀ l a,Same H a->H l=none->a l=↥((behL cs z).map V.int)->Q (.ref l) a]
def u9:b:=#[":glBjP~t~ubj0ch#2 glObK~Fb2a1ch#3 i~b~c2/dA3ef#1 /dA3ef#2 "]
def JY:R "rule cell spots place" u6 u9 K c:=by
 obtain⟨k,r,p,e,cs,n,m,z,rfl,x,u,i,q⟩:=h;obtain⟨t,W,C,h1,h2,h3⟩:=x.ex;ac_nf;unfold u9;rw[aC,cO];show methE (k:=k) rfl x.ok h1 (by rfl) ?_;exists(r,p,e,cs,n,m,rfl,x,λS s=>?_);obtain⟨v,o,s1,a⟩:=bp (.lst<|cs.map V.int) s;rw[o];exists(bB a,?_);show lY a i #[4] ?_;have d:(cs.findIdx (· ==z))=gg cs z:=rfl;rw[d];unfold behL at q;generalize gg cs z=j at*;exists qg a λl b=>?_;have f:(j:Int)+1=((j+1:Nat):Int):=by lia
 have g:(j:Int)+2=((j+2:Nat):Int):=by lia
 rw[f,g,Hh _ #[4],show j+2 - (j+1)=1 by lia,← XN,← VC,EG];show q l _ (s1.laid b) (s1.free b) ah
def  nogB(s m:Int):Bool:=(sgL m).all λx=>decide (s<=x)
def  nolB(s m:Int):Bool:=(sgL m).all λx=>decide (x<=s)
def Mb(a:0<=m)(b:m<64):(sgL m).length<=6:=by
 rw[(gb a b).2,Tn];show Ue _ _
def jT:d:=#[3,∃ s m:Int,vs=[.int s,.int m]/\0<=m/\m<64/\∀ a,Same H a->Q (.bl<|nogB s m) a]
def jU:a:=#[":ir~gax&--0 ub,Qba1ch#1 Dd(21c"]
def yt:R "sign mask" jT jU K:=by
 obtain⟨s,m,rfl,b,f,q⟩:=h;have j:=(gb b f).1;have o:=Mb b f;exists jU;show(m,rfl,by lia,λl p s1 r d=>?_);show(l,rfl,(_,TW d),?_);show mR (xs:=sgL m) (λx=>decide<|s<=x) #[4] (TW d) ?_ ?_
 . intro x c i n e k2;change tOp _ _ _ [none,⇑x,⇑s] c i;exists k2 _ (Tu _)
 . intro k c g e a;exists oI a ?_;rw[VN];show q _ (s1.trans e)
def nN:d:=#[3,∃ s m:Int,vs=[.int s,.int m]/\0<=m/\m<64/\∀ a,Same H a->Q (.bl<|nolB s m) a]
def nO:a:=#[":ir~gax&--0 ub,Qba1ch#1 Dd)21c"]
def C9:R "sign mask" nN nO K:=by
 obtain⟨s,m,rfl,b,f,q⟩:=h;have j:=(gb b f).1;have o:=Mb b f;exists nO;show(m,rfl,by lia,λl p s1 r d=>?_);show(l,rfl,(_,TW d),?_);show mR (xs:=sgL m) (λx=>decide<|x<=s) #[4] (TW d) ?_ ?_
 . intro x c i n e k2;change tOp _ _ _ [none,⇑x,⇑s] c i;exists k2 _ (Tu _)
 . intro k c g e a;exists oI a ?_;rw[VN];show q _ (s1.trans e)
def  stpB(cs Tb:∅)(z s:Int):Bool:=((ahdL cs z).any λo=>nogB s<|Tb.getD o.toNat 0)||((behL cs z).any λo=>nolB s<|Tb.getD o.toNat 0)
def  stepB(cs Tb:∅)(z s:Int)(ms:∅):Bool:=decide (ms=[])&&stpB cs Tb z s
def ld:e:=#[3,∃ k r p A M b cs Tb ms n m z s,vs=[.ref r,.ref A,.int z,.int s,.ref M]/\IsRule H c k r p b cs n m/\a8 cs Tb.length/\z∈cs/\(∀ m∈Tb,0<=m/\m<64)/\H A=↥(Tb.map V.int)/\H M=↥(ms.map V.int)/\∀ a,Same H a->Q (.bl<|stepB cs Tb z s ms) a]
def iM:b:=#[":gnqr'uax&--13 ub,{nbja0a2ch#1 D,{oba3adk21ccieL~hoir'uax&--13 ub,{pbja0a2ch#1 D,{qba3adk21cc"]
def lg:b:=#[":gnpdHb4tcieLFo{rbj"]
def va {k:RK} {r p A M:Addr} {g:List (List Nat)} {n s:Int} (x:IsRule H c k r p g cs n m) (f:a8 cs Tb.length) (h:z∈cs) (y:∀ m∈Tb,0<=m/\m<64) (E:H A=↥(Tb.map V.int))
  (q:∀ G,Same H G->Q (.bl<|stpB cs Tb z s) G):
  iM K c (eD9 Q) [↑r,↑A,⇑z,⇑s,↑M] H:=by
 have X:(ahdL cs z).length<=1:=by unfold ahdL;split <;> simp
 have Y:(behL cs z).length<=1:=by unfold behL;split <;> simp
 unfold iM;rw[aC,aA];exists(k,r,p,g,cs,n,m,z,rfl,x,f.1,h,λl Z s1 W C=>?_);show(l,rfl,(_,TW C),?_);show mR (xs:=ahdL cs z) (λo=>nogB s<|Tb.getD o.toNat 0) #[4] (TW C) ?_ ?_
 . intro o B R j u k2;have a:=f.2 o<|Hi h j;have e:=zI y a.1 a.2;change tCall _ _ _ _ [none,⇑o,↑A,⇑s] B R;exists ixI ((s1.trans u) _ _ E) a.1 a.2 ?_;show(s,_,rfl,e.1,e.2,k2)
 . intro U B P u t;exists L9 t ?_;have b:=s1.trans u;rw[List.any_map];unfold stpB at q;have J:(ahdL cs z).any (id ∘ λo=>nogB s<|Tb.getD o.toNat 0)=(ahdL cs z).any λo=>nogB s (Tb.getD o.toNat 0):=rfl;rw[J]
   cases D:(ahdL cs z).any λo=>nogB s (Tb.getD o.toNat 0) with
   | true=>
    rw[D,VM]at q;show(true,rfl,iteT ?_);exists q _ b
   | false=>
    rw[D,UH]at q;show(false,rfl,iteF ?_);exists(k,r,p,g,cs,n,m,z,rfl,x.same b,f.1,h,λL S w N d=>?_);show(L,rfl,(_,TW d),?_);show mR (xs:=behL cs z) (λo=>nolB s<|Tb.getD o.toNat 0) #[4] (TW d) ?_ ?_
    . intro o F O j v k4;have a:=f.2 o<|Hj j;have e:=zI y a.1 a.2;change tCall _ _ _ _ [none,⇑o,↑A,⇑s] F O;exists ixI (((b.trans w).trans v) _ _ E) a.1 a.2 ?_;show(s,_,rfl,e.1,e.2,k4)
    . intro T F I v i;exists L9 i ?_;rw[List.any_map];show q _ ((b.trans w).trans v)
def zK:R "rule masks cell sign more" ld lg K c:=by
 obtain⟨k,r,p,A,M,o,cs,Tb,ms,n,m,z,s,rfl,x,f,e,b,d,l,q⟩:=h;ac_nf;unfold lg;rw[aC,aA];exists(ba #[1],λZ i=>?_);obtain⟨H1,z9,s1,eZ⟩:∃ z,upd H Z (.lst [])=z/\Same H z/\z Z=↥(([]:∅).map V.int):=bp _ i;rw[z9];show zi (s1 _ _ l) eZ ?_;unfold stepB at q
 cases a:decide (ms=[]) with
 | false=>
  rw[a,Uk]at q;show(true,rfl,?_);exists q _ s1
 | true=>
  rw[a,Uj]at q;show(false,rfl,?_);exists va (x.same s1) f e b (s1 _ _ d) λg j=>q g (s1.trans j)
section
variable{X:Cx}
def  minI(ns:∅):Int:=ns.getD (argBest (λi j=>decide<|ns.getD i 0<ns.getD j 0)<|ns.length-1) 0
def  maxI(ns:∅):Int:=ns.getD (argBest (λi j=>decide<|ns.getD i 0>ns.getD j 0)<|ns.length-1) 0
def  zL:List V->Hp->VK->Prop
 | [.ref p],H,Q=>bnd (unL<|H p) λys=>∃ ns:∅,ys=ns.map V.int/\0<ns.length/\Q (.int<|maxI ns) H
 | _,_,_=>False
def zM(w:X.calm=true):CallR X (.builtin "max") zL:=by
 intro F s σ H xs L Q I r h;unfold zL at h
 split at h
 . rename_i p
   obtain⟨K,e,ns,rfl,E,q⟩:=bu h;obtain⟨u,rfl,z⟩:=fU r;cases z;obtain⟨d,n,g,J⟩:=I.list<|rE e;have m:=n.length;rw[Tn]at m
   have f:p<s.heap.objs.size:=by
    obtain⟨o,h1,_⟩:=g.isList;show Ug h1
   have a:∀(i:Nat) (v:Value),d.toArray[i]? =some v->∃ t,v=.int (ns.getD i 0) t:=λi v k=>by
    have C:d[i]? =some v:=by simpa using k
    obtain⟨x,y,B⟩:=n.get' C;obtain⟨b,c,rfl⟩:∃ b,ns[i]? =some b/\V.int b=x:=by simpa using y
    obtain⟨t,rfl⟩:=B;show(t,by simp[List.getD,c])
   have e2:d.toArray.size=ns.length:=by rw[T1];show m.symm
   show call_max_walkS<|VQ g.isList ?_;show(s.heap.objs.size,_,_,_,d.toArray.size,_,_,λi j=>decide<|ns.getD i 0>ns.getD j 0,rfl,(XQ (A:=X.A.in1) (I.ok.hd w) s.heap.objs.size p (Uv f) d.toArray).toS,((_,Ur _ rfl,rfl,rfl),g.isList.push _),?_,by lia,CmpOf.ints_gt (λi=>ns.getD i 0) a,λv G k D=>?_)
   . intro b c;change b < (s.heap.push _).objs.size;rw[Vp];rcases TN.mp c with rfl | c
     . show VY _
     . rcases TN.mp c with rfl | c
       . show Va f
       . cases c
   . obtain⟨t,rfl⟩:=a _ v k;show(.int _,H,I.walked (l:=p) D,(t,rfl),?_);rw[e2];show q
 . show h.elim
end
section
variable{H:Hp}{Q:VK}
def JZ{p:Addr}{ns:∅}(b:H p=↥(ns.map V.int))(c:0<ns.length)(h:Q (.int<|maxI ns) H):zL [.ref p] H Q:=by
 change bnd (unL<|H p) _;rw[b];show d3 (a:=ns.map V.int) rfl (ns,rfl,c,h)
end
def  tO(xs:∅):xs.filter (λ_=>true)=xs:=VG.mpr λ_ _=>rfl
def  loM(m:Int):Int:=(sgL m).getD 0 0
def  hiM(m:Int):Int:=(sgL m).getD ((sgL m).length-1) 0
def Ox:((List.range 64).all λm=>decide (m=0)||(decide (0 < (sgL (m:Int)).length/\(sgL (m:Int)).length<=6)&&(decide (minI (sgL (m:Int))=loM (m:Int)/\maxI (sgL (m:Int))=hiM (m:Int))&&decide ((1<=loM (m:Int)/\loM (m:Int)<=6)/\1<=hiM (m:Int)/\hiM (m:Int)<=6))))=true:=by decide+kernel
def Ij{m:Int}(a:0<=m)(c:m<64)(b:m≠0):(0 < (sgL m).length/\(sgL m).length<=6)/\(minI (sgL m)=loM m/\maxI (sgL m)=hiM m)/\(1<=loM m/\loM m<=6)/\1<=hiM m/\hiM m<=6:=by
 have t:=Ty.mp Ox m.toNat<|TC.mpr #[4];have e1:((m.toNat:Nat):Int)=m:=by lia
 rw[e1,Uw,Tt,Tx,Tx,Tt,Tt,Tt]at t;rcases t with t | t
 . lia
 . show t
def J0:sgL 0=[]:=by decide+kernel
def Ik{xs:∅}(h:0<xs.length):atI (xs.map V.int) (-1)=some (V.int<|xs.getD (xs.length-1) 0):=by
 unfold atI ixN;rw[Tn,TX #[1],TZ #[4]];change(xs.map V.int)[((xs.length:Int)+ -1).toNat]? =_;rw[show((xs.length:Int)+ -1).toNat=xs.length-1 by lia,Tw,To #[4],List.getD,To #[4]];rfl
def  smB(os:∅)(n s:Int):Bool:=decide (0∈os)||(decide (n<s+(os.map loM).sum)||decide (s+(os.map hiM).sum<n))
def  sumB(cs:∅)(n:Int)(Tb:∅)(z s:Int)(ms:∅):Bool:=decide (ms=[])&&smB (sgAt Tb<|othL cs z) n s
def aP:d:=#[3,∃(A:Addr) (ms:∅),vs=[.ref A]/\H A=↥(ms.map V.int)/\Q (.bl<|decide<|0∈ms) H]
def sZ:a:=#[":id[bFef#0 0"]
variable{K:Frag}{vs:List V}{H:Hp}{Q:VK}{E:XK}
def Il:R "masks" aP sZ K:=by
 obtain⟨A,ms,rfl,a,q⟩:=h;exists sZ;rw[HY a];show q
variable{cs:∅}
def  PB{Tb:∅}{z:Int}(e:a8 cs Tb.length)(c:∀ m∈Tb,0<=m/\m<64):∀ m∈sgAt Tb (othL cs z),0<=m/\m<64:=λm a=>by
 unfold sgAt at a;obtain⟨x,d,rfl⟩:=Tz.mp a;have b:=e.2 x (TM.mp d).1;show zI c b.1 b.2
def lZ:e:=#[3,∃ k r p A M b cs Tb ms n m z s,vs=[.ref r,.ref A,.int z,.int s,.ref M]/\IsRule H c k r p b cs n m/\a8 cs Tb.length/\(∀ m∈Tb,0<=m/\m<64)/\H A=↥(Tb.map V.int)/\H M=↥(ms.map V.int)/\∀ a,Same H a->Q (.bl<|sumB cs n Tb z s ms) a]
def i9:b:=#[":gldA3r~Kax&-- ub5h#1 Ddk,Qba1cef#0 ch#6 gldA3r~Kax&-- ub5h#1 Ddk,Qba1c{s`0ef#1 ch#7 i~;d>6BjP~S~Tbj0cd<7BjP~S~Tbj0c",(rU λi=>.int<|-i)]
def jc:b:=#[":gl,~Rba1a,~qbja0a2cch#5 gnq,Mba5cieL~ho{tbj"]
def l6:b:=#[":gnpdHb4tcieLFo{ubj"]
variable{c:XZ}
def wt {k:RK} {r p A M B:Addr} {v:List (List Nat)} {os:∅} {n m z s:Int} (x:IsRule H c k r p v cs n m) (T:os.length<=63) (f:∀ m∈os,0<=m/\m<64) (L:¬ 0∈os) (u:H B=↥(os.map V.int))
  (q:∀ I,Same H I->Q (.bl (decide (n<s+(os.map loM).sum)||decide (s+(os.map hiM).sum<n))) I):
  i9 K c (eD9 Q) [↑r,↑A,⇑z,⇑s,↑M,↑B,none,none] H:=by
 have o:∀ y∈os,_:=λy a=>Ij (f y a).1 (f y a).2<|λe=>L<|e ▸ a;unfold i9;exists((_,TW u),?_);show bE (xs:=os) (λ_=>true) loM #[4] (TW u) ?_ ?_ ?_
 . intro y F R a s1 k1;show k1 _ (Tu _)
 . intro y F N a d s1 k1;have G:=o y a;change tOp cIx _ _ [none,⇑y] F N;exists(y,rfl,by have:=(gb (f y a).1 (f y a).2);have:=this.1;lia,λl t i E w=>?_);show ixI w #[1] #[4] ?_;show k1 _ i
 . intro Z F P s1 j;rw[tO]at j;exists zl j (λy a=>by obtain⟨z,D,rfl⟩:=Tz.mp a;have:=(o z D).2.2.1;lia) (by rw[Tn];lia) ?_;exists((_,TW<|s1 _ _ u),?_);show bE (xs:=os) (λ_=>true) hiM #[4] (TW<|s1 _ _ u) ?_ ?_ ?_
   . intro y t R a i k2;show k2 _ (Tu _)
   . intro y t S a d i k2;have G:=o y a;change tOp cIx _ _ [none,⇑y] t S;exists(y,rfl,by have:=(gb (f y a).1 (f y a).2);have:=this.1;lia,λl U J O w=>?_);show ixL w (Ik G.1.1) ?_;show k2 _ J
   . intro Y t E i h;rw[tO]at h;exists zl h (λy a=>by obtain⟨z,D,rfl⟩:=Tz.mp a;have:=(o z D).2.2.2;lia) (by rw[Tn];lia) ?_;symm;have b:=s1.trans i;have g:=x.same b;obtain⟨X,W,C,h1,h2,h3⟩:=g.ex;show methE (k:=k) rfl g.ok h1 (by rfl) ?_;exists(r,p,v,cs,n,m,rfl,g,?_);symm;by_cases d:n<s+(os.map loM).sum
     . rw[Tp d,VM]at q;rw[Tp d];exists q _ b
     . rw[Tq d,UH]at q;rw[Tq d];exists methE (k:=k) rfl g.ok h1 (by rfl) ?_;exists(r,p,v,cs,n,m,rfl,g,?_);exists q _ b
def wu {k:RK} {r p A M:Addr} {f:List (List Nat)} {Tb:∅} {n m z s:Int} (x:IsRule H c k r p f cs n m) (d:a8 cs Tb.length) (h:∀ m∈Tb,0<=m/\m<64) (o:H A=↥(Tb.map V.int))
  (q:∀ e,Same H e->Q (.bl<|smB (sgAt Tb<|othL cs z) n s) e):
  jc K c (eD9 Q) [↑r,↑A,⇑z,⇑s,↑M,none,none,none] H:=by
 have b:a8 (othL cs z) Tb.length:=(TU (Ue _ _) d.1,λy u=>d.2 y (TM.mp u).1);have t:(sgAt Tb<|othL cs z).length<=63:=by unfold sgAt;rw[Tn];show b.1
 have l:=PB (z:=z) d h;unfold jc;exists(k,r,p,f,cs,n,m,z,rfl,x,d.1,λO D s1 w j=>?_);exists(A,O,Tb,othL cs z,rfl,s1 _ _ o,j,b,λB C v E g=>?_);have a:=s1.trans v;generalize sgAt Tb (othL cs z)=os at*;symm;rw[aA];exists(B,os,rfl,g,?_);unfold smB at q;by_cases h0:0∈os
 . rw[Tp h0,VM]at q;rw[Tp h0];show(true,rfl,?_);exists q _ a
 . rw[Tq h0,UH]at q;rw[Tq h0];show(false,rfl,?_);exists wt (x.same a) t l h0 g λe i=>q e (a.trans i)
def Bl:R "rule masks cell sign more some least greatest" lZ l6 K c:=by
 obtain⟨k,r,p,A,M,l,cs,Tb,ms,n,m,z,s,rfl,x,e,b,d,j,q⟩:=h;ac_nf;unfold l6;rw[aC,aA];exists(ba #[1],λZ g=>?_);obtain⟨H1,z9,s1,eZ⟩:∃ z,upd H Z (.lst [])=z/\Same H z/\z Z=↥(([]:∅).map V.int):=bp _ g;rw[z9];show zi (s1 _ _ j) eZ ?_;unfold sumB at q
 cases a:decide (ms=[]) with
 | false=>
  rw[a,Uk]at q;show(true,rfl,?_);exists q _ s1
 | true=>
  rw[a,Uj]at q;show(false,rfl,?_);exists wu (x.same s1) e b (s1 _ _ d) λf i=>q f (s1.trans i)
def J1(t:TK):decide (tkC t=s!"sum")=decide (t=.sum):=by cases t <;> decide
def vc:e:=gS K c .Sum
def pF:b:=#[":idsbr~KaBjP~M~Nbj0a1ccSj0~I"]
def  Oy{xs:∅}{n:Nat}(f:a8 cs n)(g:n=xs.length)(e:∀ x∈xs,0<=x/\x<=1000):∀ x∈sgAt xs cs,0<=x/\x<=1000:=λx a=>by
 unfold sgAt at a;obtain⟨c,d,rfl⟩:=Tz.mp a;have:=f.2 c d;have b:c.toNat<xs.length:=by omega
 rw[List.getD,To b];show e _ (T0 b)
def EH:R "self filling" vc pF K c:=by
 obtain⟨r,p,f,b,cs,xs,n,m,h,w,g,rfl,x,s,F,d,a,i,q⟩:=h;obtain⟨k,W,C,h1,h2,h3⟩:=x.ex;exists pF;show methE rfl x.ok h1 (by rfl) ?_;exists(r,p,f,b,cs,xs,n,m,rfl,x,d,a,λl t s1 o e=>?_);have u:(sgAt xs cs).length<=100:=by unfold sgAt;rw[Tn];show TU a.1 #[1]
 exists zl e (λy j=>by have:=Oy a rfl i y j;lia) #[4] ?_;show fldE rfl x.ok (s1 _ _ h1) (v:=.int n) (by rfl) ?_;exists q _ s1
def Bm:∀ l:∅,risB l=(List.range<|l.length-1).all λi=>decide (l.getD i 0<l.getD (i+1) 0)
 | []=>rfl
 | [x]=>rfl
 | x::y::r=>by
  have a:=Bm (y::r);change(decide (x<y)&&risB (y::r))=(List.range<|r.length+1).all λi=>decide<|(x::y::r).getD i 0 < (x::y::r).getD (i+1) 0;rw[a,List.range_succ_eq_map,Wq,VN];rfl
def qm:e:=gS K c .Rising
def li:b:=#[":glBjP~M~Nbj0a1ch#2 ir~gax&--2 ~sad~arza2cef#1 ch#1 Dd<dk21dk2dA1ef#1 c"]
def zN:R "self filling signs" qm li K c:=by
 obtain⟨r,p,f,s,cs,xs,n,m,h,w,g,rfl,x,M,F,u,k,I,q⟩:=h;obtain⟨B,W,C,h1,h2,h3⟩:=x.ex;exists li;show methE rfl x.ok h1 (by rfl) ?_;exists(r,p,f,s,cs,xs,n,m,rfl,x,u,k,λl N s1 J j=>?_);have L:(sgAt xs cs).length<=100:=by unfold sgAt;rw[Tn];show TU k.1 #[1]
 have z:∀ o,Same H o->Q (.bl<|risB<|sgAt xs cs) o:=q;generalize sgAt xs cs=sg at*;symm;rw[bh j,Tn];exists(_,rfl,by lia,by lia,?_);have v:((sg.length:Int)-1).toNat=sg.length-1:=by lia
 rw[v];show xg (λ_=>true) (λi=>.bl<|decide<|sg.getD i 0<sg.getD (i+1) 0) #[4] ?_ ?_ ?_
 . intro i d R t b k2;show k2 _ (Tu _)
 . intro i d A t G b k2;change tOp _ _ _ [none,⇑(0+(i:Int)),↑l] d A;rw[WL];exists ixI (b _ _ j) #[4] #[4] ?_;show ixI (b _ _ j) #[4] #[4] ?_;symm;have e1:(i:Int).toNat=i:=by lia
   have e2:((i:Int)+1).toNat=i+1:=by lia
   rw[e1,e2];show k2 _ (Tu _)
 . intro D d y b a;rw[bn]at a;show oI (bs:=(List.range<|sg.length-1).map λi=>decide<|sg.getD i 0<sg.getD (i+1) 0) (by rw[a,Uq];rfl) ?_
   have e:((List.range<|sg.length-1).map λi=>decide<|sg.getD i 0<sg.getD (i+1) 0).all id=risB sg:=by
    rw[Bm,VN];rfl
   rw[e];show z _ (s1.trans b)
def yu(l:∅)(x:Int):seenN (l++[x])=if (seenN l).1<x then(x ,(seenN l).2+1) else seenN l:=by
 unfold seenN;rw[U6];rfl
def zO:∀(n:Nat) (l:∅),l.length=n->0<=(seenN l).1/\(∀ y∈l,y<=(seenN l).1)/\((seenN l).1=0\/(seenN l).1∈l)/\0<=(seenN l).2/\(seenN l).2<=n
 | 0,l,hl=>by
  have:l=[]:=Vi.mp hl;subst this;show(by decide,λy a=>(UD a).elim,.inl rfl,by decide,by decide)
 | n+1,l,hl=>by
  have b:l≠[]:=λe=>by rw[e]at hl;simp at hl
  have e:=List.dropLast_concat_getLast b;generalize l.getLast b=x at e;generalize g:l.dropLast=d at e;have m:d.length=n:=by rw[← g,List.length_dropLast,hl];rfl
  obtain⟨k,f,j,i,o⟩:=zO n d m;rw[← e,yu];by_cases c:(seenN d).1<x
  . rw[TZ c];show(by change 0<=x;lia,λy a=>?_,.inr (by simp),by change 0<=(seenN d).2+1;lia,by change(seenN d).2+1<=_;lia);rcases Ud.mp a with a | a
    . have:=f y a;change y<=x;lia
    . have:y=x:=by simpa using a
      change y<=x;lia
  . rw[TX c];show(k,λy a=>?_,?_,i,by lia)
    . rcases Ud.mp a with a | a
      . show f y a
      . have:y=x:=by simpa using a
        lia
    . rcases j with h | h
      . show .inl h
      . show .inr (VT _ h)
def J2{l:∅}{x:Int}(f:1<=x):(seenN<|l++[x]).2=(seenN l).2+if (∀ y∈l,y<x) then 1 else 0:=by
 obtain⟨g,d,b,_,_⟩:=zO _ l rfl;rw[yu];by_cases h:∀ y∈l,y<x
 . rw[TZ h]
   have:(seenN l).1<x:=by
    rcases b with e | e
    . lia
    . show h _ e
   rw[TZ this]
 . rw[TX h];have:¬ (seenN l).1<x:=λa=>h λy c=>by have:=d y c;lia
   rw[TX this];simp
def tP:e:=gS K c .Seen
def nQ:b:=#[":glef#0 h#2 glef#0 h#3 gGubBjP~M~Nbj0a1ch#4 npd>42gl4h#2 ldA3ef#1 h#3 oidsb3Sj0~I"]
def Da:R "self filling greatest seen sign" tP nQ K c:=by
 obtain⟨r,p,f,s,cs,xs,n,m,h,w,g,rfl,x,L,F,t,D,J,q⟩:=h;obtain⟨I,W,C,h1,h2,h3⟩:=x.ex;exists nQ;show methE rfl x.ok h1 (by rfl) ?_;exists(r,p,f,s,cs,xs,n,m,rfl,x,t,D,λl G s1 M o=>?_);have B:∀ b,Same H b->Q (.bl<|decide<|(seenN<|sgAt xs cs).2=n) b:=q;generalize sgAt xs cs=sg at*;exists((_,TW o),bI (K:=K) (xs:=sg.map V.int) (λi σ b=>∃ k:Option V,σ=[↑r,↑f,some<|.int (seenN<|sg.take i).1,some<|.int (seenN<|sg.take i).2,k]/\b=G) (none,rfl,rfl) (λi σ b _ ⟨_,_,e⟩=>by rw[e];show TW o) ?_ ?_)
 . rintro i y σ u a ⟨k,rfl,rfl⟩;rw[Tw]at a
   cases e:sg[i]? with
   | none=>rw[e]at a;cases a
   | some z=>
    rw[e]at a;cases a;have A:sg.take (i+1)=sg.take i++[z]:=by rw[VX,e];rfl
    have d:=yu (sg.take i) z;rw[← A]at d;symm;rw[aA];symm;by_cases j:(seenN<|sg.take i).1<z
    . rw[Tp j];rw[TZ j]at d;show iteT ?_;rw[d];show(_,rfl,by first | trivial | rfl)
    . rw[Tq j];rw[TX j]at d;show iteF ?_;rw[d];show(_,rfl,by first | trivial | rfl)
 . rintro σ u ⟨k,rfl,rfl⟩;rw[Tn,UF];exists fldE rfl x.ok (s1 _ _ h1) (v:=.int n) (by rfl) ?_;exists B _ s1
def rM:e:=λvs H Q E=>∃ k,uR K c k vs H Q E
def l7:b:=#[":ix&--10 ~WbSj0~Lh#1 pdsbdk21Sj3~V1"]
def Bn:R "self filling" rM l7 K c:=by
 obtain⟨k,r,p,f,j,cs,xs,n,m,rfl,x,e,⟨t,g⟩,q⟩:=h;obtain⟨o,W,C,h1,h2,h3⟩:=x.ex;ac_nf;unfold l7;rw[dC,Bb];show fldE rfl x.ok h1 (v:=.ref C) (by rfl) ?_;show(C,rfl,(_,XR h3),?_);show Cr (xs:=cs) (λc=>decide<|xs.getD c.toNat 0=m) (λc=>c) #[4] h3 ?_ ?_ ?_
 . intro z a R d s1 k1;change tTest _ [none,⇑z,↑f,↑r] a R;symm;have:=g z d;show ixI (s1 _ _ e) this.1 #[4] ?_;show fldE rfl x.ok (s1 _ _ h1) (v:=.int m) (by rfl) ?_;exists k1 _ (Tu _)
 . intro z a u d s s1 k1;show k1 _ (Tu _)
 . intro l a i s1 b;rw[VO]at b;show q l a s1 i b
def rN:e:=gS K c .Count
def l8:b:=#[":idsbrzaBjP{v{wbj0a1ccSj0~I"]
def Bo:R "self filling" rN l8 K c:=by
 obtain⟨r,p,f,a,cs,xs,n,m,h,w,g,rfl,x,k,F,b,e,j,q⟩:=h;obtain⟨i,W,C,h1,h2,h3⟩:=x.ex;exists l8;show methE rfl x.ok h1 (by rfl) ?_;exists(r,p,f,a,cs,xs,n,m,rfl,x,b,e,λl o s1 s d=>?_);symm;rw[bh d,Tn];show fldE rfl x.ok (s1 _ _ h1) (v:=.int n) (by rfl) ?_;exists q _ s1
def mem_rngL{j c:Int}:c∈rngL 0 j↔0<=c/\c<j:=by
 unfold rngL;rw[Tz];constructor
 . rintro⟨k,a,rfl⟩;have:=TC.mp a;lia
 . rintro⟨h0,h1⟩;show(c.toNat,TC.mpr #[4],by lia)
section
variable{K:Frag}{g:TG}{σ:St}{H:Hp}{ta:TA}{Q:VK}{ix:List (Option Nat)}{tt:TT}{te:TE}
def  M5:tComp ix (iZip K ta) g tt te σ H Q=ta σ H λvs c=>∃ a b,vs=[.ref a,.ref b]/\(∃ xs,SqL K c a xs)/\(∃ ys,SqL K c b ys)/\CompR (Itz K a b) g tt te (λl d=>Q (.ref l) d) (subσ ix σ) c:=rfl
def J3 {a b:Addr} {xs ys:List V} {fin:Addr->Hp->Prop} {h:St} {c:Hp} {k1 k2:Nat} (f:Nat->V) (N:xs.length<=900) (M:xs.length=ys.length) (o:k1≠k2) (d:SqL K c a xs) (g:SqL K c b ys)
  (D:∀(i:Nat) x y H Q,xs[i]? =some x->ys[i]? =some y->Same c H->(∀ j,Same H j->Q (f i) j)->te ((h.set k1<|some x).set k2<|some y) H Q)
  (F:∀ l H,c l=none->Same c H->H l=↥((List.range xs.length).map f)->fin l H):
  CompR (Itz K a b) (gTup K 2<|gCons (gName k1)<|gCons (gName k2) gNil) tTrue te fin h c:=by
 intro l s;have t:(upd c l<|.lst []) l=↥((List.range 0).map f):=by rw[ah];rfl
 show(λi m σ H=>m=xs.length-i/\i<=xs.length/\(σ=h\/∃ q r,σ=(h.set k1 q).set k2 r)/\Same c H/\H l=↥((List.range i).map f),(xs.length,by simp,UK _,.inl rfl,(Tu c).laid s,t),?_);rintro i m σ H ⟨rfl,L,B,s1,A⟩;by_cases p:i<xs.length
 . have n:i<ys.length:=by lia
   show .inr ((xs,ys,xs[i],ys[i],s1.seq d,s1.seq g,by simp[p],by simp[n]),λu j=>(u=h\/∃ q r,u=(h.set k1 q).set k2 r)/\Same c j/\j l=↥((List.range<|i+1).map f),λu j I=>(xs.length - (i+1),by lia,rfl,p,I),λv j y=>?_);obtain⟨T,x,y,rfl,C,rfl,e1,e2⟩:=y;have E:=e1 xs<|s1.seq d;have G:=e2 ys<|s1.seq g;have z:Same H (upd H T<|.tup [x,y]):=(Tu H).laid C;show(T,_,rfl,XR ah,rfl,_,_,rfl,_,_,rfl,rfl,?_)
   have e:(σ.set k1<|some x).set k2 (some y)=(h.set k1<|some x).set k2 (some y):=by
    rcases B with rfl | ⟨q,r,rfl⟩
    . rfl
    . rw[Xd _ _<|Wa o,Vb,Vb,Xd _ _ o]
   change tTrue ((σ.set k1<|some x).set k2<|some y) _ _;rw[e,cF,TZ rfl];have k:=s1.trans z;show D i x y _ _ E G k λJ w=>(_,w _ _<|z _ _ A,by rw[Tn,UG];show aH #[4],.inr (_,_,rfl),(k.trans w).own s,?_);rw[ah,UQ,UJ];rfl
 . have e:i=xs.length:=by lia
   subst e;show .inl ((xs,ys,s1.seq d,s1.seq g,.inl<|TQ _),F l H s s1 A)
end
variable{n:Nat}{b:Nat->Bool}
def Gv:(List.range n).map (λi=>V.bl<|b i)=((List.range n).map b).map V.bl:=by rw[Uq];rfl
def J4:((List.range n).map b).all id=(List.range n).all b:=by rw[VN];rfl
def  cluB(cl xs:∅):Bool:=(List.range cl.length).all λi=>decide (cl.getD i 0=0)||decide (cl.getD i 0=xs.getD i 0)
def  rowsB (h w:Int) (Td:List RR) (xs:∅):Bool:=Td.all λr=>hoB r.k h w r.cs r.n r.m xs
def  metB (h w g:Int) (Td:List RR) (cl xs:∅):Bool:=filB 1 g (h*w).toNat xs&&(cluB cl xs&&rowsB h w Td xs)
def  pG(K:Frag)(c:XZ)(d:X8)(_:PzK):Sp:=#[3,∃(P L G f:Addr) (h w g:Int) (Td:List RR) (cl xs:∅),vs=[.ref P,.ref f]/\IsPz H c d P L G h w g Td cl/\H f=↥(xs.map V.int)/\xs.length=cl.length/\∀ a,Same H a->Q (.bl<|cluB cl xs) a]
def lO:f:=pG K c d .Puzzle
def iu:c:=#[":ir~gax&--- {xbaSm0~+a1cVb#2 Ch#1 Ch#2 WD~;dsb1ef#0 dsb12c"]
variable{K:Frag}{c:XZ}{d:X8}{vs:List V}{H:Hp}{Q:VK}{E:XK}
def ul:R "self filling" lO iu K c d:=by
 obtain⟨P,L,G,f,h,w,g,Td,cl,xs,rfl,x,j,D,q⟩:=h;obtain⟨J,p,rs,h1,h2,h3⟩:=x.ex;have s:cl.length<=16:=by have:=x.C.len;have:=x.R.F.m;lia
 exists iu;rw[M5,cM];show fldE (k:=.Puzzle) rfl x.ok h1 (v:=.ref G) (by rfl) ?_;exists(G,f,rfl,(_,TW x.gv),(_,TW j),?_);show J3 (xs:=cl.map V.int) (ys:=xs.map V.int) (λi=>.bl (decide (cl.getD i 0=0)||decide (cl.getD i 0=xs.getD i 0))) (by rw[Tn];lia) (by simp[D]) #[1] (TW x.gv) (TW j) ?_ ?_
 . intro i u v e I t y s1 k1;obtain⟨r,b,rfl⟩:=aI t;obtain⟨z,A,rfl⟩:=aI y;have a:=k1 _<|Tu e;rw[cC b,cC A]at a;change tOrV _ _ [none,⇑r,⇑z] e I;symm
   cases n:decide (r=0) with
   | true=>
    rw[n,VM]at a;show iteT a
   | false=>
    rw[n,UH]at a;show iteF a
 . intro l e B s1 o;rw[Gv]at o;show oI o ?_;rw[J4,Tn];show q _ s1
variable{g:Int}{xs:∅}
def jV{a:Int}(h:filB a g n xs=true):xs.length=n/\∀ x∈xs,a<=x/\x<=g:=by
 unfold filB at h;rw[Tx,Tt,Ty]at h;show(h.1,λx b=>?_);have:=h.2 x b;rw[Tx,Tt,Tt]at this;show this
variable{h w:Int}
def RR.cin{r:RR}(O:r.Ok h w g)(F:FlOk h w g):a8 r.cs (h*w).toNat:=by
 obtain⟨h0,h1,l,p,i,q,s⟩:=id F;have b:0<=h*w:=Vs #[4] #[4]
 cases d:allK r.k with
 | false=>
  obtain⟨m,t,f,o,e⟩:=O.cl.told d;rw[e];show(by rw[Tn];lia,λc a=>?_);obtain⟨n,j,rfl⟩:=Tz.mp a;have:=f n j;lia
 | true=>
  obtain⟨_,e⟩:=O.cl.all d;rw[e];show(by rw[jH];lia,λc a=>?_);have:=we a;lia
def  yw(K:Frag)(c:XZ)(d:X8)(_:PzK):Sp:=#[3,∃(P L G f:Addr) (h w g:Int) (Td:List RR) (cl xs:∅),vs=[.ref P,.ref f]/\IsPz H c d P L G h w g Td cl/\H f=↥(xs.map V.int)/\xs.length<=100/\∀ a,Same H a->Q (.bl<|metB h w g Td cl xs) a]
def qo:f:=yw K c d .Puzzle
def mZ:c:=#[":ir~gax&--1 ubSm0~*h#1 DBjP'v'wbj1a2cc"]
def lm:c:=#[":gnIyq,'mbaSm0~Ba1aef#1 cyqBmU{y{zbjm0a1cieLFo{Abjm"]
variable{p:Addr}{Td:List RR}{fin:Addr->Hp->Prop}
def Im {L f:Addr} {rs:List Addr} (X:IsRules H c p L rs Td) (R:bY c h w g Td) (A:IsFl H p h w g) (t:H f=↥(xs.map V.int)) (z:xs.length=(h*w).toNat) (s:∀ x∈xs,0<=x/\x<=1000)
  (y:∀ l o,H l=none->Same H o->o l=↥((Td.map λr=>hoB r.k h w r.cs r.n r.m xs).map V.bl)->fin l o):CompR (Itl K L) (gName 1) tTrue (aN c c.ok "holds" (gS K c) (tVar 1) (tCons (tVar 2) tNil)) fin [none,none,↑f] H:=by
 have I:=R.n;have D:=X.len;show dM (xs:=rs.map V.ref) (λ_=>true) (λi=>.bl<|(Td.map λr=>hoB r.k h w r.cs r.n r.m xs).getD i true) (by rw[Tn];lia) (TW X.top) ?_ ?_ ?_
 . intro i x b R s s1 k1;show k1 _ (Tu _)
 . intro i x b B a G s1 k1;rw[Tw]at a
   cases e:rs[i]? with
   | none=>rw[e]at a;cases a
   | some r=>
    rw[e]at a;cases a;have a:=(Tr.mp e).1;have q:Td[i]? =some Td[i]:=To #[4];have d:=X.at_ i r _ e q;obtain⟨E,W,C,h1,h2,h3⟩:=d.ex;have u:(Td.map λr=>hoB r.k h w r.cs r.n r.m xs).getD i true=hoB Td[i].k h w Td[i].cs Td[i].n Td[i].m xs:=by rw[List.getD,Tw,q];rfl
    rw[u]at k1;have O:=R.ok _<|Tv q;change aN c c.ok "holds" _ _ _ [none,↑r,↑f] b B;show methE (k:=Td[i].k) rfl d.ok (s1 _ _ h1) (by rfl) ?_;exists(r,p,f,_,_,xs,_,_,h,w,g,rfl,d.same s1,s1 _ _ A,R.F,s1 _ _ t,by rw[z];show RR.cin O R.F,s,k1)
 . intro l b j s1 v;show y l b j s1 ?_;rw[v,bn,Tn,D]
   congr 2
   show U0 λi=>?_;rw[Tw,Tw,Tw];by_cases h:i<Td.length
   . rw[UE h,To h];simp[List.getD,h]
   . rw[TV (by simpa using h),TV #[4]];rfl
def zP:R "self filling" qo lm K c d:=by
 obtain⟨P,L,G,f,h,w,g,Td,cl,xs,rfl,x,b,z,q⟩:=h;obtain⟨J,p,rs,h1,h2,h3⟩:=x.ex;have I:=x.R.F.g1;ac_nf;unfold lm;rw[aC,aA];exists fldE (k:=.Puzzle) rfl x.ok h1 (v:=.ref p) (by rfl) ?_;exists(p,f,h,w,g,1,xs,rfl,h2,x.R.F,b,z,λO s1=>?_);unfold metB at q
 cases e:filB 1 g (h*w).toNat xs with
 | false=>
  rw[e,Uk]at q;show(false,rfl,iteT ?_);exists q _ s1
 | true=>
  rw[e,Uj]at q;obtain⟨i,A⟩:=jV e;show(true,rfl,iteF ?_);exists methE (k:=.Puzzle) rfl x.ok (s1 _ _ h1) (by rfl) ?_;exists(P,L,G,f,h,w,g,Td,cl,xs,rfl,x.same s1,s1 _ _ b,by rw[i,x.C.len],λM t=>?_);have a:=s1.trans t
  cases j:cluB cl xs with
  | false=>
   rw[j,Uk]at q;show(false,rfl,iteT ?_);exists q _ a
  | true=>
   rw[j,Uj]at q;show(true,rfl,iteF ?_);unfold mZ;exists fldE (k:=.Puzzle) rfl x.ok (a _ _ h1) (v:=.ref L) (by rfl) ?_;show(L,rfl,(_,TW<|a _ _ h3.top),?_);show Im (h3.same a) x.R (a _ _ h2) (a _ _ b) i (λy B=>by have:=A y B;lia) λl N s o u=>?_;show oI u ?_;have D:(Td.map λr=>hoB r.k h w r.cs r.n r.m xs).all id=rowsB h w Td xs:=by unfold rowsB;rw[VN];rfl
   rw[D];show q _ (a.trans o)
variable{α:Type}
def yx(F:Int->α)(ss:∅):(List.range ss.length).map (λi=>F<|ss.getD i 0)=ss.map F:=by
 show U0 λi=>?_;rw[Tw,Tw];by_cases h:i<ss.length
 . rw[UE h,To h];simp[List.getD,h]
 . rw[TV (by simpa using h),TV #[4]];rfl
def  extL(fs:List ∅)(ss:∅):List ∅:=fs.flatMap λf=>ss.map λs=>f++[s]
def  dQ(sss:List ∅):List ∅:=sss.foldl extL [[]]
def  prodL(sss:List ∅):Nat:=sss.foldl (λn a=>n*a.length) 1
def tm(ss:∅):∀ fs:List ∅,(extL fs ss).length=fs.length*ss.length
 | []=>by simp[extL]
 | f::r=>by
  have a:=tm ss r;unfold extL at a ⊢;rw[W6,TJ,a,Tn,T8,WK,XW]
def yy(fs a:List ∅)(ss:∅):extL (fs++a) ss=extL fs ss++extL a ss:=by
 unfold extL;rw[V6]
def tp(f:∅)(ss:∅):extL [f] ss=ss.map λs=>f++[s]:=by
 unfold extL;simp
def EI:∀(sss fs:List ∅),(sss.foldl extL fs).length=sss.foldl (λn ss=>n*ss.length) fs.length
 | [],_=>rfl
 | ss::r,fs=>by
  rw[Ul,EI r,Ul,tm]
def  iY(sss:List ∅):(dQ sss).length=prodL sss:=EI sss [[]]
def Hk:∀(sss:List ∅) (n:Nat),(∀ ss∈sss,1<=ss.length)->n<=sss.foldl (λn ss=>n*ss.length) n
 | [],_,_=>TQ _
 | ss::r,n,h=>by
  rw[Ul];show TU (Xm n<|h ss TR) (Hk r _ λx a=>h x<|TD _ a)
variable{sss:List ∅}
def Cv(i:Nat)(h:∀ ss∈sss,1<=ss.length):prodL (sss.take i)<=prodL sss:=by
 have e:prodL sss=(sss.drop i).foldl (λn ss=>n*ss.length) (prodL<|sss.take i):=by
  unfold prodL;rw[← U6,Wl]
 rw[e];show Hk _ _ λx a=>h x (Wu a)
variable{i:Nat}
def fD{α:Type}{l:List α}{x:α}(h:l[i]? =some x):l.take (i+1)=l.take i++[x]:=by
 rw[VX,h];rfl
variable{ss:∅}
def Cw(h:sss[i]? =some ss):dQ (sss.take<|i+1)=extL (dQ<|sss.take i) ss:=by
 unfold dQ;rw[fD h,U6];rfl
def Lm(h:sss[i]? =some ss):prodL (sss.take<|i+1)=prodL (sss.take i)*ss.length:=by
 unfold prodL;rw[fD h,U6];rfl
def Cz:∀(sss fs:List ∅) (n:Nat),(∀ f∈fs,f.length=n)->∀ f∈sss.foldl extL fs,f.length=n+sss.length
 | [],_,_,h,f,a=>h f a
 | ss::r,fs,n,h,f,a=>by
  have:=Cz r (extL fs ss) (n+1) (λf a=>by
   unfold extL at a;obtain⟨g,b,a⟩:=VJ.mp a;obtain⟨s,_,rfl⟩:=Tz.mp a;rw[TJ,h g b];rfl) f a
  rw[this,T8];lia
variable{f:∅}
def zQ(h:f∈dQ sss):f.length=sss.length:=by
 have:=Cz sss [[]] 0 (λf a=>by rw[TH.mp a];rfl) f h;lia
variable{l:Addr}{as:List Addr}{Ti:List ∅}
def IsLL.app{bs:List Addr}{yss:List ∅}(x:IsLL H l as Ti)(g:l∉as)(nb:l∉bs)(c:bs.length=yss.length)(d:∀(j:Nat) (a:Addr) (ys:∅),bs[j]? =some a->yss[j]? =some ys->H a=↥(ys.map V.int)):
  IsLL (upd H l<|.lst<|as.map V.ref++bs.map V.ref) l (as++bs) (Ti++yss):=by
 have f:=x.len;show(by rw[ah,UJ],by rw[TJ,TJ,x.len,c],λj a ys h1 h2=>?_);by_cases e:j<as.length
 . rw[Ub e]at h1;rw[Ub #[4]]at h2;have b:a≠l:=λz=>g<|z ▸ Tv h1;rw[ak b];show x.at_ j a ys h1 h2
 . rw[Uc #[4]]at h1;rw[Uc #[4]]at h2;have b:a≠l:=λz=>nb<|z ▸ Tv h1;rw[ak b];show d _ a ys h1 (by rw[f];show h2)
def IsLL.get{a:Addr}(x:IsLL H l as Ti)(h:as[i]? =some a):∃ xs,Ti[i]? =some xs/\H a=↥(xs.map V.int):=by
 have b:=(Tr.mp h).1;have e:Ti[i]? =some (Ti[i]'(by have:=x.len;lia)):=To _;show(_,e,x.at_ i a _ h e)
def  CA(h:n<=1100):n<sizeLine:=UW h #[1]
def CB{q:Addr}{xs ys:List V}(a:H p=↥xs)(c:H q=↥ys)(b:xs.length+ys.length<=1100)(h:Q .non (upd H p<|.lst<|xs++ys)):kf (.ref p) [.ref q] H Q:=by
 change bnd (unM<|H p) _;rw[a];change bnd (unM<|H q) _;rw[c];show(Uy<|CA b,h)
def Lo {a:Hp} {S f:Addr} (q:a S=↥(ss.map V.int)) (h:a f=↥(xs.map V.int)) (v:ss.length<=100) (k:xs.length<=16)
  (o:∀ m as b,a m=none->Same a b->b m=↥(as.map V.ref)->NewAt a b m as (ss.map λs=>.lst<|(xs++[s]).map V.int)->fin m b):
  CompR (Itl K S) (gName 1) tTrue (tOp cAdd (tVar 2)<|tLst<|tCons (tVar 1) tNil) fin [none,none,↑f] a:=by
 show oJ (xs:=ss.map V.int) (λ_=>true) (λi=>.lst<|(xs++[ss.getD i 0]).map V.int) (by rw[Tn];lia) (TW q) ?_ ?_ ?_
 . intro i x H R k s1 k1;show k1 _ (Tu _)
 . intro i x H Q p u s1 k1;obtain⟨z,n,rfl⟩:=aI p;rw[cC n]at k1;change tOp cAdd _ _ [none,⇑z,↑f] H Q;exists(lnR rfl,λt j=>?_);have c:Same H (upd H t<|.lst [V.int z]):=(Tu H).laid j;show rJ (c _ _<|s1 _ _ h) ah (by simp;lia) λr d=>?_;show k1 r _ (c.trans<|(Tu _).laid d) (c.free d) (by rw[ah];simp)
 . intro m as H l s1 e g;show o m as H l s1 e ?_;rw[bn,Tn,yx<|λs=>HO.lst<|(xs++[s]).map V.int]at g;show g
def Lp{c f g:Hp}{m:Addr}{bs:List Addr}(x:IsLL f l as Ti)(i:l∉as)(s0:Same c f)(o:c l=none)(n:∀ b∈as,c b=none)(s1:Same f g)(d:NewAt f g m bs (ss.map λs=>.lst<|(xs++[s]).map V.int)):
  IsLL (upd g l<|.lst<|as.map V.ref++bs.map V.ref) l (as++bs) (Ti++extL [xs] ss)/\l∉as++bs/\(∀ b∈as++bs,c b=none):=by
 have k:l∉bs:=λh=>by have:=d.fr l h;rw[x.top]at this;cases this
 show(?_,?_,?_)
 . show(x.same s1).app i k (by rw[d.len,tp,Tn,Tn]) λj a p h1 h2=>?_;show d.at_ j a _ h1 ?_;rw[tp,Tw]at h2;rw[Tw]
   cases e:ss[j]? with
   | none=>rw[e]at h2;cases h2
   | some s=>rw[e]at h2;cases h2;rfl
 . intro h;rcases Ud.mp h with h | h
   . show i h
   . show k h
 . intro b h;rcases Ud.mp h with h | h
   . show n b h
   . show s0.free (d.fr b h)
def pH:d:=#[3,∃ F S as a ss,vs=[.ref F,.ref S]/\IsLL H F as a/\H S=↥(ss.map V.int)/\a.length*ss.length<=1100/\ss.length<=100/\(∀ f∈a,f.length<=16)/\
 ∀(l:Addr) (d:List Addr) (c:Hp),Same H c->H l=none->IsLL c l d (extL a ss)->l∉d->(∀ b∈d,H b=none)->Q (.ref l) c]
def pI:a:=#[":gltch#2 gGub0h#3 *ObK~U2ax&--3 ub1h#1 DdA2ta1cci2"]
def EJ:R "fillings signs found filling" pH pI K:=by
 obtain⟨F,S,as,c,ss,rfl,x,A,Z,G,J,q⟩:=h;exists pI;show(lnR rfl,λl n=>?_);obtain⟨H1,I,s1,M⟩:=bp (.lst []) n;rw[I];show((_,TW<|s1 _ _ x.top),?_)
 show bI (K:=K) (xs:=as.map V.ref) (λi σ z=>∃(v:Option V) (d:List Addr),σ=[↑F,↑S,↑l,v]/\Same H z/\IsLL z l d (extL (c.take i) ss)/\l∉d/\∀ b∈d,H b=none)
  (none,[],rfl,s1,(M,rfl,λj a xs h1=>by simp at h1),by simp,λb u=>nomatch u) (λi σ z _ ⟨_,_,_,s,_⟩=>s.seq<|TW x.top) ?_ ?_
 . rintro i y σ B N ⟨v,d,rfl,k,g,p,r⟩;obtain⟨f,t,rfl⟩:=aY N;obtain⟨xs,w,R⟩:=x.get t;exists(bB g.top,(_,TW<|k _ _ A),?_);show Lo (ss:=ss) (xs:=xs) (k _ _ A) (k _ _ R) G (J xs<|Tv w) λm cs W Y o U C=>?_
   have u:d.length+cs.length<=1100:=by
    have D:=g.len;rw[tm,Uu]at D;have L:=C.len;rw[Tn]at L;have X:=(Tr.mp w).1;have e1:min i c.length=i:=by lia
    rw[e1]at D;have:=Vf ss.length (show i+1<=c.length by lia);rw[WK]at this;lia
   show CB (o _ _ g.top) U (by rw[Tn,Tn];show u) ?_;obtain⟨T,P,O⟩:=Lp g p k n r o C;show(_,d++cs,rfl,(k.trans o).own n,?_,P,O);rw[fD w,yy];show T
 . rintro σ B ⟨v,d,rfl,k,g,p,r⟩;symm;have e:c.take (as.map V.ref).length=c:=Ut (by rw[Tn,x.len];show TQ _);rw[e]at g;show q l d B k n g p r
def jW:d:=#[3,∃ A as sss,vs=[.ref A]/\IsLL H A as sss/\sss.length<=16/\(∀ ss∈sss,1<=ss.length/\ss.length<=100)/\prodL sss<=1100/\
 ∀(l:Addr) (c:List Addr) (a:Hp),Same H a->H l=none->IsLL a l c (dQ sss)->l∉c->(∀ b∈c,H b=none)->Q (.ref l) a]
def jX:a:=#[":gltatcch#1 gGub0h#2 l,{Bba1a2ch#1 i1"]
def yz:R "signs_by_cell fillings signs" jW jX K:=by
 obtain⟨A,as,sss,rfl,x,P,J,hp,q⟩:=h;exists jX;show(lnR rfl,λe F=>?_);obtain⟨m,R,s1,N⟩:=bp (.lst []) F;rw[R];show(lnR rfl,λl d=>?_);have O:Same m (upd m l<|.lst [V.ref e]):=(Tu m).laid d;have W:(upd m l<|.lst [V.ref e]) l=some (.lst [V.ref e]):=ah;have D:l≠e:=λz=>by rw[z,N]at d;cases d
 generalize upd m l (.lst [V.ref e])=H2 at*;have k:=s1.trans O;show((_,TW<|k _ _ x.top),?_)
 show bI (K:=K) (xs:=as.map V.ref) (λi σ B=>∃(l:Addr) (v:Option V) (c:List Addr),σ=[↑A,↑l,v]/\Same H B/\H l=none/\IsLL B l c (dQ<|sss.take i)/\l∉c/\∀ b∈c,H b=none)
  (l,none,[e],rfl,k,s1.free d,(W,rfl,λj a xs h1 h2=>?_),by simpa using D,λb r=>by rw[TH.mp r];show F) (λi σ B _ ⟨_,_,_,_,s,_⟩=>s.seq<|TW x.top) ?_ ?_
 . have U:j=0:=by have:=(Tr.mp h1).1;simp at this;lia
   subst U;cases h1;cases h2;show O _ _ N
 . rintro i y σ I Z ⟨l,v,c,rfl,g,d,n,G,L⟩;obtain⟨S,p,rfl⟩:=aY Z;obtain⟨ss,w,eS⟩:=x.get p;have t:=J ss<|Tv w;exists(l,S,c,_,ss,rfl,n,g _ _ eS,?_,t.2,?_,λY cs H4 s4 o M u C=>?_)
   . rw[iY,← Lm w];show TU (Cv _ λz X=>(J z X).1) hp
   . intro f T;rw[zQ T,Uu];lia
   . rw[← Cw w]at M;show(Y,_,cs,rfl,g.trans s4,g.free o,M,u,λb r=>g.free<|C b r)
 . rintro σ I ⟨l,v,c,rfl,g,d,n,G,L⟩;symm;have e:sss.take (as.map V.ref).length=sss:=Ut (by rw[Tn,x.len];show TQ _);rw[e]at n;show q l c I g d n G L
def Oz(f:α->V)(xs:List α)(k:Nat):cutV (xs.map f) none (some (k:Int))=(xs.take k).map f:=by
 unfold cutV;rw[HT.sIx_nat,HT.sIx_none,Tn,List.drop_zero,Nat.sub_zero,VC];by_cases h:k<=xs.length
 . rw[WC h]
 . rw[V0 #[4],Ut (by rw[Tn];show TQ _),Ut (by rw[Tn];lia)]
def Hl(m:Int):(sgL m).length<=Builtin.Int.intBits m:=by
 unfold sgL;rw[Tn];show TU (Ue _ _) ?_;rw[UG];show TQ _
def  prodW(ms:∅):Nat:=ms.foldl (λp m=>p*(sgL m).length) 1
variable{x:Int}
def zR(f:α->Int->α)(a:α)(h:xs[i]? =some x):(xs.take<|i+1).foldl f a=f ((xs.take i).foldl f a) x:=by
 rw[VX,h,U6];rfl
def wj:d:=#[3,∃ p ms,vs=[.ref p]/\H p=↥(ms.map V.int)/\(∀ m∈ms,Builtin.Int.intBits m<=900)/\∀ a,Same H a->Q (.int ((prodW ms:Nat):Int)) a]
def Bp:a:=#[":glef#1 h#1 gGub0h#2 ld-1rza,Qba2cch#1 i1"]
def M7:R "masks product mask" wj Bp K:=by
 obtain⟨p,ms,rfl,e,j,k⟩:=h;exists Bp;show((_,TW e),bI (K:=K) (xs:=ms.map V.int) (λi σ d=>∃ b:Option V,σ=[↑p,⇑((prodW (ms.take i):Nat):Int),b]/\Same H d) (none,rfl,Tu H) (λi σ d _ ⟨_,_,s⟩=>TW<|s _ _ e) ?_ ?_)
 . rintro i x σ o n ⟨b,rfl,s1⟩;obtain⟨m,c,rfl⟩:=aI n;have a:=j m<|Tv c;exists(m,rfl,a,λl q f r g=>?_);symm;rw[bh g];symm;have h1:=Hl m;rw[Tn];show(.inr (by lia,by lia),⇑m,?_,s1.trans f);unfold prodW;rw[zR _ _ c,Int.natCast_mul]
 . rintro σ o ⟨b,rfl,s1⟩;symm;rw[Ut (by rw[Tn];show TQ _)] at*;show k _ s1
def  setL(xs:∅)(z s:Int):∅:=(List.range xs.length).map λ(i:Nat)=>if (i:Int)=z then s else xs.getD i 0
variable{z:Int}
def pJ{s:Int}:(setL xs z s).length=xs.length:=by unfold setL;simp
def  Hm{s:Int}(s0:0<=s)(b:s<=6)(e:∀ x∈xs,0<=x/\x<=6):∀ x∈setL xs z s,0<=x/\x<=6:=λx h=>by
 unfold setL at h;obtain⟨i,f,rfl⟩:=Tz.mp h;have a:=TC.mp f;have d:=e _<|T0 a;have c:xs.getD i 0=xs[i]:=by rw[List.getD,To a];rfl
 rw[c]
 split
 . show(s0,b)
 . show d
def lq:d:=#[3,∃ F xs z s,vs=[.ref F,.int z,.int s]/\H F=↥(xs.map V.int)/\xs.length<=100/\∀ l a,Same H a->H l=none->a l=↥((setL xs z s).map V.int)->Q (.ref l) a]
def pK:a:=#[":ix&---12 +ba0cVb#2 Ch#1 Ch#2 WDRpdsb1342"]
def EK:R "filling cell sign" lq pK K:=by
 obtain⟨F,xs,z,s,rfl,f,m,q⟩:=h;exists pK;show(F,rfl,(_,TW f),?_);show kH (xs:=xs.map V.int) (λ_=>true) (λi=>.int (if (i:Int)=z then s else xs.getD i 0)) (by rw[Tn];lia) #[1] (TW f) ?_ ?_ ?_
 . intro i x b R e s1 k1;show k1 _ (Tu _)
 . intro i x b j e k s1 k1;obtain⟨y,g,rfl⟩:=aI e;have a:=k1 _<|Tu b;rw[cC g]at a;change tIf _ _ _ [none,⇑(i:Int),⇑y,⇑z,⇑s] b j;unfold tIf;symm;by_cases h0:(i:Int)=z
   . rw[Tp h0];rw[TZ h0]at a;show iteT a
   . rw[Tq h0];rw[TX h0]at a;show iteF a
 . intro l b c s1 d;rw[bn,Tn]at d;show q l b s1 c ?_;rw[d];unfold setL;rw[Uq];rfl
def  extS(a:List ∅)(z:Int)(ss:∅):List ∅:=a.flatMap λf=>ss.map λs=>setL f z s
def yA(z:Int)(ss:∅):∀ a:List ∅,(extS a z ss).length=a.length*ss.length
 | []=>by simp[extS]
 | f::r=>by
  have b:=yA z ss r;unfold extS at b ⊢;rw[W6,TJ,b,Tn,T8,WK,XW]
def Lq(fs a:List ∅)(z:Int)(ss:∅):extS (fs++a) z ss=extS fs z ss++extS a z ss:=by
 unfold extS;rw[V6]
def Lr(f:∅)(z:Int)(ss:∅):extS [f] z ss=ss.map λs=>setL f z s:=by
 unfold extS;simp
def mem_extS{fs:List ∅}:f∈extS fs z ss↔∃ a∈fs,∃ s∈ss,f=setL a z s:=by
 unfold extS;rw[VJ];constructor
 . rintro⟨a,b,h⟩;obtain⟨s,c,rfl⟩:=Tz.mp h;show(a,b,s,c,rfl)
 . rintro⟨a,b,s,c,rfl⟩;show(a,b,Tz.mpr (s,c,rfl))
def J5{f d e:Hp}{m:Addr}{bs:List Addr}{yss:List ∅}(x:IsLL d l as Ti)(g:l∉as)(s0:Same f d)(k:∀ b∈as,f b=none)(s1:Same d e)(c:NewAt d e m bs (yss.map λys=>.lst<|ys.map V.int)):
  IsLL (upd e l<|.lst<|as.map V.ref++bs.map V.ref) l (as++bs) (Ti++yss)/\l∉as++bs/\(∀ b∈as++bs,f b=none):=by
 have i:l∉bs:=λh=>by have:=c.fr l h;rw[x.top]at this;cases this
 show(?_,?_,?_)
 . show(x.same s1).app g i (by rw[c.len,Tn]) λj a ys h1 h2=>?_;show c.at_ j a _ h1 (by rw[Tw,h2];rfl)
 . intro h;rcases Ud.mp h with h | h
   . show g h
   . show i h
 . intro b h;rcases Ud.mp h with h | h
   . show k b h
   . show s0.free (c.fr b h)
def jd:d:=#[3,∃ F S as a z ss,vs=[.ref F,.int z,.ref S]/\IsLL H F as a/\H S=↥(ss.map V.int)/\a.length*ss.length<=1100/\ss.length<=100/\(∀ f∈a,f.length<=16)/\
 ∀(l:Addr) (c:List Addr) (b:Hp),Same H b->H l=none->IsLL b l c (extS a z ss)->Q (.ref l) b]
def je:a:=#[":gltch#3 gGub0h#4 *ObK~U3ax&--14 ub2h#1 D,'xba3a2a1cci3"]
def wv:R "fillings cell signs found filling" jd je K:=by
 obtain⟨F,S,as,c,z,ss,rfl,x,M,hn,hs,X,q⟩:=h;exists je;show(lnR rfl,λl o=>?_);obtain⟨H1,T,s1,A⟩:=bp (.lst []) o;rw[T];show((_,TW<|s1 _ _ x.top),?_)
 show bI (K:=K) (xs:=as.map V.ref) (λi σ p=>∃(v:Option V) (d:List Addr),σ=[↑F,⇑z,↑S,↑l,v]/\Same H p/\IsLL p l d (extS (c.take i) z ss)/\l∉d/\∀ b∈d,H b=none)
  (none,[],rfl,s1,(A,rfl,λj a xs h1=>by simp at h1),by simp,λb r=>nomatch r) (λi σ p _ ⟨_,_,_,s,_⟩=>s.seq<|TW x.top) ?_ ?_
 . rintro i y σ B Z ⟨v,d,rfl,k,g,I,J⟩;obtain⟨f,w,rfl⟩:=aY Z;obtain⟨xs,C,ef⟩:=x.get w;have U:=X xs<|Tv C;exists(bB g.top,(_,TW<|k _ _ M),?_);show oJ (xs:=ss.map V.int) (λ_=>true) (λi=>.lst<|(setL xs z<|ss.getD i 0).map V.int) (by rw[Tn];lia) (TW<|k _ _ M) ?_ ?_ ?_
   . intro i x H R hx s1 k1;show k1 _ (Tu _)
   . intro i x u P L r n k3;obtain⟨t,O,rfl⟩:=aI L;rw[cC O]at k3;change tCall _ _ _ _ [none,⇑t,⇑z,↑f] u P;exists(f,xs,z,t,rfl,(k.trans n) _ _ ef,by lia,λl p W o A=>k3 l p W o A)
   . intro m cs u hm n em G;rw[bn,Tn,yx<|λs=>HO.lst<|(setL xs z s).map V.int]at G
     have D:NewAt B u m cs ((extS [xs] z ss).map λys=>.lst<|ys.map V.int):=by
      rw[Lr,Uq];show G
     have r:d.length+cs.length<=1100:=by
      have N:=g.len;rw[yA,Uu]at N;have Y:=G.len;rw[Tn]at Y;have L:=(Tr.mp C).1;have e1:min i c.length=i:=by lia
      rw[e1]at N;have:=Vf ss.length (show i+1<=c.length by lia);rw[WK]at this;lia
     show CB (n _ _ g.top) em (by rw[Tn,Tn];show r) ?_;obtain⟨z1,z2,z3⟩:=J5 g I k J n D;show(_,d++cs,rfl,(k.trans n).own o,?_,z2,z3);rw[fD C,Lq];show z1
 . rintro σ B ⟨v,d,rfl,k,g,I,J⟩;symm;have e:c.take (as.map V.ref).length=c:=Ut (by rw[Tn,x.len];show TQ _);rw[e]at g;show q l d B k o g
def  wfold(Tb:∅)(rest:∅)(fs:List ∅):List ∅:=rest.foldl (λfs o=>extS fs o<|sgL<|Tb.getD o.toNat 0) fs
def  wfill(Tb rest:∅)(z s:Int):List ∅:=wfold Tb rest [setL (List.replicate Tb.length 0) z s]
def  waysB (k:RK) (h w:Int) (cs:∅) (n m:Int) (Tb:∅) (z s:Int) (ms:∅):Bool:=
 decide (ms=[])&&(decide (prodW (sgAt Tb<|othL cs z)<=32)&&(decide (0∈sgAt Tb (othL cs z))||!((wfill Tb (othL cs z) z s).any λf=>hoB k h w cs n m f)))
def CD(Tb:∅):∀(rest:∅) (fs:List ∅),(wfold Tb rest fs).length=(sgAt Tb rest).foldl (λp m=>p*(sgL m).length) fs.length
 | [],_=>rfl
 | o::r,fs=>by
  unfold wfold sgAt;rw[Ul,T7,Ul];have:=CD Tb r<|extS fs o<|sgL<|Tb.getD o.toNat 0;unfold wfold sgAt at this;rw[this,yA]
def EL:∀(ms:∅) (n:Nat),(∀ m∈ms,1<=(sgL m).length)->n<=ms.foldl (λp m=>p*(sgL m).length) n
 | [],_,_=>TQ _
 | m::r,n,h=>by
  rw[Ul];show TU (Xm n<|h m TR) (EL r _ λx a=>h x<|TD _ a)
variable{ms:∅}
def Io(i:Nat)(h:∀ m∈ms,1<=(sgL m).length):prodW (ms.take i)<=prodW ms:=by
 have e:prodW ms=(ms.drop i).foldl (λp m=>p*(sgL m).length) (prodW<|ms.take i):=by
  unfold prodW;rw[← U6,Wl]
 rw[e];show EL _ _ λx a=>h x (Wu a)
def tq{n:Nat}{Tb:∅}(k:∀ m∈Tb,0<=m/\m<64):∀(rest:∅) (fs:List ∅),(∀ f∈fs,f.length=n/\∀ x∈f,0<=x/\x<=6)->∀ f∈wfold Tb rest fs,f.length=n/\∀ x∈f,0<=x/\x<=6
 | [],_,h,f,hf=>h f hf
 | o::r,fs,h,f,hf=>by
  show tq k r (extS fs o<|sgL<|Tb.getD o.toNat 0) (λg l=>?_) f hf;obtain⟨a,q,s,b,rfl⟩:=mem_extS.mp l;have h1:=h a q
  have d:1<=s/\s<=6:=by
   by_cases c:o.toNat<Tb.length
   . have e:Tb.getD o.toNat 0=Tb[o.toNat]:=by rw[List.getD,To c];rfl
     rw[e]at b;have i:=k _<|T0 c;rw[(gb i.1 i.2).2]at b;obtain⟨j,p,rfl⟩:=Tz.mp b;have:=(TM.mp p).1;simp at this;lia
   . have e:Tb.getD o.toNat 0=0:=by rw[List.getD,TV #[4]];rfl
     rw[e,J0]at b;cases b
  show(by rw[pJ];show h1.1,Hm #[4] d.2 h1.2)
def lr:e:=#[3,∃ k r p A M b cs Tb ms n m z s h w g,vs=[.ref r,.ref A,.int z,.int s,.ref M]/\IsRule H c k r p b cs n m/\IsFl H p h w g/\FlOk h w g/\a8 cs Tb.length/\Tb.length<=16/\(∀ m∈Tb,0<=m/\m<64)/\1<=s/\s<=6/\H A=↥(Tb.map V.int)/\H M=↥(ms.map V.int)/\∀ a,Same H a->Q (.bl<|waysB k h w cs n m Tb z s ms) a]
def iO:b:=#[":gGub7h#9 nqBjP'v'wbj0a9cieLFoieL~h"]
def iP:b:=#[":glta,'xbad~]taef#0 crza1ca2a3cch#7 gGub5h#8 l,{Cba7a8a,Qbadk18cch#7 {Dbj"]
def lu:b:=#[":gl,~qbja0a2ch#5 gl,~Rba1a5ch#6 gnIpdHb4tcpd>,'yba6cef#32 ieLFognq,Mba6cieL~ho{Ebj"]
structure Wys(H:Hp)(c:XZ)(k:RK)(r p A:Addr)(ws:List (List Nat))(cs Tb:∅)(n m h w g:Int):Prop where
 R:IsRule H c k r p ws cs n m
 fl:IsFl H p h w g
 F:FlOk h w g
 ci:a8 cs Tb.length
 ml:Tb.length<=16
 mo:∀ m∈Tb,0<=m/\m<64
 hA:H A=↥(Tb.map V.int)
variable{m:Int}{cs Tb:∅}
def  Wys.same{b:Hp}{k:RK}{r A:Addr}{a:List (List Nat)}{n:Int}(x:Wys H c k r p A a cs Tb n m h w g)(s:Same H b):Wys b c k r p A a cs Tb n m h w g:=(x.R.same s,s _ _ x.fl,x.F,x.ci,x.ml,x.mo,s _ _ x.hA)
def Ip {k:RK} {r A F:Addr} {D:List (List Nat)} {n:Int} {v2 N G v5 v6 L:Option V} {bs:List Addr} {a:List ∅} (X:Wys H c k r p A D cs Tb n m h w g) (x:IsLL H F bs a) (O:∀ f∈a,f.length=Tb.length/\∀ x∈f,0<=x/\x<=6)
  (q:∀ l,Same H l->Q (.bl<|!(a.any λf=>hoB k h w cs n m f)) l):
  iO K c (eD9 Q) [↑r,↑A,v2,N,G,v5,v6,↑F,L,none] H:=by
 obtain⟨U,W,C,h1,h2,h3⟩:=X.R.ex;have t:=x.len;unfold iO;exists((_,TW x.top),?_);show bI (K:=K) (xs:=bs.map V.ref) (λi σ l=>∃ B:Option V,σ=[↑r,↑A,v2,N,G,v5,v6,↑F,L,B]/\Same H l/\((a.take i).any λf=>hoB k h w cs n m f)=false) (none,rfl,Tu _,rfl) (λi σ l _ ⟨_,_,s,_⟩=>s.seq<|TW x.top) ?_ ?_
 . rintro i y σ T u ⟨B,rfl,s1,d⟩;obtain⟨b,P,rfl⟩:=aY u;obtain⟨f,J,S⟩:=x.get P;have j:=Tv J;obtain⟨v,z⟩:=O f j;have o:=X.same s1;symm;rw[aA];exists methE (k:=k) rfl X.R.ok (s1 _ _ h1) (by rfl) ?_;exists(r,p,b,D,cs,f,n,m,h,w,g,rfl,o.R,o.fl,o.F,s1 _ _ S,by rw[v];show o.ci,λy u=>by have:=z y u;lia,λY I=>?_);show(_,rfl,?_)
   cases E:hoB k h w cs n m f with
   | true=>
    show iteT ?_;have e:(a.any λf=>hoB k h w cs n m f)=true:=Vo.mpr (f,j,E);have M:=q _<|s1.trans I;rw[e]at M;show M
   | false=>
    show iteF (_,rfl,s1.trans I,?_);rw[fD J,List.any_append,d,UH]
    simpa using E
 . rintro σ T ⟨B,rfl,s1,d⟩;rw[Ut (by rw[Tn,t];show TQ _)]at d;symm;rw[d]at q;show q _ s1
def Iq {k:RK} {r A R:Addr} {ws:List (List Nat)} {n s:Int} {v4 v6:Option V} (X:Wys H c k r p A ws cs Tb n m h w g) (hR:H R=↥((othL cs z).map V.int)) (s0:1<=s) (s6:s<=6) (hw:prodW (sgAt Tb<|othL cs z)<=32) (h0:0∉sgAt Tb (othL cs z))
  (q:∀ u,Same H u->Q (.bl<|!((wfill Tb (othL cs z) z s).any λf=>hoB k h w cs n m f)) u):
  iP K c (eD9 Q) [↑r,↑A,⇑z,⇑s,v4,↑R,v6,none,none,none] H:=by
 have ag:=X.ml;unfold iP;exists(lnR rfl,λZ hZ=>?_);obtain⟨J,z9,s1,eZ⟩:=bp (.lst [V.int 0]) hZ;rw[z9];rw[bh<|s1 _ _ X.hA,Tn];show Eh eZ #[4] #[4] (by change(1:Nat)<=1;decide) λN hN=>?_;have s2:Same J (upd J N<|.lst (List.replicate ((Tb.length:Nat):Int).toNat [V.int 0]).flatten):=(Tu J).laid hN
 have eN:(upd J N<|.lst (List.replicate ((Tb.length:Nat):Int).toNat [V.int 0]).flatten) N=↥((List.replicate Tb.length (0:Int)).map V.int):=by
  rw[ah,WS];simp
 generalize upd J N (.lst (List.replicate ((Tb.length:Nat):Int).toNat [V.int 0]).flatten)=H2 at*;have Y:=s1.trans s2;show(N,_,z,s,rfl,eN,by simp;lia,λb D s3 B eb=>?_);have T:=Y.trans s3;exists(lnR rfl,λF hF=>?_);have s4:Same D (upd D F<|.lst [V.ref b]):=(Tu D).laid hF
 have xF:IsLL (upd D F<|.lst [V.ref b]) F [b] [setL (List.replicate Tb.length 0) z s]:=by
  show(ah,rfl,λj a xs e1 e2=>?_);have hj:j=0:=by have:=(Tr.mp e1).1;simp at this;lia
  subst hj;cases e1;cases e2;show s4 _ _ eb
 generalize upd D F (.lst [V.ref b])=H4 at*;have E:=T.trans s4
 have t:∀ f∈([setL (List.replicate Tb.length 0) z s]:List ∅),f.length=Tb.length/\∀ x∈f,0<=x/\x<=6:=λf W=>by
  rw[TH.mp W];show(by rw[pJ];simp,Hm #[4] s6 λx hx=>by rw[(V9.mp hx).2];lia)
 have P:∀ U∈sgAt Tb (othL cs z),1<=(sgL U).length:=λU hm=>by
  have I:U≠0:=λe=>h0<|e ▸ hm;unfold sgAt at hm;obtain⟨o,O,rfl⟩:=Tz.mp hm;have v:o∈cs:=(TM.mp O).1;have hi:=X.ci.2 o v;have d:o.toNat<Tb.length:=by lia
  have e:Tb.getD o.toNat 0=Tb[o.toNat]:=by rw[List.getD,To d];rfl
  rw[e]at I ⊢;have B:=X.mo _<|T0 d;show(Ij B.1 B.2 I).1.1
 show((_,TW<|E _ _ hR),?_);show bI (K:=K) (xs:=(othL cs z).map V.int) (λi σ u=>∃(F:Addr) (M:List Addr) (v8:Option V),σ=[↑r,↑A,⇑z,⇑s,v4,↑R,v6,↑F,v8,none]/\Same H u/\IsLL u F M (wfold Tb ((othL cs z).take i) [setL (List.replicate Tb.length 0) z s])) (F,[b],none,rfl,E,xF) (λi σ u _ ⟨_,_,_,_,s,_⟩=>s.seq<|TW hR) ?_ ?_
 . rintro i y σ H5 hy ⟨F,M,v8,rfl,C,L⟩;obtain⟨o,O,rfl⟩:=aI hy;have af:=Tv O;have v:o∈cs:=(TM.mp af).1;have hi:=X.ci.2 o v;have d:o.toNat<Tb.length:=by lia
   have e:Tb.getD o.toNat 0=Tb[o.toNat]:=by rw[List.getD,To d];rfl
   have B:=X.mo _<|T0 d;have sb:=gb B.1 B.2;exists ixI (C _ _ X.hA) #[4] #[4] ?_;symm;rw[e];show(_,rfl,by lia,λS H6 G hS eS=>?_);symm;have ab:(sgL Tb[o.toNat]).length<=6:=TU (Hl _) sb.1;show(F,S,M,_,o,_,rfl,L.same G,eS,?_,by lia,λf W=>by have:=(tq X.mo _ _ t f W).1;lia,λl ae H7 s7 hl x7=>?_)
   . rw[CD];have h1:=Io i P
     have e2:(sgAt Tb<|(othL cs z).take i).foldl (λp m=>p*(sgL m).length) ([setL (List.replicate Tb.length 0) z s]:List ∅).length=prodW ((sgAt Tb<|othL cs z).take i):=by
      unfold prodW sgAt;rw[VC];rfl
     rw[e2];have h3:prodW ((sgAt Tb<|othL cs z).take i)*(sgL Tb[o.toNat]).length<=32*6:=Vg #[4] ab;lia
   . show(l,ae,_,rfl,(C.trans G).trans s7,?_)
     have e3:wfold Tb ((othL cs z).take<|i+1) [setL (List.replicate Tb.length 0) z s]=extS (wfold Tb ((othL cs z).take i) [setL (List.replicate Tb.length 0) z s]) o (sgL Tb[o.toNat]):=by
      unfold wfold;rw[zR _ _ O,e]
     rw[e3];show x7
 . rintro σ H5 ⟨F,M,v8,rfl,C,L⟩;rw[Ut (by rw[Tn];show TQ _)]at L;show Ip (X.same C) L (tq X.mo _ _ t) λu s'=>q u (C.trans s')
def zS:R "rule masks cell sign more rest some fillings other filling" lr lu K c:=by
 obtain⟨k,r,p,A,M,y,cs,Tb,ms,n,m,z,s,h,w,g,rfl,B,W,F,d,Z,mk,s0,P,J,Y,q⟩:=h;have X:Wys H c k r p A y cs Tb n m h w g:=(B,W,F,d,Z,mk,J);have u:cs.length<=63:=by have:=d.1;lia
 exists lu;show(k,r,p,y,cs,n,m,z,rfl,B,u,λR U s1 ab L=>?_);have f:U R=↥((othL cs z).map V.int):=L;exists(A,R,Tb,othL cs z,rfl,s1 _ _ J,f,(TU (Ue _ _) d.1,λx j=>d.2 x (TM.mp j).1),λS C I hS G=>?_);have l:=s1.trans I;dsimp only;rw[aA];exists(lnR rfl,λe N=>?_);obtain⟨H3,z9,s3,ee⟩:∃ z,upd C e (.lst [])=z/\Same C z/\z e=↥(([]:∅).map V.int):=bp _ N;rw[z9];have b:=l.trans s3;show zi (b _ _ Y) ee ?_;show(_,rfl,?_);unfold waysB at q;by_cases v:ms=[]
 . rw[Tp v]at q ⊢;rw[Uj]at q;show iteF ?_;exists(S,_,rfl,s3 _ _ G,λx j=>?_,λH4 t=>?_)
   . unfold sgAt at j;obtain⟨o,T,rfl⟩:=Tz.mp j;have hi:=d.2 o (TM.mp T).1;have i:o.toNat<Tb.length:=by lia
     have e:Tb.getD o.toNat 0=Tb[o.toNat]:=by rw[List.getD,To i];rfl
     rw[e];have D:=mk _<|T0 i;have:=(gb D.1 D.2).1;lia
   . have a:=b.trans t;symm;by_cases hw:prodW (sgAt Tb<|othL cs z)<=32
     . rw[Tp hw,Uj]at q;rw[Tq #[4]];show iteF ?_;rw[aA];exists(S,_,rfl,(s3.trans t) _ _ G,?_);show(_,rfl,?_);by_cases h0:0∈sgAt Tb (othL cs z)
       . rw[Tp h0]at q ⊢;rw[VM]at q;show iteT (q _ a)
       . rw[Tq h0]at q ⊢;rw[UH]at q;show iteF ?_;show Iq (X.same a) (((I.trans s3).trans t) _ _ f) s0 P hw h0 λH' O=>q H' (a.trans O)
     . rw[Tq hw,Uk]at q;rw[Tp #[4]];show iteT (q _ a)
 . rw[Tq v,Uk]at q;rw[Tq v];show iteT (q _ b)
def  lw(g:Int)(t:TK)(x:RR)(Tb:∅)(z s:Int)(ms:∅):Bool:=match t with
 | .only=>onlyB x.cs Tb z s ms
 | .place=>kY g x.cs Tb z s ms
 | _=>pairB x.cs Tb z s ms
def  dD(g:Int)(Td:List RR)(cl Tb:∅)(t:TK)(r z s:Int)(ms:∅):Bool:=match t with
 | .clue=>clueB cl z s ms
 | _=>match Td[r.toNat]? with
  | none=>false
  | some x=>lw g t x Tb z s ms
abbrev K28(t:TK):Prop:=t=.clue\/t=.only\/t=.place\/t=.pair
def DL{α:Type}{f:Int->α}(g:(cs.map f).Nodup){a b:Int}(j:a∈cs)(i:b∈cs)(m:a≠b):f a≠f b:=by
 induction cs with
 | nil=>cases j
 | cons x r l=>
  rw[T7,UB]at g;rcases TN.mp j with k | d
  . rcases TN.mp i with h | c
    . show absurd (k.trans h.symm) m
    . rw[k];show λe=>g.1 (Tz.mpr (b,c,e.symm))
  . rcases TN.mp i with h | c
    . rw[h];show λe=>g.1 (Tz.mpr (a,d,e))
    . show l g.2 d c
def M8:((List.range 64).all λm=>(List.range 6).all λj=>(List.range 6).all λi=>!(decide (woI (m:Int) (1+(j:Int))=0)&&stB (m:Int) (1+(i:Int)))||decide (i=j))=true:=by decide+kernel
def J6{s:Int}(c:0<=m)(f:m<64)(s0:1<=s)(b:s<=6)(d:1<=x)(e:x<=6)(h1:woI m s=0)(h2:stB m x=true):x=s:=by
 have t:=Ty.mp (Ty.mp (Ty.mp M8 m.toNat<|TC.mpr #[4]) (s-1).toNat<|TC.mpr #[4]) (x-1).toNat<|TC.mpr #[4];have e1:((m.toNat:Nat):Int)=m:=by lia
 have e2:1+(((s-1).toNat:Nat):Int)=s:=by lia
 have a:1+(((x-1).toNat:Nat):Int)=x:=by lia
 rw[e1,e2,a,Tp h1,h2]at t;simp at t;lia
variable{a:Int}
def  EM{b:Int}(d:0<=a)(c:0<=b):Builtin.bitOr a b=((a.toNat||| b.toNat:Nat):Int):=JX d c
def Ls:((List.range 64).all λm=>(List.range 6).all λi=>decide (stB (m:Int) (1+(i:Int))=Nat.testBit m i)&&decide (decide (1+(i:Int)∈sgL (m:Int))=Nat.testBit m i))=true:=by decide+kernel
def iQ(a:0<=m)(c:m<64)(d:1<=x)(b:x<=6):stB m x=m.toNat.testBit (x-1).toNat/\decide (x∈sgL m)=m.toNat.testBit (x-1).toNat:=by
 have t:=Ty.mp (Ty.mp Ls m.toNat<|TC.mpr #[4]) (x-1).toNat<|TC.mpr #[4];rw[Tx,Tt,Tt,show((m.toNat:Nat):Int)=m by lia,show 1+(((x-1).toNat:Nat):Int)=x by lia]at t;show t
def Hn{b:Int}(f:0<=a)(i:a<64)(e:0<=b)(g:b<64)(c:1<=x)(d:x<=6)(h:stB a x=true\/stB b x=true):x∈sgL (Builtin.bitOr a b):=by
 have l:a.toNat||| b.toNat<2^6:=Nat.or_lt_two_pow #[4] #[4];have o:=(iQ (m:=((a.toNat||| b.toNat:Nat):Int)) #[4] #[4] c d).2;rw[(iQ f i c d).1,(iQ e g c d).1]at h;rw[EM f e];show TF<|o.trans ?_;rw[Ui,Nat.testBit_or,Uw];show h
def M9{b:Int}(c:a∈xs)(d:b∈xs)(e:a≠b):2<=xs.length:=by
 match xs,c,d with
 | [x],c,d=>show absurd ((TH.mp c).trans (TH.mp d).symm) e
 | x::y::r,_,_=>simp
def OA{vs:∅}(f:vs.Nodup)(i:∀ v∈vs,1<=v/\v<=g)(l:(vs.length:Int)=g)(j:1<=x)(e:x<=g):x∈vs:=by
 show Decidable.byContradiction λh=>?_;have d:(x::vs).Nodup:=UB.mpr (h,f)
 have c:∀ v∈x::vs,v∈(List.range g.toNat).map λ(k:Nat)=>1+(k:Int):=λv a=>by
  have b:1<=v/\v<=g:=by
   rcases TN.mp a with rfl | a
   . show(j,e)
   . show i v a
  show Tz.mpr ((v-1).toNat,TC.mpr #[4],by lia)
 have:=kI d c;rw[T8,Tn,UG]at this;lia
def RR.len26{r:RR}(O:r.Ok h w g)(F:FlOk h w g):r.cs.length<=60:=by
 have b:=F.m
 cases a:allK r.k with
 | false=>
  obtain⟨c,i,d,f,e⟩:=O.cl.told a;rw[e,Tn];lia
 | true=>
  obtain⟨_,e⟩:=O.cl.all a;rw[e,jH];lia
def  mayN(Tb:∅)(m:Int)(cs:∅):Nat:=((sgAt Tb cs).filter λk=>stB k m).length
def  onlN(Tb:∅)(m:Int)(cs:∅):Nat:=((sgAt Tb cs).filter λk=>decide<|woI k m=0).length
def Lu(t:TK):decide (tkC t=s!"reach")=decide (t=.reach):=by cases t <;> decide
abbrev OB(t:TK):Prop:=t=.square\/t=.reach\/t=.turn
abbrev K30(t:TK):Prop:=K28 t\/OB t
structure Sub30(a b:Int):Prop where
 a0:0<=a
 a1:a<64
 b0:0<=b
 b1:b<64
 st:∀ s,stB a s=true->stB b s=true
def OC:((List.range 64).all λm=>(List.range 6).all λs=>decide (decide (woI (m:Int) (1+(s:Int))=0)=(List.range 6).all λj=>!stB (m:Int) (1+(j:Int))||decide (j=s)))=true:=by decide+kernel
def J7{s:Int}(d:0<=m)(e:m<64)(s0:1<=s)(c:s<=6):woI m s=0↔∀ j:Nat,j<6->stB m (1+(j:Int))=true->j=(s-1).toNat:=by
 have t:=TF<|Ty.mp (Ty.mp OC m.toNat<|TC.mpr #[4]) (s-1).toNat<|TC.mpr #[4];rw[show((m.toNat:Nat):Int)=m by lia,show 1+(((s-1).toNat:Nat):Int)=s by lia]at t;rw[← VP (p:=woI m s=0),t,Ty];constructor
 . intro h j a b;have:=h j<|TC.mpr a;rw[b]at this
   simpa using this
 . intro h j a
   cases b:stB m (1+(j:Int)) with
   | false=>rfl
   | true=>simpa using h j (TC.mp a) b
def  Sub30.wo{b s:Int}(X:Sub30 a b)(s0:1<=s)(c:s<=6)(h:woI b s=0):woI a s=0:=
 (J7 X.a0 X.a1 s0 c).mpr λj d e=>(J7 X.b0 X.b1 s0 c).mp h j d (X.st _ e)
def tu{f g:Int->Int}{p q:Int->Bool}:∀{cs:∅},(∀ c∈cs,p (f c)=true->q (g c)=true)->((cs.map f).filter p).length<=((cs.map g).filter q).length
 | [],_=>TQ _
 | c::r,h=>by
  have d:=tu (cs:=r) λx e=>h x<|TD _ e;have a:=h c TR;rw[T7,T7,Um,Um]
  cases b:p (f c) with
  | false=>
   rw[TX TB]
   split
   . rw[T8];lia
   . show d
  | true=>
   rw[TZ rfl,TZ<|a b,T8,T8];lia
abbrev gc(Tb a:∅):Prop:=∀ k:Nat,Sub30 (a.getD k 0) (Tb.getD k 0)
def J8{a:∅}{s:Int}(X:gc Tb a)(s0:1<=s)(b:s<=6)(h:onlyB cs Tb z s ms=true):onlyB cs a z s ms=true:=by
 unfold onlyB at h ⊢;rw[Tx,Tx]at h ⊢;show(h.1,h.2.1,Tp<|(X _).wo s0 b<|TF h.2.2)
def Ir{a:∅}{s:Int}(X:gc Tb a)(h:kY g cs Tb z s ms=true):kY g cs a z s ms=true:=by
 unfold kY sgAt at h ⊢;simp only[Tx]at h ⊢;show(h.1,h.2.1,h.2.2.1,h.2.2.2.1,Tp ?_);have:=TF h.2.2.2.2;have m:=tu (f:=λc=>a.getD c.toNat 0) (g:=λc=>Tb.getD c.toNat 0) (p:=λm=>stB m<|ms.getD 0 0) (q:=λm=>stB m<|ms.getD 0 0) (cs:=cs.filter λx=>!decide (x=z)) λc _ b=>(X _).st _ b;lia
def bg(e:0<=m)(x:Int):x∈sgL m↔stB m x=true:=by
 unfold sgL;rw[Tz];constructor
 . rintro⟨i,d,rfl⟩;show(TM.mp d).2
 . intro h;have c:=h;unfold stB at c;rw[Tx,Tx]at c;have a:=TF c.1;have b:=TF c.2.1;show((x-1).toNat,TM.mpr (TC.mpr #[4],?_),by lia);rw[show 1+(((x-1).toNat:Nat):Int)=x by lia];show h
def EN{f:Nat->Int}(c:∀ a b,f a=f b->a=b):∀{xs:List Nat},xs.Nodup->(xs.map f).Nodup
 | [],_=>VW
 | x::r,h=>by
  rw[UB]at h;rw[T7,UB];show(λg=>?_,EN c h.2);obtain⟨y,d,e⟩:=Tz.mp g;show h.1 (c _ _ e ▸ d)
def jw(m:Int):(sgL m).Nodup:=by
 unfold sgL;show EN (f:=λ(i:Nat)=>1+(i:Int)) (λa b e=>by have c:(1:Int)+(a:Int)=1+(b:Int):=e;lia) (List.Nodup.sublist WG Xl)
def yB:((List.range 64).all λm=>decide<|Builtin.Int.intBits (m:Int)<=6)=true:=by decide+kernel
def st6(c:0<=m)(d:m<64)(h:stB m x=true):1<=x/\x<=6:=by
 have t:=TF<|Ty.mp yB m.toNat<|TC.mpr #[4];rw[show((m.toNat:Nat):Int)=m by lia]at t;unfold stB at h;rw[Tx,Tx]at h;have a:=TF h.1;have b:=TF h.2.1;lia
def DM{b:Int}(f:0<=a)(h:a<64)(c:0<=b)(g:b<64)(d:1<=x)(e:x<=6):stB (Builtin.bitOr a b) x=(stB a x||stB b x):=by
 have o:=zH f h c g;rw[(iQ o.1 o.2 d e).1,(iQ f h d e).1,(iQ c g d e).1,EM f c,Ui,Nat.testBit_or]
def J9{c:∅}{s:Int}(X:gc Tb c)(h:pairB cs Tb z s ms=true):pairB cs c z s ms=true:=by
 unfold pairB orM at h ⊢;rw[Tx]at h ⊢;show(h.1,Tp ?_);have h2:=TF h.2;have A:=X (ms.getD 0 0).toNat;have B:=X (ms.getD 1 0).toNat;generalize c.getD (ms.getD 0 0).toNat 0=a at*;generalize c.getD (ms.getD 1 0).toNat 0=b at*;generalize Tb.getD (ms.getD 0 0).toNat 0=a' at*;generalize Tb.getD (ms.getD 1 0).toNat 0=b' at*;have o:=zH A.a0 A.a1 B.a0 B.a1;have g:=zH A.b0 A.b1 B.b0 B.b1
 have i:=kI (xs:=(sgL<|Builtin.bitOr a b).filter λx=>!decide (x=s)) (ys:=(sgL<|Builtin.bitOr a' b').filter λx=>!decide (x=s)) (List.Nodup.sublist WG<|jw _) λx f=>by
  rw[TM]at f ⊢;show(?_,f.2);have d:=(bg o.1 x).mp f.1;have e:=st6 o.1 o.2 d;rw[DM A.a0 A.a1 B.a0 B.a1 e.1 e.2,Uw]at d;show(bg g.1 x).mpr ?_;rw[DM A.b0 A.b1 B.b0 B.b1 e.1 e.2,Uw];rcases d with d | d
  . show .inl (A.st _ d)
  . show .inr (B.st _ d)
 lia
variable{t:TK}
def OD{cl a:∅}{r s:Int}(R:bY c h w g Td)(X:gc Tb a)(d:K28 t)(f:formB h w g Td t r z s=true)(q:dD g Td cl Tb t r z s ms=true):dD g Td cl a t r z s ms=true:=by
 obtain⟨o,n,s0,s1,i⟩:=dz f;have l:=R.F.g1;by_cases b:t=.clue
 . subst b;show q
 . obtain⟨r0,y,k,j,m⟩:=iX b i
   have e:∀ mk:∅,dD g Td cl mk t r z s ms=lw g t y mk z s ms:=λmk=>by
    unfold dD;cases t <;> first | show absurd rfl b | (dsimp only;rw[k])
   rw[e]at q ⊢;rcases d with rfl | rfl | rfl | rfl
   . show absurd rfl b
   . show J8 X s0 #[4] q
   . show Ir X q
   . show J9 X q
def Iu{k:RK}{m:Nat}{ns:List Nat}(F:FlOk h w g)(q:ns≠[])(b:∀ c∈ns,(c:Int)<h*w)(d:ns.Nodup)(a:ns.length<=16)(o:allK k=false)(k0:k≠.Rule)(r:n<=99)(l:numK k=false->n=0)(i:sgnK k=true->1<=(m:Int)/\(m:Int)<=g)(f:sgnK k=false->m=0):
  RR.Ok (k,n,m,ns,ns.map λ(n:Nat)=>(n:Int)) h w g:=by
 have p:=F.m;show(k0,r,l,i,f,(λ_=>(q,a,b,d,rfl),λe=>?_),λx j=>?_,a)
 . rw[show allK k=false from o]at e;cases e
 . have:=b x j;lia
def  dTh(t:TK)(r z s:Int)(ms:∅):PyData:=.tuple [.str<|tx<|tkC t,.int r,.int z,.int s,.list<|ms.map PyData.int]
def  Iv{T M:Addr}{r s:Int}(x:IsTh H T M t r z s ms):DV K H (.ref T) (dTh t r z s ms):=
 .tup (XR x.T) (.cons (.str _)<|.cons (.int _)<|.cons (.int _)<|.cons (.int _)<|.cons (.lst (TW x.M)<|.ints ms) .nil)
def Na(t:TK):decide (tkC t=s!"pair")=decide (t=.pair):=by cases t <;> decide
def Nb(t:TK):decide (tkC t=s!"turn")=decide (t=.turn):=by cases t <;> decide
def  K39(t:TK):Prop:=t=.count\/t=.sum\/t=.step\/t=.ways
def  lx (h w:Int) (x:RR) (Tb:∅) (t:TK) (z s:Int) (ms:∅):Bool:=match t with
 | .count=>cntB x.cs x.n x.m Tb z s ms
 | .sum=>sumB x.cs x.n Tb z s ms
 | .step=>stepB x.cs Tb z s ms
 | _=>waysB x.k h w x.cs x.n x.m Tb z s ms
def  dg (h w:Int) (Td:List RR) (Tb:∅) (t:TK) (r z s:Int) (ms:∅):Bool:=match Td[r.toNat]? with
  | none=>false
  | some x=>lx h w x Tb t z s ms
def  PC(a:K39 t):t≠.clue:=by rcases a with rfl | rfl | rfl | rfl <;> decide
def gh:f:=#[3,∃ P L G A T M h w g Td cl Tb t r z s ms,vs=[.ref P,.ref A,.ref T]/\Asks H c d P L G A T M h w g Td cl Tb t r z s ms/\(t=.count\/t=.sum\/t=.ways)/\(∀ m∈Tb,0<=m/\m<64)/\formB h w g Td t r z s=true/\∀ a,Same H a->Q (.bl<|dg h w Td Tb t r z s ms) a]
def gi:c:=#[":gldkBmU~v~wbjm0cdk2ef#1 h#3 gnpdsbdk2ef#0 evw`0i,{Fbja3a1adk2ef#2 adk2ef#3 adk2ef#4 cognpdsbdk2ef#0 evw`1i,{Gbja3a1adk2ef#2 adk2ef#3 adk2ef#4 coi,{Hbja3a1adk2ef#2 adk2ef#3 adk2ef#4 c",s!"count",s!"sum"]
def rd:R "puzzle masks thought rule" gh gi K c d:=by
 obtain⟨P,L,G,A,T,M,h,w,g,Td,cl,Tb,t,r,z,s,ms,rfl,X,C,D,f,q⟩:=h;obtain⟨dx,p,rs,h1,h2,h3⟩:=X.P.ex;obtain⟨z0,z1,s0,S,U⟩:=dz f;have hg:=X.P.R.F.g1;have W:=X.P.R.F.m;obtain⟨r0,y,i,J,hz⟩:=iX (by rcases C with rfl | rfl | rfl <;> decide) U;have O:=X.P.R.ok y<|Tv i;have e:a8 y.cs Tb.length:=by rw[X.n];show WU O X.P.R.F
 ac_nf;unfold gi;rw[aC,cO,gf];show methE (k:=.Puzzle) rfl X.P.ok h1 (by rfl) ?_;exists(P,L,G,h,w,g,Td,cl,rfl,X.P,λl u b N x Y=>?_);have a:Same H (upd H l<|.lst<|b.map V.ref):=(Tu H).laid N;generalize upd H l (.lst<|b.map V.ref)=H1 at*;have Z:=(Tr.mp i).1;have Tk:=Y.len;have j:b[r.toNat]? =some b[r.toNat]:=To #[4]
 have fin:∀ o,Same H1 o->Q (.bl<|lx h w y Tb t z s ms) o:=λo I=>by
  have B:=q o<|a.trans I;unfold dg at B;rw[i]at B;show B
 dsimp only;show ixT (a _ _ X.T.T) (v:=V.int r) rfl ?_;show ixL Y.top (lU r0 j) ?_;symm;rw[aA];exists ixT (a _ _ X.T.T) (v:=V.str (tx<|tkC t)) rfl ?_;symm;rw[bN,Ll];rcases C with rfl | rfl | rfl
 . rw[Tp rfl];show iteT ?_;exists ixT (a _ _ X.T.T) (v:=V.int z) rfl ?_;exists ixT (a _ _ X.T.T) (v:=V.int s) rfl ?_;exists ixT (a _ _ X.T.T) (v:=V.ref M) rfl ?_;exists(_,_,u,A,M,_,y.cs,Tb,ms,_,_,z,s,rfl,Y.at_ _ _ _ j i,e,a _ _ X.A,a _ _ X.T.M,by lia,fin)
 . rw[Tq #[1]];show iteF ?_;rw[aA];exists ixT (a _ _ X.T.T) (v:=V.str (tx<|tkC .sum)) rfl ?_;symm;rw[bN,J1,Tp rfl];show iteT ?_;exists ixT (a _ _ X.T.T) (v:=V.int z) rfl ?_;exists ixT (a _ _ X.T.T) (v:=V.int s) rfl ?_;exists ixT (a _ _ X.T.T) (v:=V.ref M) rfl ?_;exists(_,_,u,A,M,_,y.cs,Tb,ms,_,_,z,s,rfl,Y.at_ _ _ _ j i,e,D,a _ _ X.A,a _ _ X.T.M,fin)
 . rw[Tq #[1]];show iteF ?_;rw[aA];exists ixT (a _ _ X.T.T) (v:=V.str (tx<|tkC .ways)) rfl ?_;symm;rw[bN,J1,Tq #[1]];show iteF ?_;exists ixT (a _ _ X.T.T) (v:=V.int z) rfl ?_;exists ixT (a _ _ X.T.T) (v:=V.int s) rfl ?_;exists ixT (a _ _ X.T.T) (v:=V.ref M) rfl ?_;exists(_,_,u,A,M,_,y.cs,Tb,ms,_,_,z,s,h,w,g,rfl,Y.at_ _ _ _ j i,x,X.P.R.F,e,by rw[X.n];lia,D,by lia,by lia,a _ _ X.A,a _ _ X.T.M,fin)
def  OE(x:RR)(t:TK)(z:Int):∅:=match t with
 | .step=>ahdL x.cs z++behL x.cs z
 | _=>othL x.cs z
def  strA (h w g:Int) (Td:List RR) (cl Tb:∅) (t:TK) (r z s:Int) (ms:∅):Bool:=
 if lineK t then(if t=.step then dg h w Td Tb t r z s ms else dD g Td cl Tb t r z s ms) else if nbrK t then dg h w Td Tb t r z s ms else false
def iw:f:=#[3,∃ P L G A T M h w g Td cl Tb t r z s ms,vs=[.ref P,.ref A,.ref T]/\Asks H c d P L G A T M h w g Td cl Tb t r z s ms/\lineK t=true/\(∀ m∈Tb,0<=m/\m<64)/\formB h w g Td t r z s=true/\∀ a,Same H a->Q (.bl<|strA h w g Td cl Tb t r z s ms) a]
def iy:c:=#[":gldk2ef#0 h#3 gldk2ef#2 h#4 gldk2ef#3 h#5 gldk2ef#4 h#6 gnpdsb3evw`0i,{IbaBmU{J{Kbjm0ca4a5a6cogldkBmU~v~wbjm0cdk2ef#1 h#7 gnpdsb3evw`1i,{Lbja7a1a4a5a6cognpdsb3evw`2i,{MbjaBmU~x~ybjm0ca7a1a4a5a6cognpdsb3evw`3i,{Nbja7a1a4a5a6coi,{Obja7a1a4a5a6c",s!"clue",s!"only",s!"place",s!"step"]
def um:R "puzzle masks thought kind cell sign more rule" iw iy K c d:=by
 obtain⟨P,L,G,A,T,M,h,w,g,Td,cl,Tb,t,r,z,s,ms,rfl,X,N,mm,f,q⟩:=h;obtain⟨dx,p,rs,h1,h2,h3⟩:=X.P.ex;obtain⟨z0,z1,s0,ab,Tm⟩:=dz f;have ae:=X.P.C.len;have hg:=X.P.R.F.g1;unfold strA at q;rw[N,TZ rfl]at q;exists iy;show ixT X.T.T (v:=V.str (tx<|tkC t)) rfl ?_;exists ixT X.T.T (v:=V.int z) rfl ?_;exists ixT X.T.T (v:=V.int s) rfl ?_;exists ixT X.T.T (v:=V.ref M) rfl ?_;symm;rw[aA];symm;rw[bN,wg];by_cases x:t=.clue
 . subst x;rw[TX #[1]]at q;rw[Tp rfl];show iteT ?_;show methE (k:=.Puzzle) rfl X.P.ok h1 (by rfl) ?_;exists(P,L,G,h,w,g,Td,cl,rfl,X.P,λl Z=>?_);have a:Same H (upd H l<|.lst<|cl.map V.int):=(Tu H).laid Z;show(l,M,z,s,cl,ms,rfl,ah,z0,by lia,a _ _ X.T.M,λb i=>q b<|a.trans i)
 . rw[Tq x];obtain⟨r0,y,o,_,hz⟩:=iX x Tm
   have q2:t≠.step->∀ b,Same H b->Q (.bl<|lw g t y Tb z s ms) b:=λhn b s'=>by
    have u:=q b s';rw[TX hn]at u
    have e:dD g Td cl Tb t r z s ms=lw g t y Tb z s ms:=by
     unfold dD;cases t <;> first | show absurd rfl x | (dsimp only;rw[o])
    rw[e]at u;show u
   show iteF ?_;show methE (k:=.Puzzle) rfl X.P.ok h1 (by rfl) ?_;exists(P,L,G,h,w,g,Td,cl,rfl,X.P,λl S j Z af Y=>?_);have a:Same H (upd H l<|.lst<|j.map V.ref):=(Tu H).laid Z;generalize upd H l (.lst<|j.map V.ref)=H1 at*;have ag:=(Tr.mp o).1;have Tk:=Y.len;have D:j[r.toNat]? =some j[r.toNat]:=To #[4];have O:=X.P.R.ok y<|Tv o;have m:a8 y.cs Tb.length:=by rw[X.n];show WU O X.P.R.F
   dsimp only;show ixT (a _ _ X.T.T) (v:=V.int r) rfl ?_;show ixL Y.top (lU r0 D) ?_;symm;rw[aA];symm;rw[bN,Hg];by_cases I:t=.only
   . subst I;rw[Tp rfl];show iteT ?_;exists(_,_,S,A,M,_,y.cs,Tb,ms,_,_,z,s,rfl,Y.at_ _ _ _ D o,m,a _ _ X.A,a _ _ X.T.M,by lia,λb i=>q2 #[1] b (a.trans i))
   . rw[Tq I];show iteF ?_;rw[aA];symm;rw[bN,EE];by_cases J:t=.place
     . subst J;rw[Tp rfl];show iteT ?_;show methE (k:=.Puzzle) rfl X.P.ok (a _ _ h1) (by rfl) ?_;exists(P,L,G,h,w,g,Td,cl,rfl,X.P.same a,λp3 U=>?_);exists(_,p3,_,S,A,M,_,y.cs,Tb,ms,_,_,z,s,h,w,g,rfl,U,Y.at_ _ _ _ D o,m,a _ _ X.A,a _ _ X.T.M,λb i=>q2 #[1] b (a.trans i))
     . rw[Tq J];show iteF ?_;rw[aA];symm;rw[bN,M4];by_cases B:t=.step
       . subst B;rw[Tp rfl];show iteT ?_;exists(_,_,S,A,M,_,y.cs,Tb,ms,_,_,z,s,rfl,Y.at_ _ _ _ D o,m,hz,mm,a _ _ X.A,a _ _ X.T.M,λb i=>?_);have u:=q b<|a.trans i;rw[TZ rfl]at u;unfold dg at u;rw[o]at u;show u
       . rw[Tq B]
         have W:t=.pair:=by
          revert N x I J B
          cases t <;> intro N x I J B <;> first | rfl | show absurd rfl x | show absurd rfl I | show absurd rfl J | show absurd rfl B | cases N
         subst W;show iteF ?_;exists(_,_,S,A,M,_,y.cs,Tb,ms,_,_,z,s,rfl,Y.at_ _ _ _ D o,m,mm,a _ _ X.A,a _ _ X.T.M,λb i=>q2 #[1] b (a.trans i))
def mS:f:=#[3,∃ P L G A T M h w g Td cl Tb t r z s ms,vs=[.ref P,.ref A,.ref T]/\Asks H c d P L G A T M h w g Td cl Tb t r z s ms/\(∀ m∈Tb,0<=m/\m<64)/\formB h w g Td t r z s=true/\∀ a,Same H a->Q (.bl<|strA h w g Td cl Tb t r z s ms) a]
def re:c:=#[":gnq~D{PFdk2ef#0 i,{Qbjma0a1a2cognq~D{RFdk2ef#0 i,{Sbjma0a1a2coi;"]
def nbrA(h:nbrK t=true):t=.count\/t=.sum\/t=.ways:=by cases t <;> first | show .inl rfl | show .inr (.inl rfl) | show .inr (.inr rfl) | cases h
def zU{r s:Int}(R:bY c h w g Td)(f:formB h w g Td t r z s=true)(e:lineK t=false)(e2:nbrK t=false):False:=by
 obtain⟨_,_,_,_,b⟩:=dz f;obtain⟨_,y,d,a,_⟩:=iX (λz=>by subst z;cases e) b;have n:=R.nr y (Tv d)
 revert n a
 cases y.k <;> intro a n <;> first | (cases n;done) | (cases t <;> first | (cases a;done) | (cases e;done) | (cases e2;done))
def Gw:R "puzzle masks thought" mS re K c d:=by
 obtain⟨P,L,G,A,T,M,h,w,g,Td,cl,Tb,t,r,z,s,ms,rfl,X,a,f,q⟩:=h;ac_nf;unfold re;rw[aC,aA];exists ixT X.T.T (v:=V.str (tx<|tkC t)) rfl ?_;symm;rw[MY]
 cases e1:lineK t with
 | true=>
  show iteT ?_;show(P,L,G,A,T,M,h,w,g,Td,cl,Tb,t,r,z,s,ms,rfl,X,e1,a,f,q)
 | false=>
  unfold strA at q;rw[e1,TX TB]at q;show iteF ?_;rw[aA];exists ixT X.T.T (v:=V.str (tx<|tkC t)) rfl ?_;symm;rw[Ov]
  cases e2:nbrK t with
  | true=>
   rw[e2,TZ rfl]at q;show iteT ?_;show(P,L,G,A,T,M,h,w,g,Td,cl,Tb,t,r,z,s,ms,rfl,X,nbrA e2,a,f,q)
  | false=>
   show(zU X.P.R f e1 e2).elim
def  alwA (h w g:Int) (Td:List RR) (cl Tb:∅) (t:TK) (r z s:Int) (ms:∅):Bool:=formB h w g Td t r z s&&strA h w g Td cl Tb t r z s ms
def cP:f:=#[3,∃ P L G A T M h w g Td cl Tb t r z s ms,vs=[.ref P,.ref A,.ref T]/\Asks H c d P L G A T M h w g Td cl Tb t r z s ms/\(∀ m∈Tb,0<=m/\m<64)/\∀ a,Same H a->Q (.bl<|alwA h w g Td cl Tb t r z s ms) a]
def rg:c:=#[":iJ,{Tbjma0a2c,'zbjma0a1a2c"]
def Gx:R "puzzle masks thought" cP rg K c d:=by
 obtain⟨P,L,G,A,T,M,h,w,g,Td,cl,Tb,t,r,z,s,ms,rfl,X,b,q⟩:=h;exists rg;show(t,P,L,G,T,M,h,w,g,r,z,s,Td,cl,ms,rfl,X.P,X.T,λi s1=>?_);unfold alwA at q
 cases a:formB h w g Td t r z s with
 | false=>
  rw[a,Uk]at q;show(false,rfl,iteF<|q _ s1)
 | true=>
  rw[a,Uj]at q;show(true,rfl,iteT ?_);exists(P,L,G,A,T,M,h,w,g,Td,cl,Tb,t,r,z,s,ms,rfl,X.same s1,b,a,λe f=>q e<|s1.trans f)
def  tGT(K:Frag)(a:List Str):TE:=λ_ H Q=>∀ q,SqT K H q (a.map V.str)->Q (.ref q) H
section
variable{X:Cx}{pos:Pos}{x:Str}{ws:List Str}
def mT(G:GTup X.K X.mg x ws)(b:Gl X x)(a:(x==("__debug__":Str))=false:=by decide):PE X (.Name x pos) (tGT X.K ws):=by
 obtain⟨q,o,c,n,h1,h2⟩:=G.ex;intro d s σ H Q I h;show bQ (v:=V.ref q) b h1 rfl a d s σ H Q I (h q<|.inr (o,c,n,h2))
end
def  OF{K:Frag}{a:List Str}{σ:St}{H:Hp}{Q:VK}:tGT K a σ H Q=∀ q,SqT K H q (a.map V.str)->Q (.ref q) H:=rfl
def  stL(ms:∅)(c s:Int):∅:=(List.range ms.length).map λ(i:Nat)=>if (i:Int)=c then woI (ms.getD i 0) s else ms.getD i 0
def dA:d:=#[3,∃ p ms c s,vs=[.ref p,.int c,.int s]/\H p=↥(ms.map V.int)/\ms.length<=900/\s<=100000/\∀ l a,Same H a->H l=none->a l=↥((stL ms c s).map V.int)->Q (.ref l) a]
def vd:a:=#[":ix&---12 +ba0cVb#2 Ch#1 Ch#2 WDRpdsb13,'oba2a4c2"]
variable{K:Frag}{vs:List V}{H:Hp}{Q:VK}{E:XK}
def Ka:R "masks cell sign" dA vd K:=by
 obtain⟨p,ms,c,s,rfl,e,n,j,k⟩:=h;exists vd;show(p,rfl,(_,TW e),?_);show kH (xs:=ms.map V.int) (λ_=>true) (λi=>.int (if (i:Int)=c then woI (ms.getD i 0) s else ms.getD i 0)) (by rw[Tn];show n) #[1] (TW e) ?_ ?_ ?_
 . intro i x a R d s1 k1;show k1 _ (Tu _)
 . intro i x a r d t s1 k1;obtain⟨m,g,rfl⟩:=aI d;have q:=k1 _<|Tu a;rw[cC g]at q;change tIf _ _ _ [none,⇑i,⇑m,⇑c,⇑s] a r;symm;by_cases b:(i:Int)=c
   . rw[TZ b]at q;rw[Tp b];show iteT (m,s,rfl,j,q)
   . rw[TX b]at q;rw[Tq b];show iteF q
 . intro l a o s1 f;show k l a s1 o ?_;rw[f,bn,Tn];unfold stL;rw[Uq];rfl
def rfmA{α β:Type}(d:α)(b:α->Bool)(f:α->β)(xs:List α):((List.range xs.length).filter λi=>b<|xs.getD i d).map (λi=>f<|xs.getD i d)=(xs.filter b).map f:=by
 have e:xs=(List.range xs.length).map λi=>xs.getD i d:=by
  show Xn (by simp) λi h1 h2=>?_;simp[List.getD,To h1]
 conv=>rhs;rw[e,Vw,Uq]
 rfl
def  LLp(Q:VK)(H:Hp)(Ti:List ∅):Prop:=∀(l:Addr) (as:List Addr) (b:Hp),Same H b->H l=none->(∀ a∈as,H a=none)->IsLL b l as Ti->Q (.ref l) b
variable{H1:Hp}
def  LLp.of{Ti:List ∅}(q:LLp Q H Ti)(s:Same H H1):LLp Q H1 Ti:=λl as d e c b x=>q l as d (s.trans e) (s.free c) (λa h=>s.free<|b a h) x
variable{a:Addr}{fin:Addr->Hp->Prop}{xs:∅}
def Kb {k:Nat} {h:St} {m:TT} {te:TE} (b:Int->Bool) (f:Int->∅) (s:xs.length<=900) (t:SqL K H1 a (xs.map V.int))
  (o:∀ x H R,x∈xs->Same H1 H->(∀ c,Same H c->R (b x) c)->m (h.set k ⇑x) H R)
  (p:∀ x H Q,x∈xs->b x=true->Same H1 H->(∀ a c,Same H c->H a=none->c a=↥((f x).map V.int)->Q (.ref a) c)->te (h.set k ⇑x) H Q)
  (r:LLp (λv H=>∀ l,v=.ref l->fin l H) H1 ((xs.filter b).map f)):CompR (Itl K a) (gName k) m te fin h H1:=by
 show oJ (xs:=xs.map V.int) (λi=>b<|xs.getD i 0) (λi=>.lst<|(f<|xs.getD i 0).map V.int) (by rw[Tn];show s) t ?_ ?_ ?_
 . intro i x H R g s1 k1;obtain⟨y,d,rfl⟩:=aI g;rw[cC d]at k1;show o y H R (Tv d) s1 k1
 . intro i x H Q g j s1 k1;obtain⟨y,d,rfl⟩:=aI g;rw[cC d]at k1 j;show p y H Q (Tv d) j s1 k1
 . intro l as H q s1 n N;rw[Tn]at N
   have e:((List.range xs.length).filter λi=>b<|xs.getD i 0).map (λi=>HO.lst<|(f<|xs.getD i 0).map V.int)=((xs.filter b).map f).map λu=>.lst (u.map V.int):=by
    rw[rfmA 0 b (λx=>HO.lst<|(f x).map V.int) xs,Uq];rfl
   rw[e]at N;show r l as H s1 q N.fr (N.ll n) l rfl
variable{x:Int}
def  Mc(q:∀ a b,Same H b->H a=none->b a=↥(([x]:∅).map V.int)->Q (.ref a) b):([V.int x]:List V).length<=sizeLine/\∀ p,H p=none->Q (.ref p) (upd H p<|.lst [V.int x]):=
 (lnR rfl,λp c=>q p _ ((Tu H).laid c) c ah)
def  srtI(xs:∅):∅:=xs.mergeSort (λa b=>decide<|a<=b)
def Ho:∀{xs ys:∅},xs.Perm ys->xs.Pairwise (· <=·)->ys.Pairwise (· <=·)->xs=ys
 | [],ys,p,_,_=>(List.nil_perm.mp p).symm ▸ rfl
 | x::r,[],p,_,_=>absurd p (by simp)
 | x::r,y::t,p,h1,h2=>by
  rw[List.pairwise_cons]at h1 h2
  have e:x=y:=by
   rcases TN.mp (p.mem_iff.mp TR) with e | d
   . show e
   . rcases TN.mp (p.mem_iff.mpr TR) with e | c
     . show e.symm
     . have a:=h2.1 x d;have b:=h1.1 y c;lia
  subst e;rw[Ho (List.Perm.cons_inv p) h1.2 h2.2]
def OG{ns:∅}(p:ns.Perm xs)(h:ns.Pairwise (· <=·)):ns=srtI xs:=by
 show Ho (p.trans (WI xs _).symm) h ?_;have:=List.pairwise_mergeSort (le:=λa b:Int=>decide<|a<=b) (λa b c h1 h2=>by simp at h1 h2 ⊢;lia) (λa b=>by simp;lia) xs;show this.imp λh=>TF h
def  srt_mem:x∈srtI xs↔x∈xs:=(WI xs _).mem_iff
def  wk:(srtI xs).length=xs.length:=(WI xs _).length_eq
def  EO{p:Addr}{ns:∅}(e:H p=↥(ns.map V.int))(c:ns.length<64)(h:∀ l,H l=none->Q (.ref l) (upd H l<|.lst<|(srtI ns).map V.int)):ke [.ref p] H Q:=
 K9 e c λa l d b f=>by rw[OG b f];show h l d
abbrev othA(cs:∅)(z:Int):∅:=cs.filter λx=>!decide (x=z)
def  onlM(cs Tb:∅)(z s:Int):List ∅:=((srtI<|othA cs z).filter λo=>decide<|woI (Tb.getD o.toNat 0) s=0).map λo=>[o]
def nR:e:=#[3,∃ k r p A a cs Tb n m z s,vs=[.ref r,.ref A,.int z,.int s]/\IsRule H c k r p a cs n m/\a8 cs Tb.length/\H A=↥(Tb.map V.int)/\s<=1000/\LLp Q H (onlM cs Tb z s)]
def nU:b:=#[":ix&--13 ubr~^a,~qbja0a2cch#1 q,~[badk21a3cta1c"]
variable{c:XZ}
def Db:R "rule masks cell sign" nR nU K c:=by
 obtain⟨k,r,p,A,u,cs,Tb,n,m,z,s,rfl,x,d,M,P,q⟩:=h;have O:(othA cs z).length<=cs.length:=Ue _ _;have F:=d.1;exists nU;show(k,r,p,u,cs,n,m,z,rfl,x,F,λl H1 s1 t D=>?_);show EO (ns:=othA cs z) D #[4] λC g=>?_;obtain⟨S,w,J,e2⟩:=bp (.lst<|(srtI<|othA cs z).map V.int) g;rw[w];have b:=s1.trans J;show(C,rfl,(_,TW e2),?_);show Kb (xs:=srtI (othA cs z)) (λo=>decide<|woI (Tb.getD o.toNat 0) s=0) (λo=>[o]) (by rw[wk];lia) (TW e2) ?_ ?_ ?_
 . intro y f R j i k3;have L:=d.2 y (TM.mp<|srt_mem.mp j).1;change tB _ [none,⇑y,↑A,⇑s] f R;exists ixI ((b.trans i) _ _ M) L.1 #[4] ?_;exists(_,s,rfl,by lia,_,rfl,k3 _<|Tu _)
 . intro y f v j T i k3;change tLst _ [none,⇑y,↑A,⇑s] f v;exists Mc k3
 . show λl as N B t I G U e=>by cases e;show q l as N (b.trans B) (b.free t) (λa h=>b.free<|I a h) G
def  plaM(g s:Int):List ∅:=((rngL 1<|g+1).filter λo=>!decide (o=s)).map λo=>[o]
def l9:d:=#[3,∃ p h w g s,vs=[.ref p,.int s]/\IsFl H p h w g/\1<=g/\g<=6/\LLp Q H (plaM g s)]
def ma:a:=#[":ix&--1 ~:aef#1 adAdk0ef#2 ef#1 ch#1 pdHb12ta1c"]
def Bq:R "floor sign" l9 ma K:=by
 obtain⟨p,h,w,g,s,rfl,c,n,o,q⟩:=h;exists ma;show ixT c (v:=V.int g) rfl ?_;exists(1,g+1,rfl,(by lia,by lia,by lia,by lia),?_);show Gi (λi=>!decide (1+(i:Int)=s)) (λi=>.lst<|([1+(i:Int)]:∅).map V.int) #[4] ?_ ?_ ?_
 . intro i a R f b k2;change tTest _ [none,⇑(1+(i:Int)),⇑s] a R;exists k2 _ (Tu _)
 . intro i a j f _ b k2;change tLst _ [none,⇑(1+(i:Int)),⇑s] a j;exists Mc k2
 . intro l as a k b d N
   have e:((List.range (g+1-1).toNat).filter λ(i:Nat)=>!decide (1+(i:Int)=s)).map (λ(i:Nat)=>HO.lst<|([1+(i:Int)]:∅).map V.int)=(plaM g s).map λm=>.lst (m.map V.int):=by
    unfold plaM rngL;rw[Vw,Uq,Uq];rfl
   rw[e]at N;show q l as a b k N.fr (N.ll d)
def  PD{y:Int}(q:∀ a b,Same H b->H a=none->b a=↥(([x,y]:∅).map V.int)->Q (.ref a) b):([V.int x,V.int y]:List V).length<=sizeLine/\∀ p,H p=none->Q (.ref p) (upd H p<|.lst [V.int x,V.int y]):=
 (lnR rfl,λp c=>q p _ ((Tu H).laid c) c ah)
def  fewA(cs Tb:∅)(z:Int):∅:=(srtI<|othA cs z).filter λo=>decide (((sgL<|Tb.getD o.toNat 0).length:Int)<=2)
def  paiR(cs few:∅)(a:Int):List ∅:=(few.filter λb=>decide<|((cs.findIdx (· ==a):Nat):Int) < ((cs.findIdx (· ==b):Nat):Int)).map λb=>[a,b]
def  paiM(cs Tb:∅)(z:Int):List ∅:=(fewA cs Tb z).flatMap (paiR cs<|fewA cs Tb z)
def nV:e:=#[3,∃ k r p A a cs Tb n m z,vs=[.ref r,.ref A,.int z]/\IsRule H c k r p a cs n m/\a8 cs Tb.length/\cs.length<=16/\H A=↥(Tb.map V.int)/\(∀ m∈Tb,0<=m/\m<64)/\LLp Q H (paiM cs Tb z)]
def jY:b:=#[":gltch#5 gGub4h#6 *ObK~U5ax&--63 ub4h#1 pd<ObK~Fb3a2cObK~Fb3a1cta2a1cci5"]
def nX:b:=#[":glBjP~t~ubj0ch#3 g'i#4 &--1 ubr~^a,~qbja0a2cch#1 pd(rza,Qbadk21ccef#2 1{Ubj"]
def bitsA{m:Int}(a:0<=m)(b:m<64):Builtin.Int.intBits m<=900:=by
 have t:=TF<|Ty.mp yB m.toNat<|TC.mpr #[4];rw[show((m.toNat:Nat):Int)=m by lia]at t;lia
def EQ{cs few:∅}{a:Int}:(paiR cs few a).length<=few.length:=by
 unfold paiR;rw[Tn];show Ue _ _
def ER{cs few:∅}:∀ xs:∅,(xs.flatMap<|paiR cs few).length<=xs.length*few.length
 | []=>by simp
 | x::r=>by
  have b:=ER (cs:=cs) (few:=few) r;have:=EQ (cs:=cs) (few:=few) (a:=x);rw[W6,TJ,T8,Nat.add_mul];lia
def yC{S W:Addr}{cs few:∅}{v0 v1 v2:Option V}(P:H S=↥(cs.map V.int))(n:H W=↥(few.map V.int))(cn:cs.length<=16)(G:few.length<=16)(E:∀ o∈few,o∈cs)(q:LLp Q H (few.flatMap<|paiR cs few)):
  jY K c (eD9 Q) [v0,v1,v2,↑S,↑W,none,none] H:=by
 unfold jY;exists(ba #[1],λF x=>?_);obtain⟨H1,z9,s1,e1⟩:∃ z,upd H F (.lst [])=z/\Same H z/\z F=↥(([]:List Addr).map V.ref):=bp _ x;rw[z9];show((_,TW<|s1 _ _ n),?_);show bI (K:=K) (xs:=few.map V.int) (λi σ A=>∃(w:Option V) (as:List Addr),σ=[v0,v1,v2,↑S,↑W,↑F,w]/\Same H A/\IsLL A F as ((few.take i).flatMap<|paiR cs few)/\(∀ a∈as,H a=none)/\F∉as) (none,[],rfl,s1,(e1,rfl,λj a xs e _=>by simp at e),(λa l=>by cases l),by simp) (λi σ A _ ⟨_,_,_,s,_⟩=>TW<|s _ _ n) ?_ ?_
 . rintro i v σ C Z ⟨w,as,rfl,g,X,p,r⟩;obtain⟨a,l,rfl⟩:=aI Z;have L:=Tv l;have hi:i<few.length:=(Tr.mp l).1;have B:=X.len;have fl:=ER (cs:=cs) (few:=few)<|few.take i;rw[Uu]at fl;have J:min i few.length*few.length<=16*16:=Vg #[4] G;exists(bB X.top,(_,TW<|g _ _ n),?_);show Kb (xs:=few) (λb=>decide<|((cs.findIdx (· ==a):Nat):Int) < ((cs.findIdx (· ==b):Nat):Int)) (λb=>[a,b]) #[4] (TW<|g _ _ n) ?_ ?_ ?_
   . intro y m R D k k3;have d:=(g.trans k) _ _ P;change tTest _ [none,⇑y,⇑a,↑S] m R;exists(bB d,?_);show lY d (E a L) #[4] ?_;exists(bB d,?_);show lY d (E y D) #[4] ?_;exists k3 _ (Tu _)
   . intro y m M D u k k3;change tLst _ [none,⇑y,⇑a,↑S] m M;exists PD k3
   . intro T t m k hT u Y T' e;cases e;have N:=EQ (cs:=cs) (few:=few) (a:=a);have bl:=Y.len;have Yl:t.length<=16:=by rw[bl];show TU N G
     show El (k _ _ X.top) Y.top (by rw[Tn,Tn,B];lia) ?_;have I:∀ b∈t,b≠F:=λb f e=>by have:=u b f;rw[e,X.top]at this;cases this
     show(_,as++t,rfl,(g.trans k).own x,(by rw[ah,UJ],?_,λj b xs h1 h2=>?_),λb f=>?_,λhm=>?_)
     . rw[Vc,l,V6,TJ,TJ,B,bl];simp[paiR]
     . rw[Vc,l,V6]at h2;have e2:(some a).toList.flatMap (paiR cs few)=paiR cs few a:=by simp
       rw[e2]at h2;by_cases O:j<as.length
       . rw[Ub O]at h1;rw[Ub #[4]]at h2;have U:b≠F:=λe=>r (by rw[← e];show Tv h1);rw[ak U];show k _ _ (X.at_ j b xs h1 h2)
       . rw[Uc #[4]]at h1;rw[Uc #[4],← B]at h2;rw[ak<|I b<|Tv h1];show Y.at_ _ b xs h1 h2
     . rcases Ud.mp f with h | h
       . show p b h
       . show g.free (u b h)
     . rcases Ud.mp hm with h | h
       . show r h
       . show I _ h rfl
 . rintro σ C ⟨w,as,rfl,g,X,p,r⟩;rw[Tn,UF]at X;exists q F as C g x p X
def Dc:R "rule masks cell spots few found first" nV nX K c:=by
 obtain⟨k,r,p,A,s,cs,Tb,n,m,z,rfl,x,b,N,X,u,q⟩:=h;obtain⟨dx,Z,C,h1,h2,h3⟩:=x.ex;have ol:(othA cs z).length<=cs.length:=Ue _ _;exists nX;show methE (k:=k) rfl x.ok h1 (by rfl) ?_;exists(r,p,s,cs,n,m,rfl,x,λS J=>?_);obtain⟨H1,g,s1,O⟩:=bp (.lst<|cs.map V.int) J;rw[g];exists(k,r,p,s,cs,n,m,z,rfl,x.same s1,b.1,λl H2 B hl M=>?_);show EO (ns:=othA cs z) M #[4] λL i=>?_;obtain⟨H3,g,j,t⟩:=bp (.lst<|(srtI<|othA cs z).map V.int) i;rw[g];have f:=(s1.trans B).trans j;show(L,rfl,(_,TW t),?_);show bE (xs:=srtI (othA cs z)) (λo=>decide<|((sgL<|Tb.getD o.toNat 0).length:Int)<=2) (λo=>o) (by rw[wk];lia) (TW t) ?_ ?_ ?_
 . intro y e R v d k4;have D:=b.2 y (TM.mp<|srt_mem.mp v).1;have F:Tb.getD y.toNat 0∈Tb:=by rw[List.getD,To #[4]];show T0 _
   change tTest _ [none,⇑y,↑A] e R;exists ixI ((f.trans d) _ _ X) D.1 D.2 ?_;exists(_,rfl,bitsA (u _ F).1 (u _ F).2,λU H5 G hU I=>?_);symm;rw[bh I,Tn];exists k4 _ G
 . intro y e T v hb d k4;change tVar 1 [none,⇑y,↑A] e T;exists k4 _ (Tu _)
 . intro W e hW d w;rw[VO]at w;have a:=(B.trans j).trans d;have Y:=Ue (λo=>decide<|((sgL<|Tb.getD o.toNat 0).length:Int)<=2)<|srtI<|othA cs z;rw[wk]at Y;show yC (few:=fewA cs Tb z) (a _ _ O) w N (by unfold fewA;lia) (λo P=>(TM.mp<|srt_mem.mp (TM.mp P).1).1) (q.of<|s1.trans a)
structure Tho where
 t:TK
 r:Int
 z:Int
 s:Int
 ms:∅
def  mtF (h w g:Int) (Td:List RR) (Tb:∅) (t:TK) (r z s:Int):List ∅:=
 if t=.place then plaM g s else match Td[r.toNat]? with
  | none=>[[]]
  | some x=>if t=.only then onlM x.cs Tb z s else if t=.pair then paiM x.cs Tb z else [[]]
structure Lk(H:Hp)(c:XZ)(d:X8)(P L G A:Addr)(h w g:Int)(Td:List RR)(cl Tb:∅):Prop where
 P:IsPz H c d P L G h w g Td cl
 A:H A=↥(Tb.map V.int)
 n:Tb.length=(h*w).toNat
 mm:∀ m∈Tb,0<=m/\m<2^g.toNat
variable{H':Hp}{d:X8}{P L G A:Addr}{h w g:Int}{Td:List RR}{cl Tb:∅}
def  Lk.same(x:Lk H c d P L G A h w g Td cl Tb)(s:Same H H'):Lk H' c d P L G A h w g Td cl Tb:=(x.P.same s,s _ _ x.A,x.n,x.mm)
def bT(b:1<=g)(a:g<=6):(2:Int)^g.toNat<=64:=by
 have e:g=1\/g=2\/g=3\/g=4\/g=5\/g=6:=by lia
 rcases e with rfl | rfl | rfl | rfl | rfl | rfl <;> decide
def  Lk.m64(x:Lk H c d P L G A h w g Td cl Tb):∀ m∈Tb,0<=m/\m<64:=λm a=>by
 have:=bT x.P.R.F.g0 x.P.R.F.g1;have:=x.mm m a;omega
def ly:f:=#[3,∃ P L G A h w g Td cl Tb t r z s,vs=[.ref P,.ref A,.str<|tx<|tkC t,.int r,.int z,.int s]/\Lk H c d P L G A h w g Td cl Tb/\formB h w g Td t r z s=true/\LLp Q H (mtF h w g Td Tb t r z s)]
def iR:c:=#[":gnpdsb2evw`0i,{VbjadkBmU~v~wbjm0c3a1a4a5cognpdsb2evw`1i;ognpdsb2evw`2i,{WbjadkBmU~v~wbjm0c3a1a4coitatcc",s!"only",s!"reach",s!"pair"]
def lz:c:=#[":glBmU~x~ybjm0ch#6 gnpdsb2evw`0i,{Xba6a5cognpdsb2evw`1i;ognpdsb2evw`2i;o{Ybjm",s!"place",s!"square",s!"turn"]
variable{t:TK}{r z:Int}
def Gy{p:Addr}{s:Int}(X:Lk H c d P L G A h w g Td cl Tb)(hp:IsFl H p h w g)(f:formB h w g Td t r z s=true)(S:t≠.place)(n2:t≠.square)(n3:t≠.turn)(q:LLp Q H (mtF h w g Td Tb t r z s)):
  iR K c d (eD9 Q) [↑P,↑A,some<|.str<|tx<|tkC t,⇑r,⇑z,⇑s,↑p] H:=by
 obtain⟨dx,p0,rs,h1,h2,h3⟩:=X.P.ex;obtain⟨z0,z1,s0,ab,Tm⟩:=dz f;have hg:=X.P.R.F.g1;unfold mtF at q;rw[TX S]at q
 have C:t≠.clue->∃ y,0<=r/\Td[r.toNat]? =some y/\goesB t y.k=true:=λW=>by
  obtain⟨r0,y,m,o,hz⟩:=iX W Tm;show(y,r0,m,o)
 unfold iR;rw[aC,aA];symm;rw[bN,Hg];by_cases e1:t=.only
 . subst e1;obtain⟨y,r0,m,o⟩:=C #[1];have O:=X.P.R.ok y<|Tv m;have v:a8 y.cs Tb.length:=by rw[X.n];show WU O X.P.R.F
   rw[m]at q;rw[Tp rfl];show iteT ?_;show methE (k:=.Puzzle) rfl X.P.ok h1 (by rfl) ?_;exists(P,L,G,h,w,g,Td,cl,rfl,X.P,λl I i x J Y=>?_);have u:Same H (upd H l<|.lst<|i.map V.ref):=(Tu H).laid x;generalize upd H l (.lst<|i.map V.ref)=H1 at*;have M:=(Tr.mp m).1;have Tk:=Y.len;have B:i[r.toNat]? =some i[r.toNat]:=To #[4];dsimp only;show ixL Y.top (lU r0 B) ?_;exists(_,_,I,A,_,y.cs,Tb,_,_,z,s,rfl,Y.at_ _ _ _ B m,v,u _ _ X.A,by lia,q.of u)
 . rw[Tq e1];show iteF ?_;rw[aA];symm;rw[bN,Lu];by_cases e2:t=.reach
   . subst e2;show(zU X.P.R f rfl rfl).elim
   . rw[Tq e2];show iteF ?_;symm;rw[aA];symm;rw[bN,Na];by_cases D:t=.pair
     . subst D;obtain⟨y,r0,m,o⟩:=C #[1];have O:=X.P.R.ok y<|Tv m;have v:a8 y.cs Tb.length:=by rw[X.n];show WU O X.P.R.F
       have Z:allK y.k=false:=by revert o;cases y.k <;> intro o <;> first | rfl | (cases o;done)
       have E:y.cs.length<=16:=by
        obtain⟨_,c2,_,_,e⟩:=O.cl.told Z;rw[e,Tn];show c2
       rw[m]at q;rw[Tp rfl];show iteT ?_;show methE (k:=.Puzzle) rfl X.P.ok h1 (by rfl) ?_;exists(P,L,G,h,w,g,Td,cl,rfl,X.P,λl I i x J Y=>?_);have u:Same H (upd H l<|.lst<|i.map V.ref):=(Tu H).laid x;generalize upd H l (.lst<|i.map V.ref)=H1 at*;have M:=(Tr.mp m).1;have Tk:=Y.len;have B:i[r.toNat]? =some i[r.toNat]:=To #[4];dsimp only;show ixL Y.top (lU r0 B) ?_;exists(_,_,I,A,_,y.cs,Tb,_,_,z,rfl,Y.at_ _ _ _ B m,v,E,u _ _ X.A,X.m64,q.of u)
     . rw[Tq D]
       have T:LLp Q H [[]]:=by
        cases m:Td[r.toNat]? with
        | none=>rw[m]at q;show q
        | some y=>
         rw[m]at q;dsimp only at q;rw[TX e1,TX D]at q;show q
       show iteF ?_;exists(ba #[1],λa N=>?_);obtain⟨H1,z9,s1,e1⟩:∃ z,upd H a (.lst [])=z/\Same H z/\z a=↥(([]:∅).map V.int):=bp _ N;rw[z9];show(lnR rfl,λl x=>?_);have u:Same H1 (upd H1 l<|.lst [V.ref a]):=(Tu H1).laid x;show T l [a] _ (s1.trans u) (s1.free x) (λb U=>by rw[TH.mp U];show N) (ah,rfl,λj b xs h1 h2=>?_)
       cases j with
       | zero=>cases h1;cases h2;show u _ _ e1
       | succ j=>simp at h1
def zV:R "puzzle masks kind number cell sign floor" ly lz K c d:=by
 obtain⟨P,L,G,A,h,w,g,Td,cl,Tb,t,r,z,s,rfl,X,f,q⟩:=h;obtain⟨i,e,rs,h1,h2,h3⟩:=X.P.ex;exists lz;show methE (k:=.Puzzle) rfl X.P.ok h1 (by rfl) ?_;exists(P,L,G,h,w,g,Td,cl,rfl,X.P,λp b=>?_);symm;rw[aA];symm;rw[bN,EE];by_cases e1:t=.place
 . subst e1;rw[Tp rfl];unfold mtF at q;rw[TZ rfl]at q;exists(p,h,w,g,s,rfl,b,X.P.R.F.g0,X.P.R.F.g1,q)
 . rw[Tq e1];symm;rw[aA];symm;rw[bN,JW];by_cases e2:t=.square
   . subst e2;show(zU X.P.R f rfl rfl).elim
   . rw[Tq e2];symm;rw[aA];symm;rw[bN,Nb];by_cases a:t=.turn
     . subst a;show(zU X.P.R f rfl rfl).elim
     . rw[Tq a];exists Gy X b f e1 e2 a q
def  OH{s:Int}:∀ ms∈mtF h w g Td Tb t r z s,ms.length<=2:=λms b=>by
 unfold mtF at b
 split at b
 . unfold plaM at b;obtain⟨_,_,rfl⟩:=Tz.mp b;simp
 . split at b
   . rw[TH.mp b];simp
   . split at b
     . unfold onlM at b;obtain⟨_,_,rfl⟩:=Tz.mp b;simp
     . split at b
       . unfold paiM at b;obtain⟨a,_,b⟩:=VJ.mp b;unfold paiR at b;obtain⟨_,_,rfl⟩:=Tz.mp b;simp
       . rw[TH.mp b];simp
def  faF (h w g:Int) (Td:List RR) (cl Tb:∅) (t:TK) (r z s:Int):Option ∅:=(mtF h w g Td Tb t r z s).find? λms=>strA h w g Td cl Tb t r z s ms
def rh:f:=#[3,∃ P L G A h w g Td cl Tb t r z s,vs=[.ref P,.ref A,.str<|tx<|tkC t,.int r,.int z,.int s]/\Lk H c d P L G A h w g Td cl Tb/\formB h w g Td t r z s=true/\
 (faF h w g Td cl Tb t r z s=none->∀ H',Same H H'->Q .non H')/\(∀(ms:∅) (T M:Addr) (H':Hp),faF h w g Td cl Tb t r z s=some ms->Same H H'->H T=none->H M=none->IsTh H' T M t r z s ms->Q (.ref T) H')]
def rj:c:=#[":gGub,{Zbjma0a1a2a3a4a5ch#6 glNa2a3a4a5a6ch#7 nq,'zbjma0a1a7ci7oieE"]
def Gz:R "puzzle masks kind number cell sign more thought" rh rj K c d:=by
 obtain⟨P,L,G,A,h,w,g,Td,cl,Tb,t,r,z,s,rfl,X,f,U,S⟩:=h;exists rj;show(P,L,G,A,h,w,g,Td,cl,Tb,t,r,z,s,rfl,X,f,λl as H1 s1 hl fr Y=>?_);have al:=Y.len;have ml:=OH (h:=h) (w:=w) (g:=g) (Td:=Td) (Tb:=Tb) (t:=t) (r:=r) (z:=z) (s:=s);unfold faF at U S;generalize mtF h w g Td Tb t r z s=Ti at*;show(l,rfl,(_,TW Y.top),?_);show bI (K:=K) (xs:=as.map V.ref) (λi σ H'=>∃(I M:Option V),σ=[↑P,↑A,some<|.str<|tx<|tkC t,⇑r,⇑z,⇑s,I,M]/\Same H1 H'/\∀ ms∈Ti.take i,strA h w g Td cl Tb t r z s ms=false) (none,none,rfl,Tu H1,λms J=>by cases J) (λi σ H' _ ⟨_,_,_,s,_⟩=>TW<|s _ _ Y.top) ?_ ?_
 . rintro i v σ e hv ⟨I,M,rfl,q,a⟩;obtain⟨b,B,rfl⟩:=aY hv;have hi:i<as.length:=(Tr.mp B).1;have R:Ti[i]? =some Ti[i]:=To #[4];have F:=q _ _<|Y.at_ i b _ B R;have xl:=ml _ (T0 (show i<Ti.length by lia));have et:Ti.take (i+1)=Ti.take i++[Ti[i]]:=by rw[Vc,R];rfl
   have k:strA h w g Td cl Tb t r z s Ti[i]=true->Ti.find? (λms=>strA h w g Td cl Tb t r z s ms)=some Ti[i]:=λZ=>by
    rw[List.find?_eq_some_iff_getElem];show(Z,i,by lia,rfl,λj hj=>?_);have:=a Ti[j] (by rw[List.mem_take_iff_getElem];show(j,by lia,rfl));rw[this];rfl
   generalize Ti[i]=ms at*;have C:=fr b<|Tv B;exists(lnR rfl,λT N=>?_);have x:Same e (upd e T<|.tup [V.str<|tx<|tkC t,V.int r,V.int z,V.int s,V.ref b]):=(Tu e).laid N;have O:IsTh (upd e T<|.tup [V.str<|tx<|tkC t,V.int r,V.int z,V.int s,V.ref b]) T b t r z s ms:=(ah,x _ _ F,by lia);generalize upd e T (.tup [V.str<|tx<|tkC t,V.int r,V.int z,V.int s,V.ref b])=H3 at*;have p:=s1.trans q;have o:=p.trans x;have W:=X.same o;rw[aA];exists(P,L,G,A,T,b,h,w,g,Td,cl,Tb,t,r,z,s,ms,rfl,(W.P,O,W.A,X.n),X.m64,f,λH4 D=>?_)
   cases u:strA h w g Td cl Tb t r z s ms with
   | true=>
    show(true,rfl,iteT ?_);exists S ms T b H4 (k u) (o.trans D) (p.free N) C (O.same D)
   | false=>
    show(false,rfl,iteF ?_);show(_,_,rfl,(q.trans x).trans D,λy m=>?_);rw[et]at m;rcases Ud.mp m with m | m
    . show a y m
    . rw[TH.mp m];show u
 . rintro σ e ⟨I,M,rfl,q,a⟩;rw[Tn,al,UF]at a;exists U (List.find?_eq_none.mpr λms J=>by rw[a ms J];show TB) e (s1.trans q)
def  rnF(Td:List RR)(t:TK):∅:=if t=.clue then [0] else((List.range Td.length).filter λi=>goesB t<|(Td[i]?.map RR.k).getD .Rule).map λ(i:Nat)=>(i:Int)
def lA:f:=#[3,∃ P L G h w g Td cl t,vs=[.ref P,.str<|tx<|tkC t]/\IsPz H c d P L G h w g Td cl/\∀ l H',Same H H'->H l=none->H' l=↥((rnF Td t).map V.int)->Q (.ref l) H']
def lB:c:=#[":gnpdsb1evw`0itaef#0 coix&---1 +baBmU~v~wbjm0ccVb#2 Ch#1 Ch#2 Wq,'pbja3a2c1",s!"clue"]
def zW:R "puzzle kind" lA lB K c d:=by
 obtain⟨P,L,G,h,w,g,Td,cl,t,rfl,X,q⟩:=h;obtain⟨I,D,rs,h1,h2,h3⟩:=X.ex;have J:=X.R.n;ac_nf;unfold lB;rw[aC,aA];symm;rw[bN,wg];unfold rnF at q;by_cases f:t=.clue
 . rw[TZ f]at q;rw[Tp f];exists(lnR rfl,λl o=>q l _ ((Tu H).laid o) o ah)
 . rw[TX f]at q;rw[Tq f];symm
   first
   | show methE (k:=.Puzzle) rfl X.ok h1 (by rfl) ?_
   | (rw[aN];exists methE (k:=.Puzzle) rfl X.ok h1 (by rfl) ?_)
   exists(P,L,G,h,w,g,Td,cl,rfl,X,λl A a o B Y=>?_);have s:Same H (upd H l<|.lst<|a.map V.ref):=(Tu H).laid o;generalize upd H l (.lst<|a.map V.ref)=H1 at*;have z:=Y.len;exists(l,rfl,(_,TW Y.top),?_);show kH (xs:=a.map V.ref) (λi=>goesB t<|(Td[i]?.map RR.k).getD .Rule) (λi=>.int (i:Int)) (by rw[Tn];lia) #[1] (TW Y.top) ?_ ?_ ?_
   . intro i x e R p j k3;obtain⟨b,m,rfl⟩:=aY p;have F:i<a.length:=(Tr.mp m).1;have u:Td[i]? =some Td[i]:=To #[4];have y:=(Y.at_ i b _ m u).same j;rw[u]at k3;change tB _ [none,⇑(i:Int),↑b,some<|.str<|tx<|tkC t] e R;exists(t,Td[i].k,b,A,_,_,_,_,rfl,f,y,_,rfl,k3 _<|Tu _)
   . intro i x e C p m j k3;obtain⟨b,m,rfl⟩:=aY p;change tVar 1 [none,⇑(i:Int),↑b,some<|.str<|tx<|tkC t] e C;exists k3 _ (Tu _)
   . intro T e v j r;rw[Tn,z]at r;show q T e (s.trans j) (s.free v) ?_;rw[r,Uq];rfl
def  celF(h w:Int)(Td:List RR)(t:TK)(r:Int):∅:=if t=.clue then rngL 0 (h*w) else match Td[r.toNat]? with
 | none=>[]
 | some x=>srtI x.cs
def lC:f:=#[3,∃ P L G h w g Td cl t r,vs=[.ref P,.str<|tx<|tkC t,.int r]/\IsPz H c d P L G h w g Td cl/\(t≠.clue->0<=r/\r<Td.length)/\∀ l H',Same H H'->H l=none->H' l=↥((celF h w Td t r).map V.int)->Q (.ref l) H']
def lD:c:=#[":gnpdsb1evw`0i~Ya,~CbaBmU~x~ybjm0cccoir~^aBjP~t~ubjdkBmU~v~wbjm0c2cc",s!"clue"]
def zX:R "puzzle kind number" lC lD K c d:=by
 obtain⟨P,L,G,h,w,g,Td,cl,t,r,rfl,X,J,q⟩:=h;obtain⟨Z,W,rs,h1,h2,h3⟩:=X.ex;have F:=X.R.F;have T:=F.m;have v:0<=h*w:=Vs (by have:=F.h0;lia) (by have:=F.w0;lia);ac_nf;unfold lD;rw[aC,aA];symm;rw[bN,wg];unfold celF at q;by_cases e:t=.clue
 . rw[TZ e]at q;rw[Tp e];exists methE (k:=.Puzzle) rfl X.ok h1 (by rfl) ?_;exists(P,L,G,h,w,g,Td,cl,rfl,X,λp N=>?_);exists(p,h,w,g,rfl,N,F.h0,F.h1,?_);show(h*w,rfl,by lia,by lia,λl i=>q l _ ((Tu H).laid i) i ah)
 . obtain⟨r0,r1⟩:=J e;have j:Td[r.toNat]? =some Td[r.toNat]:=To #[4];rw[TX e,j]at q;have O:=X.R.ok _<|Tv j;have yl:=RR.len26 O F;rw[Tq e];symm
   first
   | show methE (k:=.Puzzle) rfl X.ok h1 (by rfl) ?_
   | (rw[aN];exists methE (k:=.Puzzle) rfl X.ok h1 (by rfl) ?_)
   exists(P,L,G,h,w,g,Td,cl,rfl,X,λl I a i U Y=>?_);have x:Same H (upd H l<|.lst<|a.map V.ref):=(Tu H).laid i;generalize upd H l (.lst<|a.map V.ref)=H1 at*;have Tk:=Y.len;have u:a[r.toNat]? =some a[r.toNat]:=To #[4];have y:=Y.at_ _ _ _ u j;generalize a[r.toNat]=b at*;obtain⟨M,Wy,Cy,z,y2,y3⟩:=y.ex;dsimp only;show ixL Y.top (lU r0 u) ?_;show(b,Td[r.toNat].k,M,_,rfl,y.ok,z,by rfl,?_);exists(b,I,_,_,_,_,rfl,y,λl2 n=>?_);obtain⟨C,B,s,A⟩:=bp (.lst<|Td[r.toNat].cs.map V.int) n;rw[B];show EO A #[4] λD f=>?_;have S:=(x.trans s).trans<|(Tu C).laid (o:=.lst ((srtI Td[r.toNat].cs).map V.int)) f;show q D _ S ((x.trans s).free f) ah
structure IsBk(H:Hp)(l:Addr)(bs Ms:List Addr)(Tj:List Tho):Prop where
 top:H l=↥(bs.map V.ref)
 len:bs.length=Tj.length
 lnM:Ms.length=Tj.length
 nl:l∉Ms
 at_:∀(i:Nat) (b M:Addr) (th:Tho),bs[i]? =some b->Ms[i]? =some M->Tj[i]? =some th->IsTh H b M th.t th.r th.z th.s th.ms
variable{l:Addr}{Ms:List Addr}{Tj:List Tho}
def  IsBk.same{bs:List Addr}(x:IsBk H l bs Ms Tj)(s:Same H H'):IsBk H' l bs Ms Tj:=(s _ _ x.top,x.len,x.lnM,x.nl,λi b M a h1 h2 h3=>(x.at_ i b M a h1 h2 h3).same s)
def  IsBk.nil(h:H l=some (.lst [])):IsBk H l [] [] []:=(h,rfl,rfl,by simp,λi b M a e _ _=>by simp at e)
def IsBk.app{T M:Addr}{bs:List Addr}{th:Tho}(x:IsBk H l bs Ms Tj)(s:Same H H')(y:IsTh H' T M th.t th.r th.z th.s th.ms)(f:M≠l):IsBk (upd H' l<|.lst<|bs.map V.ref++[V.ref T]) l (bs++[T]) (Ms++[M]) (Tj++[th]):=by
 have e:=s _ _ x.top;have d:∀{b N:Addr} {t:Tho},IsTh H' b N t.t t.r t.z t.s t.ms->N≠l->IsTh (upd H' l<|.lst<|bs.map V.ref++[V.ref T]) b N t.t t.r t.z t.s t.ms:=λz j=>(by rw[ak (λc=>by have:=z.T;rw[c,e]at this;cases this)];show z.T,by rw[ak j];show z.M,z.n);have h:=x.len;have g:=x.lnM;show(by rw[ah];simp,by simp[h],by simp[g],λa=>?_,λi b N t h1 h2 h3=>?_)
 . rcases Ud.mp a with a | a
   . show x.nl a
   . show f (TH.mp a).symm
 . by_cases k:i<Tj.length
   . rw[Ub #[4]]at h1;rw[Ub #[4]]at h2;rw[Ub k]at h3;show d ((x.at_ i b N t h1 h2 h3).same s) λc=>x.nl (by rw[← c];show Tv h2)
   . rw[Uc #[4]]at h1 h2 h3;have m:i-Tj.length=0:=by have:=(Tr.mp h3).1;simp at this;lia
     rw[m]at h3;rw[show i-bs.length=0 by lia]at h1;rw[show i-Ms.length=0 by lia]at h2;cases h1;cases h2;cases h3;show d y f
def  BkP(Q:VK)(H:Hp)(Tj:List Tho):Prop:=∀(l:Addr) (a Ms:List Addr) (H':Hp),Same H H'->H l=none->(∀ b∈a,H b=none)->(∀ M∈Ms,H M=none)->IsBk H' l a Ms Tj->Q (.ref l) H'
def  BkP.of(q:BkP Q H Tj)(s:Same H H1):BkP Q H1 Tj:=λl a Ms H' e d c f x=>q l a Ms H' (s.trans e) (s.free d) (λb h=>s.free<|c b h) (λb h=>s.free<|f b h) x
structure MkP(g:Int)(n:Nat)(ms:∅):Prop where
 len:ms.length=n
 mm:∀ m∈ms,0<=m/\m<2^g.toNat
def Nc:((List.range 64).all λm=>(List.range 6).all λs=>decide (0<=woI (m:Int) (1+(s:Int))/\woI (m:Int) (1+(s:Int))<=m)&&((List.range 6).all λx=>decide (x=s)||decide (stB (woI (m:Int)<|1+(s:Int)) (1+(x:Int))=stB (m:Int) (1+(x:Int))))&&(!stB (m:Int) (1+(s:Int))||decide ((sgL<|woI (m:Int)<|1+(s:Int)).length+1=(sgL (m:Int)).length)))=true:=by decide+kernel
def jx{m s:Int}(c:0<=m)(g:m<64)(s0:1<=s)(b:s<=6):(0<=woI m s/\woI m s<=m)/\(∀ x,1<=x->x<=6->x≠s->stB (woI m s) x=stB m x)/\(stB m s=true->(sgL<|woI m s).length+1=(sgL m).length):=by
 have t:=Ty.mp (Ty.mp Nc m.toNat<|TC.mpr #[4]) (s-1).toNat<|TC.mpr #[4];rw[show((m.toNat:Nat):Int)=m by lia,show 1+(((s-1).toNat:Nat):Int)=s by lia,Tx,Tx]at t;show(TF t.1.1,λx e f d=>?_,λa=>?_)
 . have:=Ty.mp t.1.2 (x-1).toNat<|TC.mpr #[4];rw[show 1+(((x-1).toNat:Nat):Int)=x by lia,Tq #[4],UH]at this;show TF this
 . have:=t.2;rw[a,Wr,UH]at this;show TF this
def Nd:((List.range 7).all λg=>(List.range 64).all λm=>!decide ((m:Int)<2^g)||(sgL (m:Int)).all λx=>decide<|1<=x/\x<=(g:Int))=true:=by decide+kernel
def jy{m:Int}(c:1<=g)(a:g<=6)(e:0<=m)(d:m<2^g.toNat)(b:x∈sgL m):1<=x/\x<=g:=by
 have p:=bT c a;have t:=Ty.mp (Ty.mp Nd g.toNat<|TC.mpr #[4]) m.toNat<|TC.mpr #[4];rw[show((m.toNat:Nat):Int)=m by lia,Tp d,Wr,UH]at t;have:=TF<|Ty.mp t x b;lia
variable{ms:∅}
def lE{s:Int}{k:Nat}(a:k<ms.length):(stL ms z s).getD k 0=if (k:Int)=z then woI (ms.getD k 0) s else ms.getD k 0:=by
 unfold stL;rw[List.getD,Tw,UE a];rfl
def md{s:Int}:(stL ms z s).length=ms.length:=by unfold stL;rw[Tn,UG]
def aL{k:Nat}(a:k<ms.length):ms.getD k 0∈ms:=by rw[List.getD,To a];show T0 _
variable{n:Nat}
def MkP.stL{s:Int}(X:MkP g n ms)(e:1<=g)(d:g<=6)(s0:1<=s)(c:s<=6):MkP g n (stL ms z s):=by
 have p:=bT e d;show(by rw[md];show X.len,λm a=>?_);unfold L2.stL at a;obtain⟨i,f,rfl⟩:=Tz.mp a;have b:=X.mm _ (aL<|TC.mp f)
 split
 . have:=(jx (s:=s) b.1 #[4] s0 c).1;lia
 . show b
def  Lk.mkp(x:Lk H c d P L G A h w g Td cl Tb):MkP g (h*w).toNat Tb:=(x.n,x.mm)
def  RuOk(Td:List RR)(t:TK)(r:Int):Prop:=(t=.clue->r=0)/\(t≠.clue->0<=r/\∃ x,Td[r.toNat]? =some x/\goesB t x.k=true)
def Md(h:r∈rnF Td t):RuOk Td t r:=by
 unfold rnF at h;by_cases a:t=.clue
 . rw[TZ a]at h;show(λ_=>TH.mp h,λn=>absurd a n)
 . rw[TX a]at h;obtain⟨i,b,rfl⟩:=Tz.mp h;obtain⟨b,c⟩:=TM.mp b;have d:=TC.mp b;have e:Td[i]? =some Td[i]:=To d;show(λn=>absurd n a,λ_=>(by lia,Td[i],by rw[Ui];show e,?_));rw[e]at c;show c
def ES{s:Int}(R:bY c h w g Td)(i:RuOk Td t r)(d:z∈celF h w Td t r)(s0:1<=s)(s1:s<=g):formB h w g Td t r z s=true:=by
 have a:(0<=z/\z<h*w)/\hitB t Td r z=true:=by
  unfold celF at d;unfold hitB;by_cases b:t=.clue
  . rw[TZ b]at d;rw[i.1 b,TX #[1],TZ b];show(we d,rfl)
  . obtain⟨r0,x,f,j⟩:=i.2 b;rw[TX b,f]at d;have e:=srt_mem.mp d;have k:=(WU (R.ok x<|Tv f) R.F).2 z e;rw[TX #[4],TX b,f];show(by lia,?_);dsimp only;rw[j,Tp e];rfl
 unfold formB;rw[Tp a.1.1,Tp a.1.2,Tp s0,Tp s1,a.2];rfl
def  fbS (h w g:Int) (Td:List RR) (cl:∅) (t:TK) (r z:Int) (nb:∅ × List Tho) (s:Int):∅ × List Tho:=match faF h w g Td cl nb.1 t r z s with
 | none=>nb
 | some ms=>(stL nb.1 z s ,nb.2++[(t,r,z,s,ms)])
def  fbC (h w g:Int) (Td:List RR) (cl:∅) (t:TK) (r:Int) (nb:∅ × List Tho) (z:Int):∅ × List Tho:=(sgL<|nb.1.getD z.toNat 0).foldl (fbS h w g Td cl t r z) nb
def  fbL (h w g:Int) (Td:List RR) (cl:∅) (t:TK) (r:Int):∅->∅ × List Tho->List Tho
 | [],nb=>nb.2
 | z::zs,nb=>if 0∈(fbC h w g Td cl t r nb z).1 then(fbC h w g Td cl t r nb z).2 else fbL h w g Td cl t r zs (fbC h w g Td cl t r nb z)
def  fbF (h w g:Int) (Td:List RR) (cl Tb:∅) (t:TK) (r:Int):List Tho:=fbL h w g Td cl t r (celF h w Td t r) (Tb ,[])
variable{nb:∅ × List Tho}
def OI{s:Int}(X:MkP g n nb.1)(b:1<=g)(a:g<=6)(s0:1<=s)(c:s<=6):MkP g n (fbS h w g Td cl t r z nb s).1:=by
 unfold fbS
 split
 . show X
 . show X.stL b a s0 c
def jZ:f:=#[3,∃ P L G A h w g Td cl Tb t r,vs=[.ref P,.ref A,.str<|tx<|tkC t,.int r]/\Lk H c d P L G A h w g Td cl Tb/\RuOk Td t r/\BkP Q H (fbF h w g Td cl Tb t r)]
def fbin:c:=#[":Gub,Qbadk46ch#7 gl,{*bjma0a4a2a3a6a7ch#8 npd~d8eEg*ObK~k5a8cl,~eba4a6a7ch#4 o"]
def j2:c:=#[":glr~ma1ch#4 gltch#5 gGub,{+bjma0a2a3ch#6 g{-bjmnq,Mba4ci5oi5"]
structure Fb(H0 H:Hp)(c:XZ)(d:X8)(P L G N B:Addr)(bs Ms:List Addr)(h w g:Int)(Td:List RR)(cl:∅)(nb:∅ × List Tho):Prop where
 sm:Same H0 H
 pz:IsPz H0 c d P L G h w g Td cl
 nw:H N=↥(nb.1.map V.int)
 mp:MkP g (h*w).toNat nb.1
 bk:IsBk H B bs Ms nb.2
 nB:N≠B
 fB:H0 B=none
 fb:∀ b∈bs,H0 b=none
 fM:∀ M∈Ms,H0 M=none
variable{H0:Hp}
def  Fb.same{N B:Addr}{bs:List Addr}(X:Fb H0 H c d P L G N B bs Ms h w g Td cl nb)(t:Same H H'):Fb H0 H' c d P L G N B bs Ms h w g Td cl nb:=(X.sm.trans t,X.pz,t _ _ X.nw,X.mp,X.bk.same t,X.nB,X.fB,X.fb,X.fM)
def  Fb.lk{N B:Addr}{bs:List Addr}(X:Fb H0 H c d P L G N B bs Ms h w g Td cl nb):Lk H c d P L G N h w g Td cl nb.1:=(X.pz.same X.sm,X.nw,X.mp.len,X.mp.mm)
def Kc{α:Type}{f:α->Int->α}{x:α}{ss:∅}{i:Nat}{s:Int}(e:ss[i]? =some s):(ss.take<|i+1).foldl f x=f ((ss.take i).foldl f x) s:=by
 rw[Vc,e,U6];rfl
def Nf{s:Int}:(fbS h w g Td cl t r z nb s).2.length<=nb.2.length+1:=by
 unfold fbS
 split
 . lia
 . simp
def ET{m:Int}(a:0<=m)(b:m<64):(sgL m).length<=6:=by
 have t:=TF<|Ty.mp yB m.toNat<|TC.mpr #[4];rw[show((m.toNat:Nat):Int)=m by lia]at t;unfold sgL;rw[Tn];show TU (Ue _ _) ?_;rw[UG];show t
variable{D:Ends}
def Lv {N B:Addr} {bs:List Addr} {v7 x:Option V} (X:Fb H0 H c d P L G N B bs Ms h w g Td cl nb) (ok:RuOk Td t r) (hz:z∈celF h w Td t r) (bl:nb.2.length<=800) {C:Addr} {cs:∅} (eC:H C=↥(cs.map V.int)) (ab:C≠B)
  (k:∀(n:Addr) (a j:List Addr) (v7 x:Option V) (H':Hp),Fb H0 H' c d P L G n B a j h w g Td cl (fbC h w g Td cl t r nb z)->H' C=↥(cs.map V.int)->(fbC h w g Td cl t r nb z).2.length<=nb.2.length+6->D.nx [↑P,↑A,some<|.str<|tx<|tkC t,⇑r,↑n,↑B,⇑z,v7,x] H'):
  fbin K c d D [↑P,↑A,some<|.str<|tx<|tkC t,⇑r,↑N,↑B,⇑z,v7,x] H:=by
 have W:=X.pz.R.F.g0;have Z:=X.pz.R.F.g1;have al:=bT W Z;have zf:=dz<|ES (s:=1) X.pz.R ok hz #[1] W;have nl:=X.mp.len;have U:=X.mp.mm _<|aL (k:=z.toNat) (ms:=nb.1) #[4];have sb:∀ s∈sgL (nb.1.getD z.toNat 0),1<=s/\s<=g:=λs J=>jy W Z U.1 U.2 J;have aj:=ET U.1 #[4];unfold fbin;exists ixI X.nw zf.1 #[4] ?_;symm;unfold fbC at k;show(_,rfl,bitsA U.1 #[4],λS H1 s1 hS eS=>?_);generalize sgL (nb.1.getD z.toNat 0)=ss at*;show(S,rfl,(_,TW eS),?_)
 show bI (K:=K) (xs:=ss.map V.int) (λi σ H'=>∃(n:Addr) (a j:List Addr) (v7 x:Option V),σ=[↑P,↑A,some<|.str<|tx<|tkC t,⇑r,↑n,↑B,⇑z,v7,x]/\Fb H0 H' c d P L G n B a j h w g Td cl ((ss.take i).foldl (fbS h w g Td cl t r z) nb)/\H' S=↥(ss.map V.int)/\H' C=↥(cs.map V.int)/\((ss.take i).foldl (fbS h w g Td cl t r z) nb).2.length<=nb.2.length+i)
  (N,bs,Ms,_,_,rfl,X.same s1,eS,s1 _ _ eC,TQ _) (λi σ H' _ oh=>by obtain⟨_,_,_,_,_,_,_,e,_⟩:=oh;show TW e) ?_ ?_
 . rintro i v σ H2 hv ⟨n,a,j,v7,x,rfl,l,E,q,l2⟩;obtain⟨s,J,rfl⟩:=aI hv;have hi:i<ss.length:=(Tr.mp J).1;have sm:=sb s<|Tv J;rw[Kc J];generalize (ss.take i).foldl (fbS h w g Td cl t r z) nb=n2 at*;have f:=ES (s:=s) X.pz.R ok hz sm.1 sm.2;have l3:=Nf (h:=h) (w:=w) (g:=g) (Td:=Td) (cl:=cl) (t:=t) (r:=r) (z:=z) (s:=s) (nb:=n2);have o3:=OI (h:=h) (w:=w) (Td:=Td) (cl:=cl) (t:=t) (r:=r) (z:=z) l.mp W Z sm.1 #[4];exists(P,L,G,n,h,w,g,Td,cl,n2.1,t,r,z,s,rfl,l.lk,f,λe I u=>?_,λms T M I e u hT hM Th=>?_)
   . have e2:fbS h w g Td cl t r z n2 s=n2:=by unfold fbS;rw[e]
     rw[e2];symm;rw[aA];exists(n,a,j,_,_,rfl,l.same u,u _ _ E,u _ _ q,by lia)
   . have e2:fbS h w g Td cl t r z n2 s=(stL n2.1 z s ,n2.2++[(t,r,z,s,ms)]):=by unfold fbS;rw[e]
     rw[e2]at l3 o3;rw[e2];have Y:=l.same u;have ae:M≠B:=λy=>by rw[y,l.bk.top]at hM;cases hM
     have b2:=l.bk.len;have ag:S≠B:=λy=>by rw[y,X.bk.top]at hS;cases hS
     symm;rw[aA];symm;rw[Tq (λy=>by cases y)];exists(bB Y.bk.top,?_);rw[gJ Y.bk.top];show(by rw[Tn];show aH #[4],?_);have Bk:=l.bk.app (th:=(t,r,z,s,ms)) u Th ae;have s4:=Y.sm.own (o:=.lst (a.map V.ref++[V.ref T])) X.fB;have n4:(upd I B<|.lst<|a.map V.ref++[V.ref T]) n=↥(n2.1.map V.int):=by rw[ak l.nB];show Y.nw
     have S4:(upd I B<|.lst<|a.map V.ref++[V.ref T]) S=↥(ss.map V.int):=by rw[ak ag];show u _ _ E
     have C4:(upd I B<|.lst<|a.map V.ref++[V.ref T]) C=↥(cs.map V.int):=by rw[ak ab];show u _ _ q
     generalize upd I B (.lst<|a.map V.ref++[V.ref T])=H4 at*;exists(n,n2.1,z,s,rfl,n4,by have:=l.mp.len;have:=X.pz.R.F.m;lia,by lia,λN3 H5 Q O af=>?_);show(N3,a++[T],j++[M],_,_,rfl,(s4.trans Q,X.pz,af,o3,Bk.same Q,λy=>?_,X.fB,λb p=>?_,λb p=>?_),Q _ _ S4,Q _ _ C4,TU l3 #[4])
     . rw[y,Bk.top]at O;cases O
     . rcases Ud.mp p with p | p
       . show l.fb b p
       . rw[TH.mp p];show l.sm.free hT
     . rcases Ud.mp p with p | p
       . show l.fM b p
       . rw[TH.mp p];show l.sm.free hM
 . rintro σ H2 ⟨n,a,j,v7,x,rfl,l,E,q,l2⟩;rw[Tn,UF]at l l2;show k n a j v7 x H2 l q #[4]
def Ng(R:bY c h w g Td):(celF h w Td t r).length<=60:=by
 have:=R.F.m;unfold celF
 split
 . rw[jH];lia
 . split
   . simp
   . rename_i x e
     rw[wk];show RR.len26 (R.ok x<|Tv e) R.F
def yD:R "puzzle masks kind number now book cell sign thought" jZ j2 K c d:=by
 obtain⟨P,L,G,A,h,w,g,Td,cl,Tb,t,r,rfl,X,ok,q⟩:=h;ac_nf;have ab:=Ng (t:=t) (r:=r) X.P.R;unfold j2;exists o8 X.A λN hN=>?_;obtain⟨H1,z9,s1,W⟩:=bp (.lst<|Tb.map V.int) hN;rw[z9];exists(ba #[1],λB I=>?_);have s2:Same H1 (upd H1 B<|.lst []):=(Tu H1).laid I;have Y:(upd H1 B<|.lst []) B=some (.lst []):=ah;have S:N≠B:=λe=>by rw[e]at W;rw[W]at I;cases I
 generalize upd H1 B (.lst [])=H2 at*;have m:=s1.trans s2;have X0:Fb H H2 c d P L G N B [] [] h w g Td cl (Tb ,[]):=(m,X.P,s2 _ _ W,X.mkp,IsBk.nil Y,S,s1.free I,(λb M=>by cases M),(λb M=>by cases M));show(P,L,G,h,w,g,Td,cl,t,r,rfl,X.P.same m,λhc=>?_,λC H3 s3 hC Z=>?_)
 . obtain⟨r0,x,ex,_⟩:=ok.2 hc;have:=(Tr.mp ex).1;lia
 . have J:C≠B:=λe=>by rw[e,Y]at hC;cases hC
   unfold fbF at q;have ae:∀ z∈celF h w Td t r,z∈celF h w Td t r:=λz n=>n;generalize O:celF h w Td t r=cs at*;show(C,rfl,(_,TW Z),?_)
   show bI (K:=K) (xs:=cs.map V.int) (λi σ H'=>∃(y:Addr) (a j:List Addr) (T F D:Option V) (nb:∅ × List Tho),σ=[↑P,↑A,some<|.str<|tx<|tkC t,⇑r,↑y,↑B,T,F,D]/\Fb H H' c d P L G y B a j h w g Td cl nb/\H' C=↥(cs.map V.int)/\fbL h w g Td cl t r cs (Tb ,[])=fbL h w g Td cl t r (cs.drop i) nb/\nb.2.length<=6*i)
    (N,[],[],none,none,none,(Tb ,[]),rfl,X0.same s3,Z,rfl,TQ _) (λi σ H' _ oh=>by obtain⟨_,_,_,_,_,_,_,_,_,e,_⟩:=oh;show TW e) ?_ ?_
   . rintro i v σ H4 hv ⟨y,a,j,T,F,D,nb,rfl,l,u,s,bl⟩;obtain⟨z,n,rfl⟩:=aI hv;have hi:i<cs.length:=(Tr.mp n).1;have zm:z∈celF h w Td t r:=by rw[O];show Tv n
     have ed:cs.drop i=z::cs.drop (i+1):=by
      rw[UV hi]
      congr 1
      show(Tr.mp n).2
     rw[ed]at s;exists Lv l ok zm #[4] u J λN3 p o F D H5 k U l5=>?_;have f:fbL h w g Td cl t r cs (Tb ,[])=if 0∈(fbC h w g Td cl t r nb z).1 then(fbC h w g Td cl t r nb z).2 else fbL h w g Td cl t r (cs.drop<|i+1) (fbC h w g Td cl t r nb z):=s;generalize fbC h w g Td cl t r nb z=n5 at*;symm;rw[aA];exists(N3,n5.1,rfl,k.nw,?_);by_cases h0:(0:Int)∈n5.1
     . rw[TZ h0]at f;rw[Tp h0];show(true,rfl,iteT ?_);symm;rw[f]at q;show q B p o H5 k.sm k.fB k.fb k.fM k.bk
     . rw[TX h0]at f;rw[Tq h0];show(false,rfl,iteF ?_);show(N3,p,o,_,_,_,n5,rfl,k,U,f,by lia)
   . rintro σ H4 ⟨y,a,j,T,F,D,nb,rfl,l,u,s,bl⟩;rw[Tn,VI]at s;symm;rw[s]at q;show q B a j H4 l.sm l.fB l.fb l.fM l.bk
def Same.sqt{xs:List V}(e:Same H H')(h:SqT K H a xs):SqT K H' a xs:=by
 rcases h with (h | ⟨o,h⟩) | h
 . show .inl (.inl<|e _ _ h)
 . show .inl (.inr (o,e _ _ h))
 . show .inr h
def Ke {k:Nat} {q:TT} {te:TE} {d:St} {xs:List Str} (b:Str->Bool) (E:xs.length<=900) (B:SqT K H1 a (xs.map V.str))
  (u:∀ x H R,x∈xs->Same H1 H->(∀ H',Same H H'->R (b x) H')->q (d.set k<|some<|.str x) H R)
  (v:∀ x H Q,x∈xs->b x=true->Same H1 H->(∀ H',Same H H'->Q (.str x) H')->te (d.set k<|some<|.str x) H Q)
  (A:∀ l H,H1 l=none->Same H1 H->H l=↥((xs.filter b).map V.str)->fin l H):CompR (Itt K a) (gName k) q te fin d H1:=by
 show Es (xs:=xs.map V.str) (λl i σ H=>(σ=d\/∃ n,σ=d.set k n)/\Same H1 H/\H l=↥(((xs.take i).filter b).map V.str)) (λl f=>(.inl rfl,(Tu H1).laid f,by rw[ah];rfl)) (λl i σ H _ _ p=>p.2.1.sqt B) ?_ (λl σ H f p=>A l H f p.2.1 (by have:=p.2.2;rw[Tn,UF]at this;show this));rintro l i x σ H f o ⟨t,s1,y⟩;rw[Tw]at o;obtain⟨z,h,rfl⟩:=UL.mp o;have D:i<xs.length:=(Tr.mp h).1;have r:xs.take (i+1)=xs.take i++[z]:=by rw[Vc,h];rfl
 rw[aZ]
 have e:σ.set k (some<|.str z)=d.set k (some<|.str z):=by
  rcases t with rfl | ⟨n,rfl⟩
  . rfl
  . show Vb ..
 rw[e];show u z H _ (Tv h) s1 λw s=>?_;have g:=s _ _ y;have c:=s1.trans s
 cases j:b z with
 | false=>
  rw[TX TB];show(.inr (_,rfl),c,?_);rw[r,Us,Um,j]
  simpa using g
 | true=>
  rw[TZ rfl];show v z w _ (Tv h) j c λC m=>(_,m _ _ g,?_,.inr (_,rfl),(c.trans m).own f,?_)
  . rw[Tn];show aH (TU (Ue _ _) (by rw[Uu];lia))
  . rw[ah,r,Us,Um,j];simp
def  dBk(th:Tho):PyData:=dTh th.t th.r th.z th.s th.ms
def Mf{bs:List Addr}(x:IsBk H l bs Ms Tj):DV K H (.ref l) (.list<|Tj.map dBk):=by
 have g:=x.len;have f:=x.lnM;show .lst (TW x.top) (Xu (by simp[x.len]) λi y d h1 h2=>?_);obtain⟨a,e,rfl⟩:=aY h1;rw[Tw]at h2;obtain⟨c,b,rfl⟩:=UL.mp h2;have h:i<Tj.length:=(Tr.mp b).1;show Iv (x.at_ i a _ c e (To #[4]) b)
def wl(t:TK)(r z s:Int)(ms:∅):PyData.canLay0 (dTh t r z s ms)=true/\PyData.depth (dTh t r z s ms)<=2:=by
 have a:PyData.strOk (tx<|tkC t)=true:=Ma (by cases t <;> decide);unfold dTh;simp[PyData.canLay0,PyData.canLayAll0,a,oZ,PyData.depth,PyData.depthAll,kC]
def qp(Tj:List Tho):SeqAt.shaped (.list<|Tj.map dBk)=true:=by
 have h1:PyData.canLayAll0 (Tj.map dBk)=true:=lV λd a=>by obtain⟨x,_,rfl⟩:=Tz.mp a;show(wl _ _ _ _ _).1
 have h2:PyData.depthAll (Tj.map dBk)<=2:=kh λd a=>by obtain⟨x,_,rfl⟩:=Tz.mp a;show(wl _ _ _ _ _).2
 simp[SeqAt.shaped,PyData.canLay0,h1,PyData.depth];lia
def Hq(Tj:List Tho):PyData.eqv (.list<|Tj.map dBk) (.list [])=decide (Tj.length=0):=by
 cases Tj <;> simp[PyData.eqv,PyData.eqvAll]
def OJ{E:Addr}{bs:List Addr}(x:IsBk H l bs Ms Tj)(e:H E=some (.lst []))(q:Q (.bl<|!decide (Tj.length=0)) H):cNe K (.ref l) (.ref E) H Q:=by
 change rNeD K (.ref l) (.ref E) H Q;show(_,.list [],Mf x,.lst (TW e) .nil,qp Tj,qp [],?_);rw[Hq];show q
def OK{E:Addr}{bs:List Addr}(x:IsBk H l bs Ms Tj)(e:H E=some (.lst []))(q:Q (.bl<|decide<|Tj.length=0) H):cEq K (.ref l) (.ref E) H Q:=by
 change rEqD K (.ref l) (.ref E) H Q;show(_,.list [],Mf x,.lst (TW e) .nil,qp Tj,qp [],?_);rw[Hq];show q
abbrev txk(t:TK):Str:=tx (tkC t)
def  allT:List TK:=[.clue,.only,.place,.count,.step,.sum,.square,.reach,.turn,.pair,.ways]
def lF:aX=allT.map txk:=by decide+kernel
def Nh{a b:TK}:decide (txk a=txk b)=decide (a=b):=by cases a <;> cases b <;> decide+kernel
variable{ks:List TK}
def Ni:decide (txk t∈ks.map txk)=decide (t∈ks):=by
 rw[Up,Tt,Tt,Tz];constructor
 . rintro⟨a,c,e⟩;have:=Nh (a:=a) (b:=t);rw[Tp e]at this;show(TF this.symm) ▸ c
 . show λh=>(t,h,rfl)
def  ffR (h w g:Int) (Td:List RR) (cl Tb:∅) (t:TK):∅->List Tho
 | []=>[]
 | r::rs=>if (fbF h w g Td cl Tb t r).length=0 then ffR h w g Td cl Tb t rs else fbF h w g Td cl Tb t r
def  ffT (h w g:Int) (Td:List RR) (cl Tb:∅):List TK->List Tho
 | []=>[]
 | t::ts=>if (ffR h w g Td cl Tb t<|rnF Td t).length=0 then ffT h w g Td cl Tb ts else ffR h w g Td cl Tb t (rnF Td t)
def  ffF (h w g:Int) (Td:List RR) (cl Tb:∅) (ks:List TK):List Tho:=ffT h w g Td cl Tb (allT.filter λt=>decide<|t∈ks)
def  KdL(H:Hp)(a:Addr)(ks:List TK):Prop:=H a=↥((ks.map txk).map V.str)
def  KdK(K:Frag)(H:Hp)(a:Addr)(ks:List TK):Prop:=KdL H a ks\/SqT K H a ((ks.map txk).map V.str)
def  KdK.same{b:Addr}(x:KdK K H b ks)(s:Same H H'):KdK K H' b ks:=x.elim (λa=>.inl<|s _ _ a) (λa=>.inr<|s.sqt a)
def PF{b:Addr}{x:Str}(h:KdK K H b ks)(q:Q (.bl<|decide<|x∈ks.map txk) H):rIn K false (.str x) (.ref b) H Q:=by
 show(b,(ks.map txk).map V.str,rfl,h.elim (λa=>.inl<|TW a) .inr,rfl,kj _,?_);rw[lW];show q
def me:f:=#[3,∃ P L G A a h w g Td cl Tb ks,vs=[.ref P,.ref A,.ref a]/\Lk H c d P L G A h w g Td cl Tb/\KdK K H a ks/\BkP Q H (ffF h w g Td cl Tb ks)]
def ffin:c:=#[":Gub,{/bjma0a3ch#4 gl,{:bjma0a1a3a4ch#5 npdHb5tci5o"]
def mf:c:=#[":gGubx&--2 ~Wb]b:h#1 pd{;bF121h#3 {?bjmitc"]
def Nj {v2 f v5:Option V} (X:Lk H c d P L G A h w g Td cl Tb)
  (k1:(ffR h w g Td cl Tb t<|rnF Td t).length=0->∀(f v5:Option V) (H':Hp),Same H H'->D.nx [↑P,↑A,v2,some<|.str<|txk t,f,v5] H')
  (k2:¬ (ffR h w g Td cl Tb t<|rnF Td t).length=0->BkP D.rt H (ffR h w g Td cl Tb t<|rnF Td t)):
  ffin K c d D [↑P,↑A,v2,some<|.str<|txk t,f,v5] H:=by
 unfold ffin;exists(P,L,G,h,w,g,Td,cl,t,rfl,X.P,λR H1 s1 U p=>?_);have n:∀ r∈rnF Td t,RuOk Td t r:=λr k=>Md k;generalize rnF Td t=rs at*;show(R,rfl,(_,TW p),?_);show bI (K:=K) (xs:=rs.map V.int) (λi σ H'=>∃(f v5:Option V),σ=[↑P,↑A,v2,some<|.str<|txk t,f,v5]/\Same H1 H'/\ffR h w g Td cl Tb t rs=ffR h w g Td cl Tb t (rs.drop i)) (_,_,rfl,Tu H1,rfl) (λi σ H' _ ⟨_,_,_,s,_⟩=>TW<|s _ _ p) ?_ ?_
 . rintro i v σ q M ⟨f,v5,rfl,m,l⟩;obtain⟨r,k,rfl⟩:=aI M;have z:i<rs.length:=(Tr.mp k).1
   have O:rs.drop i=r::rs.drop (i+1):=by
    rw[UV z]
    congr 1
    show(Tr.mp k).2
   rw[O]at l;have e:ffR h w g Td cl Tb t rs=if (fbF h w g Td cl Tb t r).length=0 then ffR h w g Td cl Tb t (rs.drop<|i+1) else fbF h w g Td cl Tb t r:=l;have a:=s1.trans m;exists(P,L,G,A,h,w,g,Td,cl,Tb,t,r,rfl,X.same a,n r<|Tv k,λB I Ms T x S J N u=>?_);symm;rw[aA];exists(ba #[1],λE F=>?_);obtain⟨Q,C,o,y⟩:=bp (.lst []) F;rw[C];have j:=x.trans o;show OJ (u.same o) y ?_;by_cases h0:(fbF h w g Td cl Tb t r).length=0
   . rw[TZ h0]at e;rw[Tp h0];show(_,rfl,iteF ?_);show(_,_,rfl,m.trans j,e)
   . rw[TX h0]at e;rw[Tq h0];show(_,rfl,iteT ?_);exists k2 (by rw[e];show h0) B I Ms Q (a.trans j) (a.free S) (λb h=>a.free<|J b h) (λb h=>a.free<|N b h) ?_;rw[e];show u.same o
 . rintro σ q ⟨f,v5,rfl,m,l⟩;rw[Tn,VI]at l;show k1 (by rw[l];rfl) f v5 q (s1.trans m)
def Br:R "puzzle masks kinds kind number found" me mf K c d:=by
 obtain⟨P,L,G,A,o,h,w,g,Td,cl,Tb,ks,rfl,X,O,q⟩:=h;exists mf;rw[Bb,OF];intro p r;show(p,rfl,(_,r),?_);rw[lF]at r;show Ke (xs:=allT.map txk) (λx=>decide<|x∈ks.map txk) #[1] r ?_ ?_ ?_
 . intro x H1 R J s1 k1;change tTest _ [none,some<|.str x,↑o] H1 R;exists PF (O.same s1) (_,rfl,k1 _<|Tu _)
 . intro x H1 M J k s1 k1;change tVar 1 [none,some<|.str x,↑o] H1 M;exists k1 _ (Tu _)
 . intro S H1 W s1 n
   have e:((allT.map txk).filter λx=>decide<|x∈ks.map txk)=(allT.filter λt=>decide<|t∈ks).map txk:=by
    rw[Vw];show congrArg _<|List.filter_congr λt _=>?_;show Ni
   rw[e]at n;unfold ffF at q;generalize (allT.filter λt=>decide<|t∈ks)=ts at*;show(S,rfl,(_,TW n),?_);show bI (K:=K) (xs:=(ts.map txk).map V.str) (λi σ H'=>∃(y j m:Option V),σ=[↑P,↑A,↑o,y,j,m]/\Same H1 H'/\ffT h w g Td cl Tb ts=ffT h w g Td cl Tb (ts.drop i)) (_,_,_,rfl,Tu H1,rfl) (λi σ H' _ ⟨_,_,_,_,s,_⟩=>TW<|s _ _ n) ?_ ?_
   . rintro i v σ C D ⟨y,j,m,rfl,l,e⟩;rw[Tw,Tw]at D;obtain⟨u,N,rfl⟩:=UL.mp D;obtain⟨t,z,rfl⟩:=UL.mp N;have I:i<ts.length:=(Tr.mp z).1
     have T:ts.drop i=t::ts.drop (i+1):=by
      rw[UV I]
      congr 1
      show(Tr.mp z).2
     rw[T]at e;have a:ffT h w g Td cl Tb ts=if (ffR h w g Td cl Tb t<|rnF Td t).length=0 then ffT h w g Td cl Tb (ts.drop<|i+1) else ffR h w g Td cl Tb t (rnF Td t):=e;have f:=s1.trans l;exists Nj (X.same f) (λh0 j m U F=>?_) (λh0=>?_)
     . rw[TZ h0]at a;show(_,_,_,rfl,l.trans F,a)
     . rw[TX h0]at a;rw[a]at q;show q.of f
   . rintro σ C ⟨y,j,m,rfl,l,e⟩;rw[Tn,Tn,VI]at e;rw[e]at q;exists(ba #[1],λE B=>?_);show(q.of<|s1.trans l) E [] [] _ ((Tu C).laid B) B (λb k=>by cases k) (λb k=>by cases k) (IsBk.nil ah)
def  OkT(h w g:Int)(Td:List RR)(cl:∅)(ks:List TK)(m:∅)(th:Tho):Prop:=0∉m/\th.t∈ks/\(0<=th.z/\th.z<h*w)/\(1<=th.s/\th.s<=g)/\stB (m.getD th.z.toNat 0) th.s=true/\alwA h w g Td cl m th.t th.r th.z th.s th.ms=true
def  Wlk(h w g:Int)(Td:List RR)(cl:∅)(ks:List TK):∅->List Tho->∅->Prop
 | m,[],m'=>m=m'
 | m,th::r,m'=>OkT h w g Td cl ks m th/\Wlk h w g Td cl ks (stL m th.z th.s) r m'
def Wlk.trans{h w g:Int}{Td:List RR}{cl:∅}{ks:List TK}:∀{a b:List Tho} {m d c:∅},Wlk h w g Td cl ks m a d->Wlk h w g Td cl ks d b c->Wlk h w g Td cl ks m (a++b) c
 | [],_,_,_,_,h1,h2=>by cases (show _=_ from h1);show h2
 | _::_,_,_,_,_,h1,h2=>(h1.1,Wlk.trans h1.2 h2)
variable{m:∅}
def  Wlk.snoc{a:List Tho}{b:∅}{th:Tho}(h1:Wlk h w g Td cl ks m a b)(h2:OkT h w g Td cl ks b th):Wlk h w g Td cl ks m (a++[th]) (stL b th.z th.s):=h1.trans (h2,rfl)
def pM{s:Int}:stB 0 s=false:=by
 unfold stB;rw[show Builtin.Int.intBits 0=0 from rfl]
 cases h1:decide (1<=s) with
 | false=>rfl
 | true=>
  have:=TF h1;rw[Tq (show ¬ s<=((0:Nat):Int) by lia)];rfl
def OL{s:Int}(f:formB h w g Td t r z s=true)(e:faF h w g Td cl Tb t r z s=some ms):alwA h w g Td cl Tb t r z s ms=true:=by
 unfold alwA;rw[f,Uj];unfold faF at e;show List.find?_some e
def yE{h w g:Int}{Td:List RR}{cl:∅}{ks:List TK}{t:TK}{r z:Int}{n:Nat}{p:∅}(b:1<=g)(c:g<=6)(i:t∈ks)(u:n=(h*w).toNat)(f:∀ s,1<=s->s<=g->formB h w g Td t r z s=true):
  ∀(ss:∅) (nb:∅ × List Tho),ss.Nodup->(∀ s∈ss,(1<=s/\s<=g)/\stB (nb.1.getD z.toNat 0) s=true)->MkP g n nb.1->(∀ k,k<n->(k:Int)≠z->nb.1.getD k 0≠0)->Wlk h w g Td cl ks p nb.2 nb.1->
  Wlk h w g Td cl ks p (ss.foldl (fbS h w g Td cl t r z) nb).2 (ss.foldl (fbS h w g Td cl t r z) nb).1/\MkP g n (ss.foldl (fbS h w g Td cl t r z) nb).1
 | [],nb,_,_,M,_,W=>(W,M)
 | s::ss,nb,nd,hs,M,nz,W=>by
  have A:=bT b c;have h1:=hs s TR;have o:=dz<|f 1 #[1] b;have B:=M.len;have y:=M.mm _<|aL (k:=z.toNat) (ms:=nb.1) #[4];rw[UB]at nd;rw[Ul]
  have j:(0:Int)∉nb.1:=λh0=>by
   obtain⟨k,m,e⟩:=Vy.mp h0;have q:nb.1.getD k 0=0:=by rw[List.getD,To m,e];rfl
   by_cases kz:(k:Int)=z
   . have:z.toNat=k:=by lia
     rw[this,q,pM]at h1;cases h1.2
   . show nz k #[4] kz q
  have l:=jx (s:=s) y.1 #[4] h1.1.1 #[4]
  cases e:faF h w g Td cl nb.1 t r z s with
  | none=>
   have e2:fbS h w g Td cl t r z nb s=nb:=by unfold fbS;rw[e]
   rw[e2];show yE b c i u f ss nb nd.2 (λx d=>hs x<|TD _ d) M nz W
  | some ms=>
   have e2:fbS h w g Td cl t r z nb s=(stL nb.1 z s ,nb.2++[(t,r,z,s,ms)]):=by unfold fbS;rw[e]
   rw[e2];show yE b c i u f ss _ nd.2 (λx d=>?_) (M.stL b c h1.1.1 #[4]) (λk m kz=>?_) ?_
   . have a:=hs x<|TD _ d;show(a.1,?_);change stB ((stL nb.1 z s).getD z.toNat 0) x=true;rw[lE #[4],TZ #[4],l.2.1 x a.1.1 #[4] (λv=>nd.1<|v ▸ d)];show a.2
   . change(stL nb.1 z s).getD k 0≠0;rw[lE #[4],TX kz];show nz k m kz
   . show W.snoc (th:=(t,r,z,s,ms)) (j,i,(o.1,o.2.1),h1.1,h1.2,OL (f s h1.1.1 h1.1.2) e)
def EU{h w g:Int}{Td:List RR}{cl:∅}{ks:List TK}{t:TK}{r:Int}{n:Nat}{l:∅}(a:1<=g)(b:g<=6)(j:t∈ks)(o:n=(h*w).toNat):
  ∀(zs:∅) (nb:∅ × List Tho),(∀ z∈zs,∀ s,1<=s->s<=g->formB h w g Td t r z s=true)->0∉nb.1->MkP g n nb.1->Wlk h w g Td cl ks l nb.2 nb.1->∃ m',Wlk h w g Td cl ks l (fbL h w g Td cl t r zs nb) m'
 | [],nb,_,_,_,W=>(_,W)
 | z::zs,nb,f,h0,M,W=>by
  have u:=dz<|f z TR 1 #[1] a;have x:=M.len;have q:=bT a b;have d:=M.mm _<|aL (k:=z.toNat) (ms:=nb.1) #[4];have c:=yE (cl:=cl) a b j o (f z TR) (sgL<|nb.1.getD z.toNat 0) nb (jw _) (λs m=>(jy a b d.1 d.2 m,(bg d.1 s).mp m)) M (λk v _ e=>h0 (by rw[← e];show aL #[4])) W;unfold fbL
  split
  . show(_,c.1)
  . rename_i i
    show EU a b j o zs _ (λz p=>f z<|TD _ p) i c.2 c.1
def EV{c:XZ}{h w g:Int}{Td:List RR}{cl:∅}{ks:List TK}{t:TK}{Tb:∅}(R:bY c h w g Td)(a:t∈ks)(M:MkP g (h*w).toNat Tb)(h0:0∉Tb):∀ rs:∅,(∀ r∈rs,RuOk Td t r)->∃ m',Wlk h w g Td cl ks Tb (ffR h w g Td cl Tb t rs) m'
 | [],_=>(_,rfl)
 | r::rs,ok=>by
  unfold ffR
  split
  . show EV R a M h0 rs λr d=>ok r (TD _ d)
  . show EU R.F.g0 R.F.g1 a rfl _ (Tb ,[]) (λz b s s0 s1=>ES R (ok r TR) b s0 s1) h0 M rfl
def EW(R:bY c h w g Td)(M:MkP g (h*w).toNat Tb)(h0:0∉Tb):∃ m',Wlk h w g Td cl ks Tb (ffF h w g Td cl Tb ks) m':=by
 have f:∀ a:List TK,(∀ t∈a,t∈ks)->∃ m',Wlk h w g Td cl ks Tb (ffT h w g Td cl Tb a) m':=λa=>by
  induction a with
  | nil=>show λ_=>(_,rfl)
  | cons t a d=>
   intro b;unfold ffT
   split
   . show d λt h=>b t (TD _ h)
   . show EV R (b t TR) M h0 _ λr e=>Md e
 show f _ λt b=>TF (TM.mp b).2
def  btA(ms:∅):Nat:=(ms.map λm=>(sgL m).length).sum
def yF(f:Int->Nat):∀(ms:∅) (k:Nat) (x:Int),k<ms.length->((ms.set k x).map f).sum+f (ms.getD k 0)=(ms.map f).sum+f x
 | [],_,_,h=>by simp at h
 | m::r,0,x,_=>by simp;lia
 | m::r,k+1,x,h=>by
  have a:=yF f r k x (by simpa using h);simp only[List.set_cons_succ,T7,U4,List.getD_cons_succ];lia
def Hr{s:Int}(b:0<=z):stL ms z s=ms.set z.toNat (woI (ms.getD z.toNat 0) s):=by
 show U0 λi=>?_;unfold stL;rw[Tw,W7];by_cases a:i<ms.length
 . rw[UE a];change some (if (i:Int)=z then woI (ms.getD i 0) s else ms.getD i 0)=_;by_cases e:z.toNat=i
   . rw[TZ #[4],TZ e,TZ #[4],e]
   . rw[TX #[4],TX e,List.getD,To a];rfl
 . rw[TV (by rw[UG];lia)]
   split
   . rw[TX #[4]];rfl
   . rw[TV #[4]];rfl
def OkT.bits{th:Tho}(X:OkT h w g Td cl ks m th)(M:MkP g (h*w).toNat m)(f:1<=g)(e:g<=6):btA (stL m th.z th.s)+1=btA m:=by
 obtain⟨_,_,z,s,c,_⟩:=X;have i:=bT f e;have j:=M.len;have d:=M.mm _<|aL (k:=th.z.toNat) (ms:=m) #[4];have a:=(jx (s:=th.s) d.1 #[4] s.1 #[4]).2.2 c;have b:=yF (λm=>(sgL m).length) m th.z.toNat (woI (m.getD th.z.toNat 0) th.s) #[4];unfold btA;rw[Hr z.1]
 try dsimp only at b
 lia
abbrev runA(m:∅)(Tj:List Tho):∅:=Tj.foldl (λm a=>stL m a.z a.s) m
def Wlk.run{h w g:Int}{Td:List RR}{cl:∅}{ks:List TK}:∀{a:List Tho} {m m':∅},Wlk h w g Td cl ks m a m'->m'=runA m a
 | [],_,_,h=>(show _=_ from h).symm
 | th::r,m,m',h=>Wlk.run (a:=r) h.2
def Wlk.pre{h w g:Int}{Td:List RR}{cl:∅}{ks:List TK}:∀{a b:List Tho} {m m':∅},Wlk h w g Td cl ks m (a++b) m'->Wlk h w g Td cl ks m a (runA m a)/\Wlk h w g Td cl ks (runA m a) b m'
 | [],_,_,_,h=>(rfl,h)
 | th::r,b,m,m',h=>((h.1,(Wlk.pre (a:=r) h.2).1),(Wlk.pre (a:=r) h.2).2)
def Wlk.okM{h w g:Int}{Td:List RR}{cl:∅}{ks:List TK}(d:1<=g)(c:g<=6):∀{a:List Tho} {m m':∅},Wlk h w g Td cl ks m a m'->MkP g (h*w).toNat m->MkP g (h*w).toNat m'/\btA m'+a.length=btA m
 | [],_,_,h,M=>by cases (show _=_ from h);show(M,by simp)
 | th::r,m,m',h,M=>by
  have s:=h.1.2.2.2.1;have b:=h.1.bits M d c;have:=Wlk.okM d c (a:=r) h.2<|M.stL d c s.1 #[4];show(this.1,?_);rw[T8];lia
def EX(i:1<=g)(f:g<=6)(M:MkP g n ms)(l:n<=16):btA ms<=96:=by
 have k:=bT i f
 have j:∀ xs:∅,(∀ m∈xs,0<=m/\m<64)->btA xs<=6*xs.length:=λxs=>by
  induction xs with
  | nil=>show λ_=>TQ _
  | cons x r h=>
   intro e;have a:=h λm d=>e m<|TD _ d;have b:=e x TR;have c:=ET b.1 b.2;unfold btA at a ⊢;rw[T7,U4,T8];lia
 have:=j ms λm d=>by have:=M.mm m d;lia
 have:=M.len;lia
inductive Go(h w g:Int)(Td:List RR)(cl:∅)(ks:List TK)(m0:∅):List Tho->∅->Prop
 | nil:Go h w g Td cl ks m0 [] m0
 | step {b:List Tho} {m:∅}:Go h w g Td cl ks m0 b m->0∉m->ffF h w g Td cl m ks≠[]->Go h w g Td cl ks m0 (b++ffF h w g Td cl m ks) (runA m<|ffF h w g Td cl m ks)
inductive ThR(h w g:Int)(Td:List RR)(cl:∅)(ks:List TK):∅->List Tho->∅->Prop
 | stop {m:∅}:(0∈m\/ffF h w g Td cl m ks=[])->ThR h w g Td cl ks m [] m
 | go {m:∅} {r:List Tho} {x:∅}:0∉m->ffF h w g Td cl m ks≠[]->ThR h w g Td cl ks (runA m<|ffF h w g Td cl m ks) r x->ThR h w g Td cl ks m (ffF h w g Td cl m ks++r) x
variable{b:List Tho}{m0:∅}
def Go.th(a:Go h w g Td cl ks m0 b m):∀{r:List Tho} {x:∅},ThR h w g Td cl ks m r x->ThR h w g Td cl ks m0 (b++r) x:=by
 induction a with
 | nil=>show λt=>t
 | step a n f c=>
  intro r x t;rw[UR];show c (.go n f t)
def ThR.det{a:List Tho}{x:∅}(t:ThR h w g Td cl ks m a x):∀{b:List Tho} {y:∅},ThR h w g Td cl ks m b y->a=b/\x=y:=by
 induction t with
 | stop e=>
  intro b y u
  cases u with
  | stop _=>show(rfl,rfl)
  | go n f _=>show absurd e (λe=>e.elim n f)
 | go n f _ c=>
  intro b y u
  cases u with
  | stop e=>show absurd e (λe=>e.elim n f)
  | go _ _ u=>
   obtain⟨e1,e2⟩:=c u;show(by rw[e1],e2)
abbrev End(h w g:Int)(Td:List RR)(cl:∅)(ks:List TK)(m:∅):Prop:=0∈m\/ffF h w g Td cl m ks=[]
def Go.full(a:Go h w g Td cl ks m0 b m)(e:End h w g Td cl ks m):ThR h w g Td cl ks m0 b m:=by
 have:=a.th<|.stop e;rw[Wz]at this;show this
def  IsBk.keep{x:Addr}{bs:List Addr}{xs ys:List V}(X:IsBk H l bs Ms Tj)(f:H x=↥xs)(g:l≠x)(d:x∉Ms):IsBk (upd H x<|.lst ys) l bs Ms Tj:=
 (by rw[ak g];show X.top,X.len,X.lnM,X.nl,λi b M c h1 h2 h3=>by
  have z:=X.at_ i b M c h1 h2 h3;have a:M≠x:=λe=>d (by rw[← e];show Tv h2);show(by rw[ak (λe=>by have:=z.T;rw[e,f]at this;cases this)];show z.T,by rw[ak a];show z.M,z.n))
def  ThkP(Q:VK)(H:Hp)(h w g:Int)(Td:List RR)(cl Tb:∅)(ks:List TK):Prop:=∀(T N B:Addr) (c Ms:List Addr) (a:∅) (Tj:List Tho) (H':Hp),Same H H'->H T=none->H N=none->H B=none->(∀ b∈c,H b=none)->(∀ M∈Ms,H M=none)->H' T=some (.tup [.ref N,.ref B])->H' N=↥(a.map V.int)->IsBk H' B c Ms Tj->N≠B->Wlk h w g Td cl ks Tb Tj a->(0∈a\/ffF h w g Td cl a ks=[])->ThR h w g Td cl ks Tb Tj a->Q (.ref T) H'
def dX:f:=#[3,∃ P L G A a h w g Td cl Tb ks,vs=[.ref P,.ref A,.ref a]/\Lk H c d P L G A h w g Td cl Tb/\KdK K H a ks/\ThkP Q H h w g Td cl Tb ks]
def thin:c:=#[":Gub5h#6 g*ObK~k4a6cl,~eba3adk6ef#2 adk6ef#3 ch#3 "]
def yG:c:=#[":glr~ma1ch#3 gltch#4 g'Ayq,Mba3cgl,{[bjma0a3a2ch#5 gnpdsb5tciNa3a4co{]bjmiNa3a4c"]
def Nk {N B F:Addr} {bs f a:List Addr} {Tj m':_} {v1 v2 v6:Option V} (X:Fb H0 H c d P L G N B bs Ms h w g Td cl nb) (fN:H0 N=none) (Y:IsBk H F f a Tj) (nF:F≠B) (nM:B∉a) (I:∀ b∈f,H0 b=none) (C:∀ M∈a,H0 M=none) (W:Wlk h w g Td cl ks nb.1 Tj m') (bl:nb.2.length+Tj.length<=96)
  (k:∀(n:Addr) (v6:Option V) (H':Hp),Fb H0 H' c d P L G n B (bs++f) (Ms++a) h w g Td cl (m' ,nb.2++Tj)->H0 n=none->D.nx [↑P,v1,v2,↑n,↑B,↑F,v6] H'):
  thin K c d D [↑P,v1,v2,↑N,↑B,↑F,v6] H:=by
 have g0:=X.pz.R.F.g0;have g6:=X.pz.R.F.g1;have ae:=X.pz.R.F.m;have l1:=Y.len;have l2:=Y.lnM;unfold thin;exists((_,TW Y.top),?_)
 show bI (K:=K) (xs:=f.map V.ref) (λi σ H'=>∃(n:Addr) (v6:Option V),σ=[↑P,v1,v2,↑n,↑B,↑F,v6]/\Fb H0 H' c d P L G n B (bs++f.take i) (Ms++a.take i) h w g Td cl (runA nb.1<|Tj.take i ,nb.2++Tj.take i)/\H0 n=none/\IsBk H' F f a Tj)
  (N,_,rfl,by simpa using X,fN,Y) (λi σ H' _ ⟨_,_,_,_,_,y⟩=>TW y.top) ?_ ?_
 . rintro i v σ H1 hv ⟨n,v6,rfl,j,u,O⟩;obtain⟨b,r,rfl⟩:=aY hv;have hi:i<f.length:=(Tr.mp r).1;have Q:a[i]? =some a[i]:=To #[4];have E:Tj[i]? =some Tj[i]:=To #[4];have Th:=O.at_ i b _ _ r Q E;have t:a[i]∈a:=T0 _;have tb:f.take (i+1)=f.take i++[b]:=by rw[Vc,r];rfl
   have tM:a.take (i+1)=a.take i++[a[i]]:=by rw[Vc,Q];rfl
   have tt:Tj.take (i+1)=Tj.take i++[Tj[i]]:=by rw[Vc,E];rfl
   have W1:Wlk h w g Td cl ks nb.1 (Tj.take i++Tj.drop i) m':=by rw[Wl];show W
   have Z:=W1.pre.2;rw[UV (show i<Tj.length by lia)]at Z;have ok:=Z.1;have S:=j.mp;dsimp only at S;have tl:(Tj.take i).length<=Tj.length:=by rw[Uu];lia
   generalize hM:a[i]=M at*;generalize ab:Tj[i]=th at*;rw[tb,tM,tt];have er:runA nb.1 (Tj.take i++[th])=stL (runA nb.1<|Tj.take i) th.z th.s:=by unfold runA;rw[U6];rfl
   rw[er];generalize runA nb.1 (Tj.take i)=nw at*;have MB:M≠B:=λe=>nM<|e ▸ t;have U:=j.bk.len;rw[TJ]at U;exists(bB j.bk.top,?_);rw[gJ j.bk.top];show(by rw[Tn,j.bk.len,TJ];show aH #[4],?_);have Bk:=j.bk.app (th:=th) (Tu H1) Th MB;have s4:=j.sm.own (o:=.lst ((bs++f.take i).map V.ref++[V.ref b])) X.fB;have n4:(upd H1 B<|.lst<|(bs++f.take i).map V.ref++[V.ref b]) n=↥(nw.map V.int):=by rw[ak j.nB];show j.nw
   have Y4:=O.keep (ys:=(bs++f.take i).map V.ref++[V.ref b]) j.bk.top nF nM;have q:=Y4.at_ i b M th r (by rw[Q]) (by rw[E]);generalize upd H1 B (.lst<|(bs++f.take i).map V.ref++[V.ref b])=H4 at*;exists ixT q.T (v:=V.int th.z) rfl ?_;exists ixT q.T (v:=V.int th.s) rfl ?_;symm;have sb:=ok.2.2.2.1;show(n,nw,th.z,th.s,rfl,n4,by have:=S.len;lia,by lia,λN3 H5 A p J=>?_);show(N3,_,rfl,(s4.trans A,X.pz,J,S.stL g0 g6 sb.1 #[4],?_,λe'=>?_,X.fB,λx l=>?_,λx l=>?_),s4.free p,Y4.same A)
   . have:=Bk.same A;rw[UR,UR,UR]at this;show this
   . rw[e',Bk.top]at p;cases p
   . rw[← UR]at l;rcases Ud.mp l with l | l
     . show j.fb x l
     . rw[TH.mp l];show I b (Tv r)
   . rw[← UR]at l;rcases Ud.mp l with l | l
     . show j.fM x l
     . rw[TH.mp l];show C M t
 . rintro σ H1 ⟨n,v6,rfl,j,u,O⟩;rw[Tn,UF,show f.length=a.length by lia,UF,show a.length=Tj.length by lia,UF]at j;rw[← W.run]at j;show k n v6 H1 j u
def Lw:R "puzzle masks kinds now book found thought" dX yG K c d:=by
 obtain⟨P,L,G,A,Kd,h,w,g,Td,cl,Tb,ks,rfl,X,hK,q⟩:=h;have g0:=X.P.R.F.g0;have D:=X.P.R.F.g1;have ap:=X.P.R.F.m;have ao:=EX g0 D X.mkp #[4];exists yG;show o8 X.A λN hN=>?_;obtain⟨H1,J,s1,eN⟩:=bp (.lst<|Tb.map V.int) hN;rw[J];exists(ba #[1],λB C=>?_);have s2:Same H1 (upd H1 B<|.lst []):=(Tu H1).laid C;have eB:(upd H1 B<|.lst []) B=some (.lst []):=ah;have ae:N≠B:=λe=>by rw[e]at eN;rw[eN]at C;cases C
 generalize upd H1 B (.lst [])=H2 at*;have S:=s1.trans s2;have X0:Fb H H2 c d P L G N B [] [] h w g Td cl (Tb ,[]):=(S,X.P,s2 _ _ eN,X.mkp,IsBk.nil eB,ae,s1.free C,(λb o=>by cases o),(λb o=>by cases o))
 show(λm σ H'=>∃(N:Addr) (n Ms:List Addr) (z s:Option V) (nb:∅ × List Tho),σ=[↑P,↑A,↑Kd,↑N,↑B,z,s]/\Fb H H' c d P L G N B n Ms h w g Td cl nb/\H N=none/\Wlk h w g Td cl ks Tb nb.2 nb.1/\Go h w g Td cl ks Tb nb.2 nb.1/\m=btA nb.1,
  (_,N,[],[],none,none,(Tb ,[]),rfl,X0,hN,rfl,.nil,rfl),?_)
 rintro m σ H3 ⟨l,n,Ms,z,s,nb,rfl,a,fN,W,Gg,rfl⟩
 have r:∀(j:Hp),Same H3 j->(0∈nb.1\/ffF h w g Td cl nb.1 ks=[])->([V.ref l,V.ref B]:List V).length<=sizeLine/\∀ p,j p=none->Q (.ref p) (upd j p<|.tup [V.ref l,V.ref B]):=λj s4 i=>by
  have v:=a.same s4;show(lnR rfl,λT hT=>?_);have k:Same j (upd j T<|.tup [V.ref l,V.ref B]):=(Tu j).laid hT;show q T l B n Ms nb.1 nb.2 _ (v.sm.trans k) (v.sm.free hT) fN a.fB a.fb a.fM ah (k _ _ v.nw) (v.bk.same k) a.nB W i (Gg.full i)
 have ob:=W.okM g0 D X.mkp;exists(l,nb.1,rfl,a.nw,?_);by_cases h0:(0:Int)∈nb.1
 . rw[Tp h0];show(true,rfl,iteF ?_);exists r H3 (Tu _) (.inl h0)
 . rw[Tq h0];show(false,rfl,iteT ?_)
   show(λσ H'=>∃(N:Addr) (n Ms:List Addr) (z s:Option V) (f:∅ × List Tho),σ=[↑P,↑A,↑Kd,↑N,↑B,z,s]/\Fb H H' c d P L G N B n Ms h w g Td cl f/\H N=none/\Wlk h w g Td cl ks Tb f.2 f.1/\Go h w g Td cl ks Tb f.2 f.1/\btA f.1<btA nb.1,
    λσ' H' oh=>by obtain⟨N',Z,O,ab,I,af,e,X',ak,W',G',lt⟩:=oh;show (_,lt,N',Z,O,ab,I,af,e,X',ak,W',G',rfl),?_)
   exists(P,L,G,l,Kd,h,w,g,Td,cl,nb.1,ks,rfl,a.lk,hK.same a.sm,λF al aj j s4 hF ag u Y=>?_);obtain⟨m',y⟩:=EW (cl:=cl) (ks:=ks) X.P.R a.mp h0;symm;rw[aA];exists(ba #[1],λE hE=>?_);obtain⟨H5,J,k,eE⟩:=bp (.lst []) hE;rw[J];have t:=s4.trans k;show OK (Y.same k) eE ?_;by_cases x:(ffF h w g Td cl nb.1 ks).length=0
   . rw[Tp x];show(_,rfl,iteT ?_);exists r H5 t (.inr<|Vi.mp x)
   . rw[Tq x];show(_,rfl,iteF ?_);have am:=y.okM g0 D a.mp;have X5:=a.same t;have nF:F≠B:=λe=>by rw[e,a.bk.top]at hF;cases hF
     have nM:B∉aj:=λhm=>by have:=u B hm;rw[a.bk.top]at this;cases this
     show Nk X5 fN (Y.same k) nF nM (λb o=>a.sm.free<|ag b o) (λM hM=>a.sm.free<|u M hM) y #[4] λN3 s H6 X6 U=>?_;show(N3,_,_,_,_,_,rfl,X6,U,W.trans y,(by have:=Go.step Gg h0 (λe=>x (by rw[e];rfl));rw[← y.run]at this;show this),by change btA m'<btA nb.1;lia)
abbrev iN(cs:List Nat):∅:=cs.map λ(n:Nat)=>(n:Int)
variable{cs:List Nat}
def EY{c:Int}(h:c∈iN cs):0<=c/\c.toNat∈cs:=by
 obtain⟨n,a,rfl⟩:=Tz.mp h;show(by lia,by rw[Ui];show a)
structure Cs58(h w:Int)(cs:List Nat):Prop where
 ne:cs≠[]
 nd:cs.Nodup
 lt:∀ c∈cs,(c:Int)<h*w
 len:cs.length<=16
def  Cs58.sub{a:List Nat}(X:Cs58 h w cs)(s:a.Sublist cs)(b:a≠[]):Cs58 h w a:=(b,X.nd.sublist s,λc d=>X.lt c<|s.subset d,TU s.length_le X.len)
def  Cs58.lt100(X:Cs58 h w cs)(F:FlOk h w g):∀ c∈cs,c<100:=λc a=>by
 have:=X.lt c a;have:=F.m;omega
def Lx{fl:∅}(Y:Cs58 h w cs)(a:fl.length=(h*w).toNat)(b:∀ x∈fl,1<=x/\x<=g){x:Int}(c:x∈iN cs):0<=x/\x<fl.length/\1<=fl.getD x.toNat 0/\fl.getD x.toNat 0<=g:=by
 have m:=EY c;have l:=Y.lt _ m.2;have:x.toNat<fl.length:=by lia
 have e:fl.getD x.toNat 0=fl[x.toNat]:=by rw[List.getD,To this];rfl
 have:=b _<|T0 this;rw[e];lia
def EZ:∀(xs:∅),(∀ x∈xs,0<=x/\x<=6)->0<=xs.sum/\xs.sum<=6*xs.length
 | [],_=>by simp
 | x::r,h=>by
  have a:=h x TR;have b:=EZ r λy c=>h y<|TD _ c;rw[U4,T8];lia
def  E2(K:Frag):List V->Hp->VK->Prop:=λxs H Q=>∃ p a,xs=[.ref p]/\(SqL K H p a\/SqT K H p a)/\∀ l,H l=none->Q (.ref l) (upd H l<|.lst a)
def  GA{X:Cx}:CallR X (.type "list") (E2 X.K):=uG
def pN:d:=#[3,∃ a h w g,vs=[.ref a]/\IsFl H a h w g/\1<=g/\g<=6/\Q (.int<|2^g.toNat-1) H]
def pO:a:=#[":id~a,~/badAdk0ef#2 ef#1 cef#1 "]
def E3{K:Frag}{vs:List V}{H:Hp}{Q:VK}{E:XK}:R "floor" pN pO K:=by
 obtain⟨a,h,w,g,rfl,b,c,d,q⟩:=h;exists pO;show ixT b (v:=V.int g) rfl ?_;exists(g+1,rfl,by lia,by lia,?_);symm;rw[Int.add_sub_cancel];show q
def  mbI(g x:Int):Int:=if x=0 then 2^g.toNat-1 else 2^(x-1).toNat
def OM:((List.range 7).all λg=>(List.range 7).all λx=>!(decide (1<=g)&&decide (x<=g))||(decide (0<=mbI (g:Int) (x:Int)/\mbI (g:Int) (x:Int)<2^g)&&((List.range 6).all λs=>decide<|stB (mbI (g:Int) (x:Int)) (1+(s:Int))=(decide (s<g)&&(decide (x=0)||decide (x=1+s))))))=true:=by decide+kernel
def zY{g x:Int}(e:1<=g)(d:g<=6)(f:0<=x)(b:x<=g):(0<=mbI g x/\mbI g x<2^g.toNat)/\∀ s,1<=s->s<=6->stB (mbI g x) s=(decide (s<=g)&&(decide (x=0)||decide (x=s))):=by
 have t:=Ty.mp (Ty.mp OM g.toNat<|TC.mpr #[4]) x.toNat<|TC.mpr #[4];have e1:((g.toNat:Nat):Int)=g:=by lia
 have e2:((x.toNat:Nat):Int)=x:=by lia
 rw[e1,e2,Tp (show 1<=g.toNat by lia),Tp (show x.toNat<=g.toNat by lia),Uj,Wr,UH,Tx,Tt]at t;show(t.1,λs s0 c=>?_);have u:=TF<|Ty.mp t.2 (s-1).toNat<|TC.mpr #[4];have a:1+(((s-1).toNat:Nat):Int)=s:=by lia
 rw[a]at u;rw[u]
 congr 1
 . show Xo.mpr #[4]
 . congr 1
   . show Xo.mpr #[4]
   . show Xo.mpr #[4]
def Mg{p:Int->Bool}{z:Int}:∀{l:∅},z∈l->p z=true->((l.filter λx=>!decide (x=z)).filter p).length+1<=(l.filter p).length
 | [],h,_=>by cases h
 | x::r,h,hp=>by
  have le:((r.filter λx=>!decide (x=z)).filter p).length<=(r.filter p).length:=by
   rw[List.filter_filter,← UX,← UX];show Wm λa _ c=>(by rw[Tx]at c;show c.1)
  by_cases e:x=z
  . subst e;rw[VL (by simp),Vj (p:=p) hp,T8];lia
  . have d:=Mg (l:=r) (p:=p) ((TN.mp h).resolve_left<|Wa e) hp;rw[Vj (by simp[e])];by_cases b:p x=true
    . rw[Vj b,Vj b,T8,T8];lia
    . rw[VL b,VL b];show d
def E4{f g:Int->Bool}{l:∅}(h:∀ x∈l,f x=true->g x=true):(l.filter f).length<=(l.filter g).length:=by
 rw[← UX,← UX];show Wm h
variable{Tb:∅}
def ON{m:Int}(cs:∅):mayN Tb m cs=(cs.filter λc=>stB (Tb.getD c.toNat 0) m).length:=by
 unfold mayN sgAt;rw[Vw,Tn];rfl
def OO{m:Int}(cs:∅):onlN Tb m cs=(cs.filter λc=>decide<|woI (Tb.getD c.toNat 0) m=0).length:=by
 unfold onlN sgAt;rw[Vw,Tn];rfl
structure AnsA(h w g:Int)(Td:List RR)(cl Tb fl:∅):Prop where
 F:FlOk h w g
 fll:fl.length=(h*w).toNat
 ml:Tb.length=(h*w).toNat
 mm:∀ m∈Tb,0<=m/\m<64
 sg:∀ x∈fl,1<=x/\x<=g
 st:∀ k,k<fl.length->stB (Tb.getD k 0) (fl.getD k 0)=true
 cu:∀ k,k<fl.length->cl.getD k 0=0\/cl.getD k 0=fl.getD k 0
 ok:∀ x∈Td,x.Ok h w g
 ho:∀ x∈Td,hoB x.k h w x.cs x.n x.m fl=true
variable{h w g:Int}{Td:List RR}{Tb fl:∅}
def AnsA.at_{cl:∅}(A:AnsA h w g Td cl Tb fl)(c:Int)(c0:0<=c)(a:c<h*w):(0<=Tb.getD c.toNat 0/\Tb.getD c.toNat 0<64)/\(1<=fl.getD c.toNat 0/\fl.getD c.toNat 0<=g)/\stB (Tb.getD c.toNat 0) (fl.getD c.toNat 0)=true:=by
 have b:=A.fll;have d:=A.ml;have h1:c.toNat<fl.length:=by lia
 have h2:c.toNat<Tb.length:=by lia
 show(?_,?_,A.st _ h1)
 . rw[List.getD,To h2];show A.mm _ (T0 h2)
 . rw[List.getD,To h1];show A.sg _ (T0 h1)
abbrev AtA(m g:Int)(Tb fl:∅):Prop:=∀ c:Int,0<=c->c<m->(0<=Tb.getD c.toNat 0/\Tb.getD c.toNat 0<64)/\(1<=fl.getD c.toNat 0/\fl.getD c.toNat 0<=g)/\stB (Tb.getD c.toNat 0) (fl.getD c.toNat 0)=true
variable{m z:Int}{ms:∅}
def rl{y:RR}{t:TK}{s:Int}(Y:g<=6)(s0:1<=s)(s1:s<=g)(d:AtA m g Tb fl)(i:∀ c∈y.cs,0<=c/\c<m)(u:(y.cs.map λc=>fl.getD c.toNat 0).Nodup)(F:z∈y.cs)(L:t=.only\/t=.place\/t=.pair)(h:lw g t y Tb z s ms=true):fl.getD z.toNat 0≠s:=by
 intro e;rcases L with rfl | rfl | rfl
 . unfold lw onlyB at h;simp only[Tx,Tt,TM,UU,U1]at h;obtain⟨_,⟨f,j⟩,hw⟩:=h;generalize ms.getD 0 0=o at*;have I:=i o f;have a:=d _ I.1 I.2;have W:=J6 a.1.1 a.1.2 s0 #[4] a.2.1.1 #[4] hw a.2.2;show DL u f F j (W.trans e.symm)
 . unfold lw kY at h;simp only[Tx,Tt,UU,U1]at h;obtain⟨C,_,j,⟨P,O⟩,H⟩:=h;generalize ms.getD 0 0=x at*
   have Q:=OA (x:=x) u (λv R=>by
    obtain⟨c,n,rfl⟩:=Tz.mp R;show(d _ (i c n).1 (i c n).2).2.1) (by rw[Tn];show C) P O
   obtain⟨o,f,D⟩:=Tz.mp Q;have a:=d _ (i o f).1 (i o f).2;by_cases A:o=z
   . rw[A]at D;show j (D.symm.trans e)
   . have w:Tb.getD o.toNat 0∈(sgAt Tb<|y.cs.filter λx=>!decide (x=z)).filter λm=>stB m x:=by
      show TM.mpr (?_,?_)
      . unfold sgAt;show Tz.mpr (o,TM.mpr (f,by simp[A]),rfl)
      . have:=a.2.2;rw[D]at this;show this
     rw[Vi.mp H]at w;cases w
 . unfold lw pairB at h;rw[Tx]at h;obtain⟨f,C⟩:=h;unfold ordB at f;simp only[Tx,Tt]at f C;obtain⟨_,m0,S,B⟩:=f;unfold orM at C;generalize ms.getD 0 0=a at*;generalize ms.getD 1 0=b at*;have q:=TM.mp m0;have p:=TM.mp S;simp only[UU,U1]at q p;have E:a≠b:=λr=>by rw[r]at B;show absurd B (UY _)
   have K:=i a q.1;have J:=i b p.1;have l:=d _ K.1 K.2;have k:=d _ J.1 J.2;have M:=DL u q.1 F q.2;have nb:=DL u p.1 F p.2;have G:=DL u q.1 p.1 E;have T:=Hn l.1.1 l.1.2 k.1.1 k.1.2 l.2.1.1 #[4] (.inl l.2.2);have U:=Hn l.1.1 l.1.2 k.1.1 k.1.2 k.2.1.1 #[4] (.inr k.2.2);have X:fl.getD a.toNat 0∈(sgL<|Builtin.bitOr (Tb.getD a.toNat 0)<|Tb.getD b.toNat 0).filter λx=>!decide (x=s):=TM.mpr (T,by rw[Tq<|λr=>M<|r.trans e.symm];rfl);have N:fl.getD b.toNat 0∈(sgL<|Builtin.bitOr (Tb.getD a.toNat 0)<|Tb.getD b.toNat 0).filter λx=>!decide (x=s):=TM.mpr (U,by rw[Tq<|λr=>nb<|r.trans e.symm];rfl);have:=M9 X N G;lia
def RR.ndA{r:RR}(O:r.Ok h w g):r.cs.Nodup:=by
 cases c:allK r.k with
 | false=>
  obtain⟨f,j,i,d,e⟩:=O.cl.told c;rw[e];show List.Pairwise.map _ (λa b (h:a≠b)=>by change((a:Nat):Int)≠_;lia) d
 | true=>
  rw[(O.cl.all c).2];unfold rngL;show List.Pairwise.map _ (λa b (h:a≠b)=>by change(0:Int)+(a:Int)≠0+(b:Int);lia) Xl
def E5(f:Int->Int){z:Int}:∀{cs:∅},cs.Nodup->z∈cs->(cs.map f).sum=f z+((othL cs z).map f).sum
 | [],_,h=>by cases h
 | x::r,nd,h=>by
  rw[UB]at nd;unfold othL;by_cases e:x=z
  . subst e
    have c:(r.filter λy=>!decide (y=x))=r:=VG.mpr λy b=>by
     have:y≠x:=λe=>nd.1<|e ▸ b;simp[this]
    rw[VL (by simp),c,T7,U4]
  . have a:=E5 f nd.2<|(TN.mp h).resolve_left<|Wa e;unfold othL at a;rw[Vj (by simp[e]),T7,U4,T7,U4,a];lia
def Ly:((List.range 64).all λm=>(List.range 6).all λj=>!stB (m:Int) (1+(j:Int))||decide (loM (m:Int)<=1+(j:Int)/\1+(j:Int)<=hiM (m:Int)))=true:=by decide+kernel
def Hs{x:Int}(m0:0<=m)(c:m<64)(d:1<=x)(b:x<=6)(h:stB m x=true):loM m<=x/\x<=hiM m:=by
 have t:=Ty.mp (Ty.mp Ly m.toNat<|TC.mpr #[4]) (x-1).toNat<|TC.mpr #[4];have e1:((m.toNat:Nat):Int)=m:=by lia
 have a:1+(((x-1).toNat:Nat):Int)=x:=by lia
 rw[e1,a,h]at t
 simpa using t
def Bs{α:Type}(f g:α->Int):∀{cs:List α},(∀ c∈cs,f c<=g c)->(cs.map f).sum<=(cs.map g).sum
 | [],_=>W8 _
 | x::r,h=>by
  have:=Bs f g (cs:=r) λc a=>h c<|TD _ a;have:=h x TR;rw[T7,T7,U4,U4];lia
variable{cs:∅}
def oth_memA{c:Int}:c∈othL cs z↔c∈cs/\c≠z:=by
 unfold othL;rw[TM];simp
def  OP(b:AtA m g Tb fl)(d:∀ c∈cs,0<=c/\c<m):(0:Int)∉sgAt Tb cs:=λh=>by
 unfold sgAt at h;obtain⟨c,f,e⟩:=Tz.mp h;have a:=b c (d c f).1 (d c f).2;rw[e,pM]at a;show absurd a.2.2 #[1]
def Iw{n:Int}{s:Int}(p:g<=6)(f:AtA m g Tb fl)(j:∀ c∈cs,0<=c/\c<m)(h:cs.Nodup)(l:z∈cs)(o:(sgAt fl cs).sum=n)(q:sumB cs n Tb z s ms=true):fl.getD z.toNat 0≠s:=by
 intro e;have b:∀ c∈othL cs z,0<=c/\c<m:=λc d=>j c (oth_memA.mp d).1
 have t:=Bs (λc=>loM<|Tb.getD c.toNat 0) (λc=>fl.getD c.toNat 0) (cs:=othL cs z) λc d=>by
  have a:=f c (b c d).1 (b c d).2;show(Hs a.1.1 a.1.2 a.2.1.1 #[4] a.2.2).1
 have v:=Bs (λc=>fl.getD c.toNat 0) (λc=>hiM<|Tb.getD c.toNat 0) (cs:=othL cs z) λc d=>by
  have a:=f c (b c d).1 (b c d).2;show(Hs a.1.1 a.1.2 a.2.1.1 #[4] a.2.2).2
 have u:=E5 (λc=>fl.getD c.toNat 0) h l;unfold sumB smB at q;rw[Tq<|OP f b,UH,Tx,Uw]at q;simp only[Tt]at q;unfold sgAt at q o;rw[Uq,Uq]at q;have k:((othL cs z).map<|loM ∘ λc=>Tb.getD c.toNat 0).sum=((othL cs z).map λc=>loM<|Tb.getD c.toNat 0).sum:=rfl;have i:((othL cs z).map<|hiM ∘ λc=>Tb.getD c.toNat 0).sum=((othL cs z).map λc=>hiM<|Tb.getD c.toNat 0).sum:=rfl;rw[k,i]at q;have r:=q.2;lia
def Iy{n k:Int}{s:Int}(B:g<=6)(k0:1<=k)(k6:k<=6)(r:AtA m g Tb fl)(y:∀ c∈cs,0<=c/\c<m)(A:z∈cs)(t:((mkAt fl cs k).length:Int)=n)(q:cntB cs n k Tb z s ms=true):fl.getD z.toNat 0≠s:=by
 intro e;have b:∀ c∈othL cs z,0<=c/\c<m:=λc v=>y c (oth_memA.mp v).1;unfold cntB at q;rw[Tx]at q;have h:=q.2;by_cases j:s=k
 . rw[TZ j,Tt]at h;have o:=OO (Tb:=Tb) (m:=s)<|othL cs z;unfold onlN at o;rw[o]at h
   have u:=E4 (f:=λc=>decide<|woI (Tb.getD c.toNat 0) s=0) (g:=λc=>decide<|fl.getD c.toNat 0=k) (l:=othL cs z) λx i d=>by
    have a:=r x (b x i).1 (b x i).2;show Tp ((J6 a.1.1 a.1.2 #[4] #[4] a.2.1.1 #[4] (TF d) a.2.2).trans j)
   have c:=Mg (p:=λc=>decide<|fl.getD c.toNat 0=k) A<|Tp<|e.trans j;unfold mkAt at t;unfold othL at u h;lia
 . rw[TX j,Tt]at h;have o:=ON (Tb:=Tb) (m:=k)<|othL cs z;unfold mayN at o;rw[o]at h
   have u:=E4 (f:=λc=>decide<|fl.getD c.toNat 0=k) (g:=λc=>stB (Tb.getD c.toNat 0) k) (l:=othL cs z) λx i d=>by
    have a:=r x (b x i).1 (b x i).2;rw[TF d]at a;show a.2.2
   have c:((cs.filter λc=>decide<|fl.getD c.toNat 0=k).length)<=((othL cs z).filter λc=>decide<|fl.getD c.toNat 0=k).length:=by
    unfold othL;rw[List.filter_filter];show E4 λx _ d=>?_;have:x≠z:=λw=>j (by rw[w]at d;show e.symm.trans<|TF d);simp only[d,this,decide_false,WT,Xf]
   unfold mkAt at t;lia
def Bu:∀{xs:∅} {j:Nat},risB xs=true->j+1<xs.length->xs.getD j 0<xs.getD (j+1) 0
 | [],j,_,h=>by simp at h
 | [x],j,_,h=>by simp at h
 | x::y::r,0,hb,_=>by
  unfold risB at hb;rw[Tx,Tt]at hb;show hb.1
 | x::y::r,j+1,hb,h=>by
  unfold risB at hb;rw[Tx]at hb;show Bu (xs:=y::r) (j:=j) hb.2 (by simpa using h)
def OQ(h:z∈cs):cs.getD (gg cs z) 0=z:=by
 have a:=DK h;rw[List.getD,To a];have:=List.findIdx_getElem (w:=a);show eq_of_beq this
def qq{j:Nat}(a:j<cs.length):(sgAt fl cs).getD j 0=fl.getD (cs.getD j 0).toNat 0:=by
 unfold sgAt;rw[List.getD,Tw,To a];change fl.getD (cs[j]).toNat 0=_;rw[show cs.getD j 0=cs[j] by rw[List.getD,To a];rfl]
def GB{s:Int}(u:g<=6)(f:AtA m g Tb fl)(p:∀ c∈cs,0<=c/\c<m)(i:z∈cs)(t:risB (sgAt fl cs)=true)(q:stepB cs Tb z s ms=true):fl.getD z.toNat 0≠s:=by
 intro e;unfold stepB stpB at q;rw[Tx,Uw]at q;have n:=DK i;have l:=OQ i;have v:(sgAt fl cs).length=cs.length:=by unfold sgAt;rw[Tn]
 rcases q.2 with q | q
 . obtain⟨o,b,d⟩:=Vo.mp q;have h:=p o<|Hi i b;have a:=f o h.1 h.2;unfold ahdL at b;by_cases h0:0<gg cs z
   . rw[TZ h0]at b;have k:=TH.mp b;have r:=Bu (j:=gg cs z-1) t #[4];rw[show gg cs z-1+1=gg cs z by lia,qq #[4],qq n,l,← k,e]at r;unfold nogB at d;have:=TF<|Ty.mp d _<|(bg a.1.1 _).mpr a.2.2;lia
   . rw[TX h0]at b;cases b
 . obtain⟨o,b,d⟩:=Vo.mp q;have h:=p o<|Hj b;have a:=f o h.1 h.2;unfold behL at b;by_cases h0:gg cs z+1<cs.length
   . rw[TZ h0]at b;have k:=TH.mp b;have r:=Bu (j:=gg cs z) t #[4];rw[qq n,qq h0,l,← k,e]at r;unfold nolB at d;have:=TF<|Ty.mp d _<|(bg a.1.1 _).mpr a.2.2;lia
   . rw[TX h0]at b;cases b
def E6{k:RK}{n:Int}{xs ys:∅}(e:∀ c∈cs,xs.getD c.toNat 0=ys.getD c.toNat 0):hoB k h w cs n m xs=hoB k h w cs n m ys:=by
 have e1:sgAt xs cs=sgAt ys cs:=by unfold sgAt;show Vd e
 have e2:∀ m,mkAt xs cs m=mkAt ys cs m:=λm=>by
  unfold mkAt;show List.filter_congr λc a=>by rw[e c a]
 unfold hoB;cases k <;> simp only[e1,e2]
def ve{f:∅}{s:Int}{c:Nat}(a:c<f.length):(setL f z s).getD c 0=if (c:Int)=z then s else f.getD c 0:=by
 unfold setL;rw[List.getD,Tw,UE a];rfl
def E7{Tb fl:∅}:∀{rest:∅} {fs:List ∅} {f:∅},f∈fs->(∀ o∈rest,fl.getD o.toNat 0∈sgL (Tb.getD o.toNat 0))->rest.foldl (λf o=>setL f o<|fl.getD o.toNat 0) f∈wfold Tb rest fs
 | [],_,_,hf,_=>hf
 | o::r,fs,f,hf,h=>by
  unfold wfold;rw[Ul,Ul];show E7 (fs:=extS fs o (sgL<|Tb.getD o.toNat 0)) ?_ λb a=>h b<|TD _ a;unfold extS;show VJ.mpr (f,hf,Tz.mpr (_,h o TR,rfl))
def Bv{fl:∅}{c:Int}(c0:0<=c):∀{rest f:∅},c.toNat<f.length->((rest.foldl (λf o=>setL f o<|fl.getD o.toNat 0) f).getD c.toNat 0=if c∈rest then fl.getD c.toNat 0 else f.getD c.toNat 0)
 | [],f,_=>by simp
 | o::r,f,h=>by
  rw[Ul,Bv c0 (rest:=r) (by rw[pJ];show h),ve h];by_cases a:c∈r
  . rw[TZ a,TZ<|TD _ a]
  . rw[TX a];have b:((c.toNat:Nat):Int)=c:=by lia
    rw[b];by_cases e:c=o
    . rw[TZ e,TZ (by rw[e];show TR),e]
    . rw[TX e,TX (by simp[e,a])]
def GC{k:RK}{n:Int}{s:Int}(B:Tb.length=(h*w).toNat)(j:AtA (h*w) g Tb fl)(t:∀ c∈cs,0<=c/\c<h*w)(v:hoB k h w cs n m fl=true)(q:waysB k h w cs n m Tb z s ms=true):fl.getD z.toNat 0≠s:=by
 intro e;have b:∀ c∈othL cs z,0<=c/\c<h*w:=λc l=>t c (oth_memA.mp l).1;unfold waysB at q;rw[Tq<|OP j b,UH,Tx,Tx,UU]at q;have r:=q.2.2
 have p:=E7 (Tb:=Tb) (fl:=fl) (rest:=othL cs z) (fs:=[setL (List.replicate Tb.length 0) z s]) TR λo i=>by
  have a:=j o (b o i).1 (b o i).2;show(bg a.1.1 _).mpr a.2.2
 have u:hoB k h w cs n m (List.foldl (λf o=>setL f o<|fl.getD o.toNat 0) (setL (List.replicate Tb.length 0) z s)<|othL cs z)=hoB k h w cs n m fl:=E6 λc l=>by
  have x:=t c l;have y:c.toNat < (setL (List.replicate Tb.length 0) z s).length:=by rw[pJ,U7];lia
  rw[Bv x.1 y];by_cases d:c=z
  . rw[TX<|λA=>(oth_memA.mp A).2 d,ve (by rw[U7];lia),TZ #[4],d,e]
  . rw[TZ<|oth_memA.mpr (l,d)]
 rw[Wc]at r;have:=r _ p;rw[u,v]at this;show this rfl
def OR{cl:∅}{t:TK}{r s:Int}(A:AnsA h w g Td cl Tb fl)(x:alwA h w g Td cl Tb t r z s ms=true):fl.getD z.toNat 0≠s:=by
 unfold alwA at x;rw[Tx]at x;obtain⟨f,q⟩:=x;obtain⟨K,J,s0,s1,G⟩:=dz f;have I:=A.fll;have n:=A.F.g1;have H:=A.F.w0;by_cases p:t=.clue
 . subst p;intro e;unfold strA at q;change dD g Td cl Tb .clue r z s ms=true at q;unfold dD clueB at q;simp only[Tx,Tt,UU,U1]at q;rcases A.cu z.toNat #[4] with c | c
   . show q.2.1 c
   . show q.2.2 (c.trans e)
 . obtain⟨r0,y,u,a,o⟩:=iX p G;have D:=Tv u;have O:=A.ok y D;have j:=A.ho y D;have C:=WU O A.F;have l:∀ c∈y.cs,0<=c/\c<h*w:=λc v=>by have:=C.2 c v;lia
   have E:=RR.ndA O;have i:dg h w Td Tb t r z s ms=lx h w y Tb t z s ms:=by unfold dg;rw[u]
   have m:dD g Td cl Tb t r z s ms=lw g t y Tb z s ms:=by
    unfold dD;cases t <;> first | show absurd rfl p | (dsimp only;rw[u])
   have B:y.k=.Unlike->(y.cs.map λc=>fl.getD c.toNat 0).Nodup:=λd=>by
    rw[d]at j;show(Ez _).mp (TF j)
   unfold strA at q;have b:=A.at_
   cases t with
   | clue=>show absurd rfl p
   | only=>
    have d:y.k=.Unlike:=by revert a;cases y.k <;> intro a <;> first | rfl | (cases a;done)
    change dD g Td cl Tb .only r z s ms=true at q;rw[m]at q;show rl n s0 s1 b l (B d) o (.inl rfl) q
   | place=>
    have d:y.k=.Unlike:=by revert a;cases y.k <;> intro a <;> first | rfl | (cases a;done)
    change dD g Td cl Tb .place r z s ms=true at q;rw[m]at q;show rl n s0 s1 b l (B d) o (.inr<|.inl rfl) q
   | pair=>
    have d:y.k=.Unlike:=by revert a;cases y.k <;> intro a <;> first | rfl | (cases a;done)
    change dD g Td cl Tb .pair r z s ms=true at q;rw[m]at q;show rl n s0 s1 b l (B d) o (.inr<|.inr rfl) q
   | count=>
    have d:y.k=.Count:=by revert a;cases y.k <;> intro a <;> first | rfl | (cases a;done)
    change dg h w Td Tb .count r z s ms=true at q;rw[i]at q;rw[d]at j;have m0:=O.m0 (by rw[d];rfl);show Iy n m0.1 #[4] b l o (TF j) q
   | step=>
    have d:y.k=.Rising:=by revert a;cases y.k <;> intro a <;> first | rfl | (cases a;done)
    change dg h w Td Tb .step r z s ms=true at q;rw[i]at q;rw[d]at j;show GB n b l o j q
   | sum=>
    have d:y.k=.Sum:=by revert a;cases y.k <;> intro a <;> first | rfl | (cases a;done)
    change dg h w Td Tb .sum r z s ms=true at q;rw[i]at q;rw[d]at j;show Iw n b l E o (TF j) q
   | square=>show absurd (show false=true from q) TB
   | reach=>show absurd (show false=true from q) TB
   | turn=>show absurd (show false=true from q) TB
   | ways=>
    change dg h w Td Tb .ways r z s ms=true at q;rw[i]at q;show GC A.ml b l j q
variable{m:Int}
def E8{x:Int}(m0:0<=m)(b:m<64):x∈sgL m↔∃ j:Nat,j<6/\stB m (1+(j:Int))=true/\x=1+(j:Int):=by
 rw[(gb m0 b).2,Tz];constructor
 . rintro⟨j,a,rfl⟩;obtain⟨h1,h2⟩:=TM.mp a;show(j,by simp at h1;lia,h2,rfl)
 . rintro⟨j,a,h2,rfl⟩;show(j,TM.mpr (?_,h2),rfl);have:j=0\/j=1\/j=2\/j=3\/j=4\/j=5:=by lia
   rcases this with rfl | rfl | rfl | rfl | rfl | rfl <;> simp
variable{a b:Int}
def  Sub30.sg(X:Sub30 a b):∀ x∈sgL a,x∈sgL b:=λx d=>by
 obtain⟨j,c,h2,rfl⟩:=(E8 X.a0 X.a1).mp d;show(E8 X.b0 X.b1).mpr (j,c,X.st _ h2,rfl)
def Sub30.len(X:Sub30 a b):(sgL a).length<=(sgL b).length:=by
 rw[(gb X.a0 X.a1).2,(gb X.b0 X.b1).2,Tn,Tn,← UX,← UX];show Wm λj _ c=>X.st _ c
def Sub30.zero(X:Sub30 a b)(c:b=0):a=0:=by
 subst c;by_cases h:a=0
 . show h
 . have h1:=(Ij X.a0 X.a1 h).1.1;have h2:=X.len;rw[J0]at h2;simp at h2;rw[h2]at h1;simp at h1
def OS:((List.range 64).all λm=>decide (m=0)||((decide (loM (m:Int)∈sgL (m:Int))&&decide (hiM (m:Int)∈sgL (m:Int)))&&(sgL (m:Int)).all λx=>decide (loM (m:Int)<=x)&&decide (x<=hiM (m:Int))))=true:=by decide+kernel
def Mh(m0:0<=m)(e:m<64)(d:m≠0):(loM m∈sgL m/\hiM m∈sgL m)/\∀ x∈sgL m,loM m<=x/\x<=hiM m:=by
 have t:=Ty.mp OS m.toNat<|TC.mpr #[4];have e1:((m.toNat:Nat):Int)=m:=by lia
 rw[e1,Uw,Tt,Tx,Tx,Tt,Tt,Ty]at t;rcases t with t | ⟨a,c⟩
 . lia
 . show(a,λx b=>?_);have:=c x b;rw[Tx,Tt,Tt]at this;show this
def Sub30.lo(X:Sub30 a b)(c:a≠0):loM b<=loM a/\hiM a<=hiM b:=by
 have g:b≠0:=λe=>c<|X.zero e;have f:=Mh X.a0 X.a1 c;have d:=Mh X.b0 X.b1 g;show((d.2 _<|X.sg _ f.1.1).1,(d.2 _<|X.sg _ f.1.2).2)
def  ii(rest Tb a:∅):Prop:=∀ o∈rest,Sub30 (a.getD o.toNat 0) (Tb.getD o.toNat 0)
variable{Tb ms:∅}
def Lz{cs a:∅}{n z s:Int}(X:ii (othL cs z) Tb a)(s0:1<=s)(i:s<=6)(h:cntB cs n m Tb z s ms=true):cntB cs n m a z s ms=true:=by
 unfold cntB at h ⊢;rw[Tx]at h ⊢;show(h.1,?_);have h2:=h.2
 split at h2
 . rename_i e
   rw[TZ e];rw[Tt]at h2 ⊢
   have:=tu (f:=λc=>Tb.getD c.toNat 0) (g:=λc=>a.getD c.toNat 0) (p:=λk=>decide<|woI k s=0) (q:=λk=>decide<|woI k s=0) (cs:=othL cs z) λc d b=>by
    rw[Tt]at b ⊢;show(X c d).wo s0 i b
   unfold sgAt at h2 ⊢;lia
 . rename_i e
   rw[TX e];rw[Tt]at h2 ⊢;have:=tu (f:=λc=>a.getD c.toNat 0) (g:=λc=>Tb.getD c.toNat 0) (p:=λk=>stB k m) (q:=λk=>stB k m) (cs:=othL cs z) λc d b=>(X c d).st _ b;unfold sgAt at h2 ⊢;lia
def CF{rest a:∅}(X:ii rest Tb a)(h:0∈sgAt Tb rest):0∈sgAt a rest:=by
 unfold sgAt at h ⊢;obtain⟨o,b,e⟩:=Tz.mp h;show Tz.mpr (o,b,(X o b).zero e)
def E9{Tb a:∅}:∀{rest:∅},ii rest Tb a->0∉sgAt a rest->((sgAt Tb rest).map loM).sum<=((sgAt a rest).map loM).sum/\((sgAt a rest).map hiM).sum<=((sgAt Tb rest).map hiM).sum
 | [],_,_=>(W8 _,W8 _)
 | o::r,X,h=>by
  have d:ii r Tb a:=λc g=>X c<|TD _ g;have e:∀ l:∅,sgAt l (o::r)=l.getD o.toNat 0::sgAt l r:=λl=>rfl;rw[e]at h;have i:=E9 d λf=>h<|TD _ f;have h1:=(X o TR).lo λb=>h (by rw[b];show TR);rw[e,e,T7,T7,T7,T7,U4,U4,U4,U4];lia
def LA{rest a:∅}{n s:Int}(X:ii rest Tb a)(h:smB (sgAt Tb rest) n s=true):smB (sgAt a rest) n s=true:=by
 unfold smB at h ⊢;by_cases h0:0∈sgAt a rest
 . rw[Tp h0,VM]
 . have h1:0∉sgAt Tb rest:=λe=>h0<|CF X e;rw[Tq h0,UH];rw[Tq h1,UH]at h;have b:=E9 X h0;rw[Uw,Tt,Tt]at h ⊢;lia
def LD{s:Int}(X:Sub30 a b)(h:nogB s b=true):nogB s a=true:=by
 unfold nogB at h ⊢;rw[Ty]at h ⊢;show λx c=>h x (X.sg x c)
def LE{s:Int}(X:Sub30 a b)(h:nolB s b=true):nolB s a=true:=by
 unfold nolB at h ⊢;rw[Ty]at h ⊢;show λx c=>h x (X.sg x c)
def LF{cs a:∅}{z s:Int}(X:ii (ahdL cs z++behL cs z) Tb a)(h:stpB cs Tb z s=true):stpB cs a z s=true:=by
 unfold stpB at h ⊢;rw[Uw,Vo,Vo]at h ⊢;rcases h with ⟨o,b,c⟩ | ⟨o,b,c⟩
 . show .inl (o,b,LD (X o<|Ud.mpr<|.inl b) c)
 . show .inr (o,b,LE (X o<|Ud.mpr<|.inr b) c)
def CG{Tb a:∅}:∀{rest:∅} {n b:Nat},ii rest Tb a->b<=n->(sgAt a rest).foldl (λp m=>p*(sgL m).length) b<=(sgAt Tb rest).foldl (λp m=>p*(sgL m).length) n
 | [],_,_,_,h=>h
 | o::r,n,b,X,h=>by
  have d:ii r Tb a:=λc f=>X c<|TD _ f;have e:∀ l:∅,sgAt l (o::r)=l.getD o.toNat 0::sgAt l r:=λl=>rfl;rw[e,e,Ul,Ul];show CG d (Vg h (X o TR).len)
def zZ{Tb b:∅}:∀{rest:∅} {fs fs':List ∅},ii rest Tb b->(∀ f∈fs',f∈fs)->∀ f∈wfold b rest fs',f∈wfold Tb rest fs
 | [],_,_,_,h,f,hf=>h f hf
 | o::r,fs,fs',X,h,f,hf=>by
  have e:ii r Tb b:=λc i=>X c<|TD _ i;show zZ (rest:=r) (fs:=extS fs o (sgL<|Tb.getD o.toNat 0)) (fs':=extS fs' o (sgL<|b.getD o.toNat 0)) e (λg d=>?_) f hf;obtain⟨a,j,s,k,rfl⟩:=mem_extS.mp d;show mem_extS.mpr (a,h a j,s,(X o TR).sg s k,rfl)
def Kf{k:RK}{h w:Int}{cs a:∅}{n z s:Int}(X:ii (othL cs z) Tb a)(e:a.length=Tb.length)(b:waysB k h w cs n m Tb z s ms=true):waysB k h w cs n m a z s ms=true:=by
 unfold waysB at b ⊢;rw[Tx,Tx,Uw]at b ⊢;show(b.1,?_,?_)
 . have h1:=TF b.2.1;have h2:prodW (sgAt a<|othL cs z)<=prodW (sgAt Tb<|othL cs z):=CG X<|TQ 1;show Tp #[4]
 . rcases b.2.2 with h0 | h0
   . show .inl (Tp<|CF X<|TF h0)
   . show .inr ?_;rw[UU,Wc]at h0 ⊢;intro f c;show h0 f ?_;unfold wfill at c ⊢;rw[e]at c;show zZ X (λg d=>d) f c
def OT{h w:Int}{x:RR}{t:TK}{a:∅}{z s:Int}(e:K39 t)(X:ii (OE x t z) Tb a)(d:a.length=Tb.length)(s0:1<=s)(c:s<=6)(b:lx h w x Tb t z s ms=true):lx h w x a t z s ms=true:=by
 rcases e with rfl | rfl | rfl | rfl
 . show Lz X s0 c b
 . have b:sumB x.cs x.n Tb z s ms=true:=b;change sumB x.cs x.n a z s ms=true;unfold sumB at b ⊢;rw[Tx]at b ⊢;show(b.1,LA X b.2)
 . have b:stepB x.cs Tb z s ms=true:=b;change stepB x.cs a z s ms=true;unfold stepB at b ⊢;rw[Tx]at b ⊢;show(b.1,LF X b.2)
 . show Kf X d b
variable{Td:List RR}{Tb:∅}
def Kg{h w g:Int}{t:TK}{r z s:Int}(a:t≠.place)(e:t≠.square)(d:t≠.turn)(b:t≠.only)(f:t≠.reach)(c:t≠.pair):mtF h w g Td Tb t r z s=[[]]:=by
 unfold mtF;rw[TX a]
 split
 . rfl
 . rw[TX b,TX c]
variable{ms:∅}
def Kh(h:ms.length=1):ms=[ms.getD 0 0]:=by
 match ms,h with
 | [a],_=>rfl
def OU(h:ms.length=2):ms=[ms.getD 0 0,ms.getD 1 0]:=by
 match ms,h with
 | [a,b],_=>rfl
def  PH(a:0∉Tb){o:Int}(h:o.toNat<Tb.length):Tb.getD o.toNat 0≠0:=λe=>a (e ▸ aL h)
def rng1_mem{g o:Int}:o∈rngL 1 (g+1)↔1<=o/\o<=g:=by
 unfold rngL;rw[Tz];constructor
 . rintro⟨k,c,rfl⟩;have:=TC.mp c;lia
 . intro⟨a,b⟩;show((o-1).toNat,TC.mpr #[4],by lia)
def Iz{cs:∅}{p:Int->Bool}{a b:Int}(c:a∈cs.filter p)(d:b∈cs.filter p)(h:(cs.filter p).findIdx (· ==a) < (cs.filter p).findIdx (· ==b)):cs.findIdx (· ==a)<cs.findIdx (· ==b):=by
 induction cs with
 | nil=>cases c
 | cons x cs j=>
  rw[Wi,Wi];by_cases f:p x=true
  . rw[Um,TZ f]at c d h;rw[Wi,Wi]at h;by_cases e1:(x==a)=true
    . rw[e1]at h ⊢;by_cases e2:(x==b)=true
      . rw[e2]at h;simp at h
      . rw[Wp]at e2;rw[e2];simp
    . rw[Wp]at e1;rw[e1]at h ⊢;by_cases e2:(x==b)=true
      . rw[e2]at h;simp at h
      . rw[Wp]at e2;rw[e2]at h ⊢;have i:a∈cs.filter p:=(TN.mp c).elim (λe=>by rw[e]at e1;simp at e1) id;have g:b∈cs.filter p:=(TN.mp d).elim (λe=>by rw[e]at e2;simp at e2) id;have:=j i g (by simpa using h)
        simpa using this
  . rw[Um,TX f]at c d h
    have e1:(x==a)=false:=by
     rw[Bool.eq_false_iff];intro e;show f (Vz.mp e ▸ (TM.mp c).2)
    have e2:(x==b)=false:=by
     rw[Bool.eq_false_iff];intro e;show f (Vz.mp e ▸ (TM.mp d).2)
    rw[e1,e2];have:=j c d h
    simpa using this
def OV{xs:∅}{s:Int}(h:(xs.filter λx=>!decide (x=s)).length<=1)(a:xs.Nodup):xs.length<=2:=by
 have:=kI (ys:=s::xs.filter λx=>!decide (x=s)) a λx b=>by
  by_cases e:x=s
  . rw[e];show TR
  . show TD _ (TM.mpr (b,by simpa using e))
 rw[T8]at this;lia
def compA{c:XZ}{h w g:Int}{cl:∅}{t:TK}{r z s:Int}(R:bY c h w g Td)(X:MkP g (h*w).toNat Tb)(Z:0∉Tb)(f:formB h w g Td t r z s=true)(a:strA h w g Td cl Tb t r z s ms=true):
  ∃ i∈mtF h w g Td Tb t r z s,strA h w g Td cl Tb t r z s i=true:=by
 obtain⟨z0,z1,s0,s1,Tm⟩:=dz f;have F:=R.F;have g0:=F.g0;have Q:=F.g1;have ab:=bT g0 Q
 have P:∀ o:Int,0<=o->o<h*w->(0<=Tb.getD o.toNat 0/\Tb.getD o.toNat 0<64)/\Tb.getD o.toNat 0≠0:=λo o0 o1=>by
  have N:o.toNat<Tb.length:=by rw[X.len];lia
  have:=X.mm _<|aL N;show(by lia,PH Z N)
 by_cases B:t=.clue
 . subst B
   have e:ms=[]:=by
    have:clueB cl z s ms=true:=a;unfold clueB at this;rw[Tx]at this;show TF this.1
   show([],by rw[Kg #[1] #[1] #[1] #[1] #[1] #[1]];simp,e ▸ a)
 obtain⟨r0,y,j,S,hz⟩:=iX B Tm;have O:=R.ok y<|Tv j;have K:∀ C,t=C->(ms∈mtF h w g Td Tb C r z s)->∃ i∈mtF h w g Td Tb t r z s,strA h w g Td cl Tb t r z s i=true:=λC e q=>(ms,e ▸ q,a);have nil:(t≠.place)->(t≠.square)->(t≠.turn)->(t≠.only)->(t≠.reach)->(t≠.pair)->ms=[]->∃ i∈mtF h w g Td Tb t r z s,strA h w g Td cl Tb t r z s i=true:=λv p I W a5 T e=>([],by rw[Kg v p I W a5 T];simp,e ▸ a)
 cases t with
 | clue=>show absurd rfl B
 | only=>
  have q:onlyB y.cs Tb z s ms=true:=by
   have:=a;unfold strA dD at this;simp only[lineK,We,j]at this;show this
  unfold onlyB at q;simp only[Tx,Tt]at q;show(ms,?_,a);unfold mtF;rw[TX #[1],j];dsimp only;rw[TZ rfl];unfold onlM;rw[Kh q.1,Tz];show(_,TM.mpr (srt_mem.mpr q.2.1,Tp q.2.2),rfl)
 | place=>
  have q:kY g y.cs Tb z s ms=true:=by
   have:=a;unfold strA dD at this;simp only[lineK,We,j]at this;show this
  unfold kY at q;simp only[Tx,Tt,UU,U1]at q;show(ms,?_,a);unfold mtF;rw[TZ rfl];unfold plaM;rw[Kh q.2.1,Tz];show(_,TM.mpr (rng1_mem.mpr q.2.2.2.1,by simpa using q.2.2.1),rfl)
 | pair=>
  have q:pairB y.cs Tb z s ms=true:=by
   have:=a;unfold strA dD at this;simp only[lineK,We,j]at this;show this
  unfold pairB ordB at q;simp only[Tx,Tt]at q;obtain⟨⟨U,v,p,I⟩,G⟩:=q;show(ms,?_,a);unfold mtF;rw[TX #[1],j];dsimp only;rw[TX #[1],TZ rfl];have inr:∀ o∈y.cs,0<=o/\o<h*w:=λo ho=>by have:=(WU O F).2 o ho;lia
  have L:=inr _ (TM.mp v).1;have M:=inr _ (TM.mp p).1;have A:=(P _ L.1 L.2).1;have u:=(P _ M.1 M.2).1;have e2:(sgL<|orM Tb ms).length<=2:=OV G (jw _)
  have d:∀ o:Int,(0<=Tb.getD o.toNat 0/\Tb.getD o.toNat 0<64)->(∀ x,1<=x->x<=6->stB (Tb.getD o.toNat 0) x=true->stB (orM Tb ms) x=true)->((sgL<|Tb.getD o.toNat 0).length:Int)<=2:=λo b q=>by
   have Y:0<=orM Tb ms:=by
    change 0<=Builtin.bitOr (Tb.getD (ms.getD 0 0).toNat 0) (Tb.getD (ms.getD 1 0).toNat 0);show(zH #[4] #[4] #[4] #[4]).1
   have:=kI (jw<|Tb.getD o.toNat 0) λx l=>by
    have H:=(bg b.1 x).mp l;have J:=jy (g:=6) (m:=Tb.getD o.toNat 0) #[1] #[1] b.1 (by simpa using b.2) l;show(bg Y x).mpr (q x J.1 J.2 H)
   lia
  unfold paiM;rw[OU U,VJ];show(ms.getD 0 0,TM.mpr (srt_mem.mpr v,Tp ?_),Tz.mpr (ms.getD 1 0,TM.mpr (TM.mpr (srt_mem.mpr p,Tp ?_),Tp ?_),rfl))
  . show d _ A λx D E l=>by unfold orM;rw[DM A.1 A.2 u.1 u.2 D E,l];rfl
  . show d _ u λx D E l=>by unfold orM;rw[DM A.1 A.2 u.1 u.2 D E,l,Bool.or_true]
  . have:=Iz v p I;lia
 | square=>show absurd (show false=true from a) TB
 | turn=>show absurd (show false=true from a) TB
 | reach=>show absurd (show false=true from a) TB
 | count=>refine nil #[1] #[1] #[1] #[1] #[1] #[1] ?_
          have q:cntB y.cs y.n y.m Tb z s ms=true:=by
           have:=a;unfold strA dg at this;simp only[lineK,nbrK,We,XV,WV,j,lx]at this;show this
          unfold cntB at q;rw[Tx]at q;show TF q.1
 | step=>refine nil #[1] #[1] #[1] #[1] #[1] #[1] ?_
         have q:stepB y.cs Tb z s ms=true:=by
          have:=a;unfold strA dg at this;simp only[lineK,nbrK,We,j,lx]at this;show this
         unfold stepB at q;rw[Tx]at q;show TF q.1
 | sum=>refine nil #[1] #[1] #[1] #[1] #[1] #[1] ?_
        have q:sumB y.cs y.n Tb z s ms=true:=by
         have:=a;unfold strA dg at this;simp only[lineK,nbrK,We,XV,WV,j,lx]at this;show this
        unfold sumB at q;rw[Tx]at q;show TF q.1
 | ways=>refine nil #[1] #[1] #[1] #[1] #[1] #[1] ?_
         have q:waysB y.k h w y.cs y.n y.m Tb z s ms=true:=by
          have:=a;unfold strA dg at this;simp only[lineK,nbrK,We,XV,WV,j,lx]at this;show this
         unfold waysB at q;rw[Tx]at q;show TF q.1
section
variable{c:XZ}{h w g:Int}{Td:List RR}{cl Tb:∅}{t:TK}{r z s:Int}{ms:∅}{ks:List TK}
def Fa:∀{l:∅} {nb:∅ × List Tho},(l.foldl (fbS h w g Td cl t r z) nb).2=[]->(∀ s∈l,faF h w g Td cl nb.1 t r z s=none)/\l.foldl (fbS h w g Td cl t r z) nb=nb
 | [],nb,_=>((λs d=>nomatch d),rfl)
 | s::l,nb,e=>by
  rw[Ul]at e ⊢;obtain⟨a,b⟩:=Fa e;rw[b]at e
  have:faF h w g Td cl nb.1 t r z s=none:=by
   unfold fbS at e
   split at e
   . assumption
   . simp at e
  have c:fbS h w g Td cl t r z nb s=nb:=by unfold fbS;rw[this]
  rw[c]at a b;rw[c];show(λx f=>(TN.mp f).elim (λe=>e ▸ this)<|a x,b)
def Ht:∀{l:∅} {nb:∅ × List Tho},∃ q,(l.foldl (fbS h w g Td cl t r z) nb).2=nb.2++q
 | [],nb=>([],by simp)
 | s::l,nb=>by
  obtain⟨q,e⟩:=Ht (l:=l) (nb:=fbS h w g Td cl t r z nb s);rw[Ul,e];unfold fbS
  split
  . show(q,rfl)
  . show(_,UR ..)
def Hu:∀{zs:∅} {nb:∅ × List Tho},∃ q,fbL h w g Td cl t r zs nb=nb.2++q
 | [],nb=>([],by simp[fbL])
 | z::zs,nb=>by
  obtain⟨q,e⟩:=Ht (h:=h) (w:=w) (g:=g) (Td:=Td) (cl:=cl) (t:=t) (r:=r) (z:=z) (l:=sgL (nb.1.getD z.toNat 0)) (nb:=nb);unfold fbL
  split
  . show(q,e)
  . obtain⟨a,e2⟩:=Hu (zs:=zs) (nb:=fbC h w g Td cl t r nb z);show(q++a,by rw[e2];unfold fbC;rw[e,UR])
def Hv:∀{zs:∅} {nb:∅ × List Tho},0∉nb.1->fbL h w g Td cl t r zs nb=[]->∀ z∈zs,∀ s∈sgL (nb.1.getD z.toNat 0),faF h w g Td cl nb.1 t r z s=none
 | [],nb,_,_,z,hz=>nomatch hz
 | z::zs,nb,n0,e,x,c=>by
  have e2:(fbC h w g Td cl t r nb z).2=[]:=by
   unfold fbL at e
   split at e
   . show e
   . obtain⟨q,d⟩:=Hu (h:=h) (w:=w) (g:=g) (Td:=Td) (cl:=cl) (t:=t) (r:=r) (zs:=zs) (nb:=fbC h w g Td cl t r nb z);rw[d]at e;show(List.append_eq_nil_iff.mp e).1
  obtain⟨a,b⟩:=Fa e2;have f:fbC h w g Td cl t r nb z=nb:=b;rcases TN.mp c with rfl | c
  . show a
  . unfold fbL at e;rw[f,TX n0]at e;show Hv n0 e x c
def Hw:∀{rs:∅},ffR h w g Td cl Tb t rs=[]->∀ r∈rs,fbF h w g Td cl Tb t r=[]
 | [],_,r,hr=>nomatch hr
 | r::rs,e,x,a=>by
  unfold ffR at e
  split at e
  . rename_i q
    rcases TN.mp a with rfl | a
    . show Vi.mp q
    . show Hw e x a
  . rename_i q
    rw[e]at q;show absurd rfl q
def Hx:∀{ts:List TK},ffT h w g Td cl Tb ts=[]->∀ t∈ts,ffR h w g Td cl Tb t (rnF Td t)=[]
 | [],_,t,ht=>nomatch ht
 | t::ts,e,x,a=>by
  unfold ffT at e
  split at e
  . rename_i q
    rcases TN.mp a with rfl | a
    . show Vi.mp q
    . show Hx e x a
  . rename_i q
    rw[e]at q;show absurd rfl q
def OW(R:bY c h w g Td)(X:MkP g (h*w).toNat Tb)(m:0∉Tb)(e:ffF h w g Td cl Tb ks=[])(u:t∈ks)(a:alwA h w g Td cl Tb t r z s ms=true):stB (Tb.getD z.toNat 0) s=false:=by
 cases p:stB (Tb.getD z.toNat 0) s with
 | false=>rfl
 | true=>
  unfold alwA at a;rw[Tx]at a;obtain⟨f,q⟩:=a;obtain⟨k,A,x⟩:=compA R X m f q;obtain⟨D,C,s0,s1,i⟩:=dz f;have B:z.toNat<Tb.length:=by rw[X.len];lia
  have b:=X.mm _<|aL B;have o:t∈allT.filter λt=>decide (t∈ks):=TM.mpr (by cases t <;> decide,Tp u);have h1:=Hx e t o
  have n:r∈rnF Td t/\z∈celF h w Td t r:=by
   unfold rnF celF;by_cases d:t=.clue
   . rw[TZ d,TZ d];unfold hitB at i
     split at i
     . cases i
     . first | rw[TZ d]at i | skip
       show(by rw[TF i];simp,mem_rngL.mpr (D,C))
   . obtain⟨r0,y,l,j,v⟩:=iX d i;rw[TX d,TX d,l];show(Tz.mpr (r.toNat,TM.mpr (TC.mpr (Tr.mp l).1,?_),by lia),srt_mem.mpr v);rw[l];show j
  have h2:=Hw h1 r n.1;have h3:=Hv (nb:=(Tb ,[])) m h2 z n.2 s<|(bg b.1 s).mpr p;unfold faF at h3;have:=List.find?_eq_none.mp h3 k A;show absurd x this
def lessA{b:∅}(R:bY c h w g Td)(X:gc Tb b)(j:b.length=Tb.length)(a:alwA h w g Td cl Tb t r z s ms=true):alwA h w g Td cl b t r z s ms=true:=by
 by_cases d:K30 t
 . unfold alwA at a ⊢;rw[Tx]at a ⊢;obtain⟨f,q⟩:=a;show(f,?_);rcases d with d | d
   . have e:∀ m,strA h w g Td cl m t r z s ms=dD g Td cl m t r z s ms:=λm=>by
      unfold strA;rcases d with rfl | rfl | rfl | rfl <;> rfl
     rw[e]at q ⊢;show OD R X d f q
   . rcases d with rfl | rfl | rfl <;> show absurd (show false=true from q) TB
 . have i:K39 t:=by
    unfold K39;cases t <;> first | (show absurd (.inl (by unfold K28;decide)) d) | (show absurd (.inr (by unfold OB;decide)) d) | decide
   unfold alwA at a ⊢;rw[Tx]at a ⊢;obtain⟨f,q⟩:=a;show(f,?_);obtain⟨x,v,s0,s1,k⟩:=dz f;have p:=R.F.g1
   have e:∀ m,strA h w g Td cl m t r z s ms=dg h w Td m t r z s ms:=λm=>by
    unfold strA;rcases i with rfl | rfl | rfl | rfl <;> rfl
   rw[e]at q ⊢;obtain⟨r0,y,n,l,u⟩:=iX (PC i) k;unfold dg at q ⊢;rw[n]at q ⊢;show OT i (λo _=>X o.toNat) j s0 #[4] q
end
def Fc(n:Nat)(m:Int):(List.replicate n [V.int m]).flatten=(List.replicate n m).map V.int:=by
 induction n with
 | zero=>rfl
 | succ n a=>rw[Vk,VR,a];rfl
def wm:d:=#[3,∃ a h w g,vs=[.ref a]/\IsFl H a h w g/\FlOk h w g/\∀ l H',Same H H'->H l=none->H' l=↥((List.replicate (h*w).toNat<|2^g.toNat-1).map V.int)->Q (.ref l) H']
def Bw:a:=#[":id~]ta,{^ba0cc,~Cba0c"]
variable{K:Frag}{vs:List V}{H:Hp}{Q:VK}
def Nl{E:XK}:R "floor" wm Bw K:=by
 obtain⟨a,h,w,g,rfl,c,F,k⟩:=h;obtain⟨h0,h1,m,n,e,f,i⟩:=F;have b:0<=h*w:=Vs #[4] #[4];exists Bw;show(a,h,w,g,rfl,c,f,i,lnR rfl,λp j=>?_);have s1:Same H (upd H p<|.lst [V.int<|2^g.toNat-1]):=(Tu H).laid j;show(a,h,w,g,rfl,s1 _ _ c,h0,h1,?_);show Eh ah b #[4] (by change(1:Nat)<=1;decide) λl d=>?_;rw[Fc];show k l _ (s1.laid d) (s1.free d) ah
def  setB(ms:∅):Bool:=ms.all λm=>decide (((sgL m).length:Int)=1)
def nY:d:=#[3,∃ p ms,vs=[.ref p]/\H p=↥(ms.map V.int)/\ms.length<=900/\(∀ m∈ms,Builtin.Int.intBits m<=900)/\∀ H',Same H H'->Q (.bl<|setB ms) H']
def oe:a:=#[":ir~gax&-- ub0h#1 Ddsbrza,Qba1ccef#1 c"]
def Dd{E:XK}:R "masks" nY oe K:=by
 obtain⟨p,ms,rfl,d,n,j,k⟩:=h;exists oe;show((_,TW d),?_);show dM (xs:=ms.map V.int) (λ_=>true) (λi=>.bl<|decide<|((sgL<|ms.getD i 0).length:Int)=1) (by rw[Tn];show n) (TW d) ?_ ?_ ?_
 . intro i x H1 R b s1 k1;show k1 _ (Tu _)
 . intro i x H1 r b g s1 k1;obtain⟨m,c,rfl⟩:=aI b;change tOp (cEq K) _ _ [none,⇑m] H1 r;exists(m,rfl,j m<|Tv c,λl s f o a=>?_);symm;rw[bh a];symm;have q:=k1 _ f;rw[cC c]at q;rw[Tn];show q
 . intro l H1 o s1 a;rw[bn,Tn,nn ms<|λm=>V.bl<|decide<|((sgL m).length:Int)=1]at a;show oI (bs:=ms.map λm=>decide<|((sgL m).length:Int)=1) (by rw[a,Uq];rfl) ?_
   have e:(ms.map λm=>decide<|((sgL m).length:Int)=1).all id=setB ms:=by
    unfold setB;rw[VN];rfl
   rw[e];show k _ s1
def  sbI(m:Int):Int:=if ((sgL m).length:Int)=1 then(sgL m).getD 0 0 else 0
abbrev fuL(h w g:Int):∅:=List.replicate (h*w).toNat (2^g.toNat-1)
def  IA{h w g:Int}(c:1<=g)(b:g<=6):MkP g (h*w).toNat (fuL h w g):=(U7,λm a=>by
 rw[(V9.mp a).2];have e:g=1\/g=2\/g=3\/g=4\/g=5\/g=6:=by omega
 rcases e with rfl | rfl | rfl | rfl | rfl | rfl <;> decide)
def OX{p:Addr}{s:Str}{a:List Str}(h:H p=some (.tup<|a.map V.str)):cIn K false (.str s) (.ref p) H Q=Q (.bl<|decide<|s∈a) H:=by
 unfold cIn;dsimp only;rw[h];dsimp only[unD,unS,bnd];rw[lW,kj];simp[flatV]
def  unrK(k:RK):Bool:=decide (k=.Unlike)||decide (k=.Rising)
def PJ(k:RK):decide (tx (nmC k)∈[tx s!"unlike",tx s!"rising"])=unrK k:=by cases k <;> decide+kernel
def PK(k:RK):decide (tx (nmC k)=tx s!"sum")=decide (k=.Sum):=by cases k <;> decide+kernel
def Ki(k:RK):decide (tx (nmC k)=tx s!"seen")=decide (k=.Seen):=by cases k <;> decide+kernel
def Nm(k:RK):(nmC k).length<=20:=by cases k <;> decide
def LG(cs:List Nat)(k:Nat):(nsV cs).take k=nsV (cs.take k):=by unfold nsV;rw[VC,VC]
def oV{a b:Int}(x:Sub30 a b)(y:Sub30 b a):a=b:=by
 have g:=x.a0;have f:=x.a1;have d:=x.b0;have c:=x.b1
 have e:a.toNat=b.toNat:=Nat.eq_of_testBit_eq λi=>by
  by_cases h:i<6
  . have A:=(iQ (x:=1+(i:Int)) g f #[4] #[4]).1;have B:=(iQ (x:=1+(i:Int)) d c #[4] #[4]).1;rw[show(1+(i:Int)-1).toNat=i by lia]at A B;rw[← A,← B,Up];show(x.st _,y.st _)
  . have l:2^6<=2^i:=Wv #[1] #[4];rw[Xw #[4],Xw #[4]]
 lia
def  oP{a:Int}(c:0<=a)(b:a<64):Sub30 a a:=(c,b,c,b,λ_ h=>h)
variable{m:∅}
def  GD{g:Int}{n:Nat}(d:1<=g)(c:g<=6)(X:MkP g n m):gc m m:=λk=>by
 have f:=bT d c;rcases Vm k m.length with a | a
 . have b:=X.mm _<|aL a;show oP b.1 #[0]
 . have e:m.getD k 0=0:=by rw[List.getD,TV a];rfl
   rw[e];show oP #[1] #[1]
def  Fd{a b c:∅}(x:gc a b)(y:gc b c):gc a c:=λk=>((y k).a0,(y k).a1,(x k).b0,(x k).b1,λs h=>(x k).st s<|(y k).st s h)
def  Kj{g z s:Int}{n:Nat}(l:1<=g)(j:g<=6)(X:MkP g n m)(s0:1<=s)(i:s<=6):gc m (stL m z s):=λk=>by
 have o:=bT l j;rcases Vm k m.length with c | c
 . have b:=X.mm _<|aL c;rw[lE c]
   split
   . have t:=jx (s:=s) b.1 #[0] s0 i;show(t.1.1,by omega,b.1,by omega,λx a=>?_)
     cases f:stB (m.getD k 0) s with
     | false=>
      have e:woI (m.getD k 0) s=m.getD k 0:=by unfold woI;rw[TX (by rw[f];decide)]
      rw[e]at a;show a
     | true=>
      by_cases h:x=s
      . rw[h];show f
      . have d:=jy (g:=6) (m:=woI (m.getD k 0) s) #[1] #[1] t.1.1 (by change _ < (64:Int);omega) ((bg t.1.1 x).mpr a);rw[t.2.1 x d.1 d.2 h]at a;show a
   . show oP b.1 #[0]
 . have e1:(stL m z s).getD k 0=0:=by rw[List.getD,TV (by rw[md];show c)];rfl
   have e2:m.getD k 0=0:=by rw[List.getD,TV c];rfl
   rw[e1,e2];show oP #[1] #[1]
def qr{h w g:Int}{Td:List RR}{cl:∅}{ks:List TK}{n:Nat}(b:1<=g)(a:g<=6):∀{Tj:List Tho} {m m':∅},MkP g n m->Wlk h w g Td cl ks m Tj m'->gc m m'
 | [],m,m',X,W=>by cases (show m=m' from W);show GD b a X
 | th::r,m,m',X,W=>by
  obtain⟨_,_,_,c,_,_⟩:=W.1;show Fd (Kj b a X c.1 #[4]) (qr b a (X.stL b a c.1 #[4]) W.2)
section
variable{c:XZ}{h w g:Int}{Td:List RR}{cl cl':∅}{ks:List TK}
def yH{fl:∅}(A:∀{m:∅},MkP g (h*w).toNat m->(∀ k,k<fl.length->stB (m.getD k 0) (fl.getD k 0)=true)->AnsA h w g Td cl m fl)(i:1<=g)(c:g<=6)(d:fl.length=(h*w).toNat)(n:∀ x∈fl,1<=x/\x<=g):∀{Tj:List Tho} {m m':∅},MkP g (h*w).toNat m->(∀ k,k<fl.length->stB (m.getD k 0) (fl.getD k 0)=true)->Wlk h w g Td cl ks m Tj m'->∀ k,k<fl.length->stB (m'.getD k 0) (fl.getD k 0)=true
 | [],m,m',X,st,W=>by cases (show m=m' from W);show st
 | th::r,m,m',X,st,W=>by
  obtain⟨_,_,t,l,_,a⟩:=W.1;have q:=bT i c;show yH A i c d n (X.stL i c l.1 #[4]) (λk f=>?_) W.2;have o:k<m.length:=by rw[X.len];lia
  rw[lE o]
  split
  . rename_i e
    have b:=X.mm _<|aL o;have j:=OR (A X st) a;have p:=n _<|aL (ms:=fl) f;have e2:th.z.toNat=k:=by lia
    rw[e2]at j;rw[(jx (s:=th.s) b.1 #[4] l.1 #[4]).2.1 _ p.1 #[4] j];show st k f
  . show st k f
end
section
variable{c:XZ}{h w g:Int}{Td:List RR}{cl cl':∅}{ks:List TK}
def Mi(R:bY c h w g Td):∀(n:Nat) {m:∅},btA m<=n->MkP g (h*w).toNat m->∃(Tj:List Tho) (x:∅),ThR h w g Td cl ks m Tj x/\Wlk h w g Td cl ks m Tj x/\(0∈x\/ffF h w g Td cl x ks=[])
 | n,m,hn,X=>by
  have i:=R.F.g0;have d:=R.F.g1;by_cases e:0∈m\/ffF h w g Td cl m ks=[]
  . show([],m,.stop e,rfl,e)
  . have h0:0∉m:=λq=>e<|.inl q;have b:ffF h w g Td cl m ks≠[]:=λq=>e<|.inr q;obtain⟨m',W⟩:=EW (cl:=cl) (ks:=ks) R X h0;have k:=W.run;subst k;have a:=W.okM i d X;have l:=Vl.mpr b;have o:=a.2
    match n,hn with
    | 0,hn=>lia
    | n+1,hn=>
     obtain⟨Tj,x,t,f,j⟩:=Mi R n (m:=runA m (ffF h w g Td cl m ks)) #[4] a.1;show(_,x,.go h0 b t,W.trans f,j)
open Classical in
def  stF (h w g:Int) (Td:List RR) (cl:∅) (ks:List TK):∅:=if q:∃ x,∃ Tj,ThR h w g Td cl ks (fuL h w g) Tj x then q.choose else []
def Kk{Tj:List Tho}{x:∅}(t:ThR h w g Td cl ks (fuL h w g) Tj x):x=stF h w g Td cl ks:=by
 have q:∃ x,∃ Tj,ThR h w g Td cl ks (fuL h w g) Tj x:=(x,Tj,t);unfold stF;rw[dif_pos q];obtain⟨a,b⟩:=q.choose_spec;show(t.det b).2
end
def gE{b:Bool}{A B:Prop}(e:b=true)(h:A):if b=true then A else B:=by rw[e];show iteT h
def iS{b:Bool}{A B:Prop}(e:b=false)(h:B):if b=true then A else B:=by rw[e];show iteF h
structure Z5 where
 P:Program
 w:World
 K:Frag
 mg:Str->Option Value
 base:Heap
structure Bt3(Z:Z5):Prop extends Bt2 Z.mg where
 ns:∀{x:Str} {v:Value},nsIn Z.K mainGlobals x=some (some v)->Z.mg x=some v
def  Nn(K:Frag)(b:Str):Prop:=nsIn K mainGlobals b=some none
def  Zn(K:Frag):Prop:=Nn K "len"/\Nn K "abs"/\Nn K "min"/\Nn K "max"/\Nn K "sorted"/\Nn K "any"/\Nn K "isinstance"/\Nn K "list"/\Nn K "int"/\Nn K "bool"/\Nn K "str"/\Nn K "tuple"/\Nn K "reversed"/\Nn K "set"/\Nn K "range"/\Nn K "zip"/\Nn K "all"/\Nn K "sum"/\Nn K "enumerate"
def OY{Z:Z5}{h:Heap}(X:Z.K.In h)(G:h.Ns mainGlobals Z.mg)(z:Zn Z.K):Bt3 Z:=by
 obtain⟨a,b,c,d,e,f,g,i,j,k,l,m,n,o,p,q,r,s,t⟩:=z;have N:∀{b:Str},Nn Z.K b->Z.mg b=none:=λh=>PySem.W.mg_none_of X G h;show(((N a,N b,N c,N d,N e,N f,N g,N i,N j,N k,N l,N m,N n,N o,N p,N q),N r,N s,N t),λh=>PySem.W.mg_of X G h)
structure De(K:Frag)(x:Str)(st:Stmt):Prop where
 ex:∃(f:Addr) (fd:FuncData),nsIn K mainGlobals x=some ↑f/\Fun K x x st f fd
structure Me(K:Frag)(x qual:Str)(st:Stmt)(f:Addr):Prop where
 ex:∃ fd:FuncData,Fun K x qual st f fd/\isFn K (.ref f)=true
structure ClsP(K:Frag)(x:Str)(A f:Addr):Prop where
 q:nsIn K mainGlobals x=some ↑A
 m1:PySem.W.makesIn K A=true
 m2:findIn K (.ref A) "__init__"=some ↑f
 m4:keepIn K (.ref A)=true
 cl:Cls K A
def  mkC(a f c h d e g b:Addr):XZ:=(λk=>match k with | .Rule=>a | .Unlike=>a | .Sum=>f | .Rising=>c | .Seen=>h | .Count=>d | .Joined=>e | .NoSquare=>g | .Ring=>b,λk=>match k with | .Rule=>false | .Joined=>false | .NoSquare=>false | .Ring=>false | _=>true)
def  mkD(y:Addr):X8:=(λ_=>y,λ_=>true)
def  At8(K:Frag)(m:Str)(v:Option Value)(c f b h d e g a:Addr):Prop:=findIn K (.ref c) m=some v/\findIn K (.ref f) m=some v/\findIn K (.ref b) m=some v/\findIn K (.ref h) m=some v/\findIn K (.ref d) m=some v/\findIn K (.ref e) m=some v/\findIn K (.ref g) m=some v/\findIn K (.ref a) m=some v
def  C8(K:Frag)(c f b h d e g a:Addr):Prop:=Cls K c/\Cls K f/\Cls K b/\Cls K h/\Cls K d/\Cls K e/\Cls K g/\Cls K a
section
variable{Z:Z5}{K:Frag}{x1 x2 x3 x4 x5 x6 x7 x8 f:Addr}{m:Str}{v:Option Value}
def at8(h:At8 K m v x1 x2 x3 x4 x5 x6 x7 x8)(k:RK):findIn K (.ref<|(mkC x1 x2 x3 x4 x5 x6 x7 x8).A k) m=some v:=by
 obtain⟨a,b,c,d,e,f,g,i⟩:=h;cases k <;> assumption
def c8(h:C8 K x1 x2 x3 x4 x5 x6 x7 x8)(k:RK):Cls K ((mkC x1 x2 x3 x4 x5 x6 x7 x8).A k):=by
 obtain⟨a,b,c,d,e,f,g,i⟩:=h;cases k <;> assumption
def  fk8(C:C8 K x1 x2 x3 x4 x5 x6 x7 x8)(h:At8 K m none x1 x2 x3 x4 x5 x6 x7 x8):FldK K (mkC x1 x2 x3 x4 x5 x6 x7 x8) m:=⟨λk _=>(c8 C k,at8 h k)⟩
variable{N ps:List Str}{k k':Nat}{sp sp':Sp}{t:TS}{x qual:Str}{st:Stmt}
abbrev Hb(Z:Z5)(N:List Str)(qual:Str)(st:Stmt)(f:Addr)(k:Nat)(t:TS):Prop:=∀{b:Value} {A:Around} {a:List Env} {s:Shared} {H:Hp} {E:XK},Room k (A.deeper<|envOfC qual (aV st) s.heap.objs.size f b)->(A.deeper<|envOfC qual (aV st) s.heap.objs.size f b).units+64<cLine->N.Nodup->PSs (cxOf CX0 Z.P Z.w Z.K Z.mg Z.base N qual (aV st) f b A a s H E).nox (dk st) t
abbrev Rk(N:List Str)(sp:Sp)(t:TS):Prop:=∀{vs H Q E},sp vs H Q E->t (eD9 Q) (start N vs) H
abbrev Ln(ps:List Str)(sp:Sp):Prop:=∀{vs H Q E},sp vs H Q E->vs.length=ps.length
abbrev Bd(x qual:Str)(st:Stmt)(ps:List Str):Prop:=∀(f b d:Value) (g:Option Addr) (c e:Value) (a:List Value),a.length=ps.length->bindArgs (fnOf x qual (fH st) (dk st) (aV st) .none f b d g c e) (a,[])=pure (ps.zip a)
def  okf{f:Addr}{c:FuncData}(F:Fun Z.K x qual st f c)(S:kc N ps (aV st))(e:Rk N sp t)(g:Hb Z N qual st f k t)(b:Ln ps sp):FnOk Z.P Z.w Z.K Z.mg Z.base CX0 (k+1) f c ps sp:=F.ok S (λ_ _ _ _ h=>b h) λi A a s H vs Q E d h=>(t,g d d.units S.nd,e h)
local macro_rules | `(tactic| walk_at "l")=>`(tactic| (intro vs H Q E h; (repeat obtain ⟨_,h⟩:=h); subst_vars; rfl))
def Bx{α:Type}{us:List α}{n:Nat}(e:us.length=n+1):∃ u t,t.length=n/\us=u::t:=by
 cases us with
 | nil=>cases e
 | cons u t=>show(u,t,Nat.succ.inj e,rfl)
def bd1{c:Str}(h:∀ g a i j d ct b,bindArgs (fnOf x qual (fH st) (dk st) (aV st) .none g a i j d ct) ([b],[])=pure ([c].zip [b]):=by intros;rfl):Bd x qual st [c]:=by
 intro _ _ _ _ _ _ _ e;(iterate 1 (obtain⟨_,_,f,rfl⟩:=Bx e;clear e;have e:=f;clear f));cases UC e;show h ..
def bd2{g d:Str}(h:∀ j a k l i ct c b,bindArgs (fnOf x qual (fH st) (dk st) (aV st) .none j a k l i ct) ([c,b],[])=pure ([g,d].zip [c,b]):=by intros;rfl):Bd x qual st [g,d]:=by
 intro _ _ _ _ _ _ _ e;(iterate 2 (obtain⟨_,_,f,rfl⟩:=Bx e;clear e;have e:=f;clear f));cases UC e;show h ..
def bd3{j i b:Str}(h:∀ l a m n k ct g d c,bindArgs (fnOf x qual (fH st) (dk st) (aV st) .none l a m n k ct) ([g,d,c],[])=pure ([j,i,b].zip [g,d,c]):=by intros;rfl):Bd x qual st [j,i,b]:=by
 intro _ _ _ _ _ _ _ e;(iterate 3 (obtain⟨_,_,f,rfl⟩:=Bx e;clear e;have e:=f;clear f));cases UC e;show h ..
def bd4{g j b l:Str}(h:∀ o a n p m ct i d c k,bindArgs (fnOf x qual (fH st) (dk st) (aV st) .none o a n p m ct) ([i,d,c,k],[])=pure ([g,j,b,l].zip [i,d,c,k]):=by intros;rfl):Bd x qual st [g,j,b,l]:=by
 intro _ _ _ _ _ _ _ e;(iterate 4 (obtain⟨_,_,f,rfl⟩:=Bx e;clear e;have e:=f;clear f));cases UC e;show h ..
def bd5{g l b n j:Str}(h:∀ q a p r o ct i d c m k,bindArgs (fnOf x qual (fH st) (dk st) (aV st) .none q a p r o ct) ([i,d,c,m,k],[])=pure ([g,l,b,n,j].zip [i,d,c,m,k]):=by intros;rfl):Bd x qual st [g,l,b,n,j]:=by
 intro _ _ _ _ _ _ _ e;(iterate 5 (obtain⟨_,_,f,rfl⟩:=Bx e;clear e;have e:=f;clear f));cases UC e;show h ..
def bd6{g m b o k p:Str}(h:∀ s a r t q ct j d c n l i,bindArgs (fnOf x qual (fH st) (dk st) (aV st) .none s a r t q ct) ([j,d,c,n,l,i],[])=pure ([g,m,b,o,k,p].zip [j,d,c,n,l,i]):=by intros;rfl):Bd x qual st [g,m,b,o,k,p]:=by
 intro _ _ _ _ _ _ _ e;(iterate 6 (obtain⟨_,_,f,rfl⟩:=Bx e;clear e;have e:=f;clear f));cases UC e;show h ..
local macro_rules | `(tactic| ac_rfl)=>`(tactic| exact ⟨rfl,rfl,rfl,by decide+kernel,rfl,by decide+kernel,by decide+kernel⟩)
def  okc(B:Bt3 Z)(D:De Z.K x st)(d:Rk N sp t)(b:Bd x x st ps)(e:∀{f},Hb Z N x st f k t)(S:kc N ps (aV st):=by ac_rfl)(c:Ln ps sp:=by walk_at "l"):Cal Z.P Z.w Z.K Z.mg Z.base (k+1) x ps sp:=
 let ⟨f,g,a,F⟩:=D.ex
 (f,g,okf F S d e c,B.ns a,F.kp,F.binds b)
structure Mo(Z:Z5)(k:Nat)(f:Addr)(ps:List Str)(sp:Sp):Prop where
 ex:∃ fd:FuncData,FnOk Z.P Z.w Z.K Z.mg Z.base CX0 k f fd ps sp/\Binds Z.K fd ps []/\isFn Z.K (.ref f)=true/\keepIn Z.K (.ref f)=true
def  okm(D:Me Z.K x qual st f)(c:Rk N sp t)(b:Bd x qual st ps)(d:Hb Z N qual st f k t)(S:kc N ps (aV st):=by ac_rfl)(a:Ln ps sp:=by walk_at "l"):Mo Z (k+1) f ps sp:=
 let ⟨e,F,n⟩:=D.ex
 (e,okf F S c d a,F.binds b,n,F.kp)
def Mo.at{C:Addr}(T:Mo Z k f ps sp)(cl:Cls Z.K C)(a:findIn Z.K (.ref C) m=some ↑f)(d:∀ vs H Q E,sp' vs H Q E->sp vs H Q E)(g:k<=k':=by decide):∃(f:Addr) (c:FuncData),Cls Z.K C/\Meth Z.K C m f/\FnOk Z.P Z.w Z.K Z.mg Z.base CX0 k' f c ps sp'/\Binds Z.K c ps []:=
 let ⟨c,F,b,n,e⟩:=T.ex
 (f,c,cl,(a,n,e),(F.mono g).imp d,b)
def  Mo.mke{C:Addr}(T:Mo Z k f ps sp)(B:Bt3 Z)(c:ClsP Z.K x C f):KCal Z.P Z.w Z.K Z.mg Z.base k x C ps sp:=
 let ⟨a,F,b,n,_⟩:=T.ex
 (f,a,(c.m1,c.m2,n,c.m4),F,B.ns c.q,b)
def  De.of{K:Frag}{f:Addr}{b:FuncData}(a:nsIn K mainGlobals x=some ↑f)(F:Fun K x x st f b):De K x st:=(f,b,a,F)
def  Me.of{K:Frag}{f:Addr}{a:FuncData}(F:Fun K x qual st f a)(n:isFn K (.ref f)=true):Me K x qual st f:=(a,F,n)
structure GT0(K:Frag)(x:Str)(ws:List Str):Prop where
 ex:∃(p:Addr) (o:Obj) (Tg:Array Value) (n:Nat),nsIn K mainGlobals x=some ↑p/\K.lookup p=some o/\o.cls=.type "tuple"/\o.data=.seq Tg n/\Tg.size<=sizeLine/\Vals (ws.map V.str) Tg.toList
def  GT0.mk'{K:Frag}{f:List Str}{p:Addr}{o:Obj}{Tg:Array Value}{n:Nat}(a:nsIn K mainGlobals x=some ↑p)(b:K.lookup p=some o)(c:o.cls=.type "tuple")(d:o.data=.seq Tg n)(e:Tg.size<=sizeLine)(v:Vals (f.map V.str) Tg.toList):GT0 K x f:=(p,o,Tg,n,a,b,c,d,e,v)
def  GT0.of{b:List Str}(g:GT0 Z.K x b)(B:Bt3 Z):GTup Z.K Z.mg x b:=let ⟨p,o,i,n,a,r⟩:=g.ex;(p,o,i,n,B.ns a,r)
structure GD0(w:World)(K:Frag)(x:Str)(D:List (Str × List Str)):Prop where
 ex:∃(p:Addr) (o:Obj) (es:Array DictEntry) (ep:Nat),nsIn K mainGlobals x=some ↑p/\K.lookup p=some o/\o.ExactDict/\o.data=.dict es ep/\DRows w K es.toList D/\(D.map λx=>x.1).Nodup
def  GD0.of{D:List (Str × List Str)}(g:GD0 Z.w Z.K x D)(B:Bt3 Z):GDict Z.w Z.K Z.mg x D:=let ⟨p,o,i,n,a,r⟩:=g.ex;(p,o,i,n,B.ns a,r)
end
section
variable{X:Cx}{a b e:Expr}{ta tb te:TE}{pos pos' p:Pos}{x:Str}{es:List Expr}{t:TA}{ps:List Str}{sp:Sp}{k n:Nat}
def kcal(C:Cal X.prog X.w X.K X.mg X.base k x ps sp)(d:Room n X.A)(g:PA X (e::es) t)(h:k<=n:=by decide)(c:Gl X x:=by show rfl)(b:(x==("__debug__":Str))=false:=by decide)(f:starEach (e::es) X.env=(false ,eval e X.env)::starEach es X.env:=by rfl)(a:(backTo pos<|starEach es X.env).any (·.1)=false:=by rfl):PE X (.Call (.Name x p) (e::es) [] pos) (tCall sp [] E0 t):=Ob C d h c g b f a
def kix(f:X.A.units+64<cLine)(c:PE X a ta)(d:PE X b tb)(e:A6 b:=by show λ_ _=>rfl):PE X (.Subscript a b pos) (tOp cIx ta tb):=DI (N9 f) c d e
def kset(i:Nat)(b:X.N.Nodup)(d:PE X e te)(g:X.N[i]? =some x:=by show rfl)(c:Loc X.env.scope x:=by show Or.inl rfl)(f:swapsWith e (some<|.Name x pos') pos.line X.env=pure false:=by rfl)(a:X.fn x=true\/X.env.scope.names.lookup x=some .local:=by first | show .inl rfl | show .inr rfl | assumption):PS X (.Assign [.Name x pos'] e pos) (tAsg te<|gName i):=cH b g c d f a
end
section
variable{Z:Z5}{N ps:List Str}{k:Nat}{sp:Sp}{t:TS}{b x:Str}{st:Stmt}
local macro_rules | `(tactic| walk_at "l")=>`(tactic| (intro vs H Q E h; (repeat obtain ⟨_,h⟩:=h); subst_vars; rfl))
local macro_rules | `(tactic| ac_rfl)=>`(tactic| exact ⟨rfl,rfl,rfl,by decide+kernel,rfl,by decide+kernel,by decide+kernel⟩)
end
section
variable{K:Frag}{c:XZ}{d:X8}{h w g:Int}{Td:List RR}{cl:∅}{ks:List TK}
open Classical in
def  thM (h w g:Int) (Td:List RR) (cl:∅) (ks:List TK) (m:∅):List Tho × ∅:=if q:∃ p:List Tho × ∅,ThR h w g Td cl ks m p.1 p.2 then q.choose else([] ,[])
def Kl{m x:∅}{a:List Tho}(t:ThR h w g Td cl ks m a x):a=(thM h w g Td cl ks m).1/\x=(thM h w g Td cl ks m).2:=by
 have q:∃ p:List Tho × ∅,ThR h w g Td cl ks m p.1 p.2:=((a ,x),t);unfold thM;rw[dif_pos q];show t.det q.choose_spec
def  lfM (h w g:Int) (Td:List RR) (cl:∅) (ks:List TK) (a:∅):∅:=(thM h w g Td cl ks<|a.map<|mbI g).2
def  wrB (h w g:Int) (Td:List RR) (cl:∅) (ks:List TK) (a:∅):Bool:=decide (0∈lfM h w g Td cl ks a)
end
variable{K:Frag}{B:Addr}
def CH {H1:Hp} {bs:List Addr} {d:List ∅} {D:TT} {q:St} {fin:Addr->Hp->Prop} (p:∅->Bool) (x:IsLL H1 B bs d) (P:d.length<=1100) (G:1<q.length)
  (I:∀(b:Addr) (f:∅) H R,f∈d->H1 b=↥(f.map V.int)->Same H1 H->(∀ H',Same H H'->R (p f) H')->D (q.set 1 ↑b) H R)
  (L:∀ l cs H,H1 l=none->Same H1 H->IsLL H l cs (d.filter p)->l∉cs->(∀ c∈cs,c∈bs)->fin l H):CompR (Itl K B) (gName 1) D (tVar 1) fin q H1:=by
 have v:=x.len;show mV (xs:=bs.map V.ref) (λl i σ H=>(σ=q\/∃ A,σ=q.set 1 A)/\Same H1 H/\∃ cs,IsLL H l cs ((d.take i).filter p)/\l∉cs/\∀ c∈cs,c∈bs) (λl m=>(.inl rfl,(Tu H1).laid m,[],(by rw[ah];rfl,rfl,λj a xs h1=>by simp at h1),by simp,(λc o=>nomatch o))) (λl i σ H _ _ p=>p.2.1.seq<|TW x.top) ?_ ?_
 . rintro l i y σ H m M ⟨u,s1,cs,t,r,g⟩;obtain⟨b,C,rfl⟩:=aY M;obtain⟨f,w,s⟩:=x.get C;rw[aZ]
   have e:σ.set 1 ↑b=q.set 1 ↑b:=by
    rcases u with rfl | ⟨A,rfl⟩
    . rfl
    . show Vb ..
   rw[e];show I b f H _ (Tv w) s s1 λN E=>?_;have k:=t.same E;have n:=s1.trans E
   cases F:p f with
   | false=>
    rw[TX TB];show(.inr (_,rfl),n,cs,?_,r,g);rw[fD w,Us,Um,F]
    simpa using k
   | true=>
    rw[TZ rfl,Pr];show(.ref b,by rw[Wb G],cs.map V.ref,k.top,?_,.inr (_,rfl),n.own m,cs++[b],?_,?_,?_)
    . rw[Tn,k.len];have h4:=Ue p<|d.take i;have h5:(d.take i).length<=d.length:=by rw[Uu];show Nat.min_le_right _ _
      show CA #[4]
    . have nb:l≠b:=λz=>by rw[← z,m]at s;cases s
      have z:=k.app (bs:=[b]) (yss:=[f]) r (by simpa using nb) rfl λj a O h1 h2=>by
       have J:j=0:=by have:=(Tr.mp h1).1;simp at this;lia
       subst J;cases h1;cases h2;show n _ _ s
      rw[fD w,Us,Um,F]
      simpa using z
    . intro h;rcases Ud.mp h with h | h
      . show r h
      . rw[TH.mp h,s]at m;cases m
    . intro c o;rcases Ud.mp o with o | o
      . show g c o
      . rw[TH.mp o];show Tv C
 . rintro l σ H m ⟨_,s1,cs,t,r,g⟩;have e:d.take (bs.map V.ref).length=d:=Ut (by rw[Tn,v];show TQ _);rw[e]at t;show L l cs H m s1 t r g
def Fe(xs:∅):∀ Ti:List ∅,((Ti.map dLI).any λy=>PyData.eqv y<|dLI xs)=decide (xs∈Ti)
 | []=>by simp
 | ys::r=>by
  rw[T7,VA,Fe xs r,Hc,Up,Uw,Tt,Tt,Tt,TN];show(λh=>h.elim (λe=>.inl e.symm) .inr,λh=>h.elim (λe=>.inl e.symm) .inr)
variable{H:Hp}{xs:∅}{Ti:List ∅}
def LH{p q:Addr}{bs:List Addr}(a:H p=↥(xs.map V.int))(c:IsLL H q bs Ti):DV K H (.ref p) (dLI xs)/\DV K H (.ref q) (.list<|Ti.map dLI)/\PyData.canLayAll0 (Ti.map dLI)=true/\PyData.canLay0 (dLI xs)=true/\min (PyData.depthAll<|Ti.map dLI) (dLI xs).depth<=62:=by
 show(.lst (TW a)<|.ints xs,c.dv,lV λd b=>by obtain⟨x,_,rfl⟩:=Tz.mp b;show A9 x,A9 xs,?_);rw[Cp];show TU (Nat.min_le_right _ _) #[1]
variable{Q:VK}
def Km{p q:Addr}{bs:List Addr}(a:H p=↥(xs.map V.int))(b:IsLL H q bs Ti)(h:Q (.bl<|decide<|xs∈Ti) H):cIn K false (.ref p) (.ref q) H Q:=by
 obtain⟨h1,h2,h3,h4,h5⟩:=LH (K:=K) a b;show(_,_,h1,.inl h2,h3,h4,h5,?_);rw[TX TB,Fe];show h
def  vf(R:Int->∅->Prop):∅->List ∅->Prop
 | [],[]=>True
 | x::f,ss::r=>R x ss/\vf R f r
 | _,_=>False
def all2_iff{R:Int->∅->Prop}:∀{f:∅} {sss:List ∅},vf R f sss↔f.length=sss.length/\∀(i:Nat) x ss,f[i]? =some x->sss[i]? =some ss->R x ss
 | [],[]=>by simp[vf]
 | [],_::_=>by simp[vf]
 | _::_,[]=>by simp[vf]
 | x::f,ss::r=>by
  rw[vf,all2_iff (f:=f) (sss:=r)];constructor
  . rintro⟨h1,h2,h3⟩;show(by simp[h2],λi y s e1 e2=>?_)
    match i,e1,e2 with
    | 0,e1,e2=>simp at e1 e2;subst e1 e2;show h1
    | i+1,e1,e2=>show h3 i y s (by simpa using e1) (by simpa using e2)
  . rintro⟨h1,h2⟩;show(h2 0 x ss rfl rfl,by simpa using h1,λi y s e1 e2=>h2 (i+1) y s (by simpa using e1) (by simpa using e2))
variable{f:∅}
def mem_extL{fs:List ∅}{ss:∅}:f∈extL fs ss↔∃ a∈fs,∃ s∈ss,f=a++[s]:=by
 unfold extL;rw[VJ];constructor
 . rintro⟨a,b,h⟩;obtain⟨s,c,rfl⟩:=Tz.mp h;show(a,b,s,c,rfl)
 . rintro⟨a,b,s,c,rfl⟩;show(a,b,Tz.mpr (s,c,rfl))
def Ff:∀(sss fs:List ∅) (f:∅),f∈sss.foldl extL fs↔∃ a∈fs,∃ t,f=a++t/\vf (λx ss=>x∈ss) t sss
 | [],fs,f=>by
  constructor
  . intro h;show(f,h,[],by simp,trivial)
  . rintro⟨a,d,t,rfl,c⟩
    cases t with
    | nil=>simpa using d
    | cons x t=>show c.elim
 | ss::r,fs,f=>by
  rw[Ul,Ff r];constructor
  . rintro⟨b,e,t,rfl,c⟩;obtain⟨a,d,s,g,rfl⟩:=mem_extL.mp e;show(a,d,s::t,by simp,g,c)
  . rintro⟨a,d,t,rfl,c⟩
    cases t with
    | nil=>show c.elim
    | cons x t=>show(a++[x],mem_extL.mpr (a,d,x,c.1,rfl),t,by simp,c.2)
variable{sss:List ∅}
def every_mem:f∈dQ sss↔vf (λx ss=>x∈ss) f sss:=by
 unfold dQ;rw[Ff];constructor
 . rintro⟨a,b,t,rfl,c⟩;rw[TH.mp b];show c
 . intro h;show([],by simp,f,rfl,h)
def z5{ss:∅}(d:ss.Nodup):∀{fs:List ∅},fs.Nodup->(extL fs ss).Nodup
 | [],_=>VW
 | f::r,h=>by
  obtain⟨h1,h2⟩:=UB.mp h;rw[show f::r=[f]++r from rfl,yy,tp];show VS.mpr (?_,z5 d h2,?_)
  . show W9.mpr<|List.Pairwise.imp (λ{a b} c e=>c ?_) d;have:=(List.append_inj' e rfl).2
    simpa using this
  . rintro a k b j rfl;obtain⟨s,_,rfl⟩:=Tz.mp k;obtain⟨g,i,l,_,e⟩:=mem_extL.mp j;have:=(List.append_inj' e rfl).1;show h1 (this ▸ i)
def xj(h:∀ ss∈sss,ss.Nodup):(dQ sss).Nodup:=by
 unfold dQ
 have:∀(sss a:List ∅),(∀ ss∈sss,ss.Nodup)->a.Nodup->(sss.foldl extL a).Nodup:=by
  intro sss
  induction sss with
  | nil=>intro a _ h;show h
  | cons ss r b=>intro a h1 h2;show b _ (λx c=>h1 x<|TD _ c) (z5 (h1 ss TR) h2)
 show this sss [[]] h (by simp)
section
variable{c:XZ}{h w g:Int}{Td:List RR}{cl es fl:∅}{ks:List TK}
structure En64(h w g:Int)(es:∅):Prop where
 n:es.length=(h*w).toNat
 ok:∀ x∈es,0<=x/\x<=g
def  En64.mk'(X:En64 h w g es)(d:1<=g)(b:g<=6):MkP g (h*w).toNat (es.map<|mbI g):=(by rw[Tn];show X.n,λz c=>by
 obtain⟨x,a,rfl⟩:=Tz.mp c;show(zY d b (X.ok x a).1 (X.ok x a).2).1)
def yI{k:Nat}(a:k<es.length):(es.map<|mbI g).getD k 0=mbI g (es.getD k 0):=by
 rw[List.getD,Tw,To a,List.getD,To a];rfl
def Mj(R:bY c h w g Td)(X:En64 h w g es):∃ Tj,Wlk h w g Td cl ks (es.map<|mbI g) Tj (lfM h w g Td cl ks es)/\(0∈lfM h w g Td cl ks es\/ffF h w g Td cl (lfM h w g Td cl ks es) ks=[]):=by
 obtain⟨a,x,t,W,e⟩:=Mi (cl:=cl) (ks:=ks) R _ (TQ<|btA _)<|X.mk' R.F.g0 R.F.g1;have e2:=(Kl t).2;unfold lfM;rw[← e2];show(a,W,e)
def No(R:bY c h w g Td)(X:En64 h w g es)(A:metB h w g Td cl fl=true)(y:CluesOk h w g cl)(u:∀ k,k<es.length->es.getD k 0=0\/es.getD k 0=fl.getD k 0):wrB h w g Td cl ks es=false:=by
 have d:=R.F.g0;have b:=R.F.g1;have C:=bT d b;unfold metB at A;rw[Tx,Tx]at A;obtain⟨v,B,z⟩:=A;obtain⟨q,j⟩:=jV v;have D:=X.n
 have t:∀{m:∅},MkP g (h*w).toNat m->(∀ k,k<fl.length->stB (m.getD k 0) (fl.getD k 0)=true)->AnsA h w g Td cl m fl:=λ{m} M r=>by
  show(R.F,q,M.len,λx f=>((M.mm x f).1,by have:=(M.mm x f).2;lia),j,r,λk i=>?_,R.ok,λx f=>?_)
  . have:=Ty.mp B k (TC.mpr (by rw[y.len];lia));rw[Uw,Tt,Tt]at this;show this
  . show Ty.mp z x f
 obtain⟨Tj,W,_⟩:=Mj (cl:=cl) (ks:=ks) R X
 have K:=yH t d b q j (X.mk' d b) (λk i=>by
  have a:k<es.length:=by lia
  have l:=X.ok _<|aL a;have o:=j _<|aL i;rw[yI a,(zY d b l.1 l.2).2 _ o.1 #[4],Tp o.2,Uj,Uw,Tt,Tt];show u k a) W
 unfold wrB;show Tq λh0=>?_;have M:=(W.okM d b<|X.mk' d b).1;have E:=M.len;generalize lfM h w g Td cl ks es=m at*;obtain⟨k,i,e⟩:=UP h0;have:=K k #[4];rw[List.getD,To i,e]at this;have p:=pM (s:=fl.getD k 0);rw[show(some (0:Int)).getD 0=0 from rfl]at this;rw[this]at p;cases p
def Kn:((List.range 6).all λx=>decide<|sgL ((2:Int)^x)=[1+(x:Int)])=true:=by decide+kernel
def wn{x:Int}(b:1<=x)(a:x<=6):sgL (mbI g x)=[x]:=by
 have t:=TF<|Ty.mp Kn (x-1).toNat<|TC.mpr #[4];unfold mbI;rw[TX #[4],t]
 congr 1
 lia
def xk{Tb:∅}:∀{rest:∅} {f:∅},(∀ o∈rest,sgL (Tb.getD o.toNat 0)=[fl.getD o.toNat 0])->wfold Tb rest [f]=[rest.foldl (λf o=>setL f o<|fl.getD o.toNat 0) f]
 | [],_,_=>rfl
 | o::r,f,h=>by
  have e:=xk (rest:=r) (f:=setL f o (fl.getD o.toNat 0)) λa b=>h a<|TD _ b;unfold wfold at*;rw[Ul,Ul,h o TR];show e
def z6:∀(ms:∅),(∀ m∈ms,(sgL m).length=1)->ms.foldl (λp m=>p*(sgL m).length) 1=1
 | [],_=>rfl
 | m::r,h=>by
  rw[Ul,h m TR];show z6 r λx a=>h x (TD _ a)
def GE{k:RK}{n m z:Int}{cs:∅}(u:g<=6)(v:es.length=(h*w).toNat)(d:∀ x∈es,1<=x/\x<=g)(p:∀ x∈cs,0<=x/\x<h*w)(q:hoB k h w cs n m es=false):waysB k h w cs n m (es.map<|mbI g) z (es.getD z.toNat 0) []=true:=by
 have e:∀ o∈othL cs z,sgL ((es.map<|mbI g).getD o.toNat 0)=[es.getD o.toNat 0]:=λo j=>by
  have b:=p o (oth_memA.mp j).1;have l:o.toNat<es.length:=by lia
  have f:=d _<|aL l;rw[yI l,wn f.1 #[4]]
 unfold waysB;rw[Tx,Tx,Uw];show(Tp rfl,Tp ?_,.inr ?_)
 . unfold prodW;rw[z6 _ λx c=>?_]
   . decide
   . unfold sgAt at c;obtain⟨o,j,rfl⟩:=Tz.mp c;rw[e o j];rfl
 . rw[UU,Wc];intro f i;unfold wfill at i;rw[xk e,TH]at i;subst i;rw[E6 (ys:=es) λx c=>?_,q]
   . decide
   . have r:=p x c;have s:x.toNat < (setL (List.replicate (es.map<|mbI g).length 0) z<|es.getD z.toNat 0).length:=by rw[pJ,U7,Tn];lia
     rw[Bv r.1 s];by_cases a:x=z
     . rw[TX<|λt=>(oth_memA.mp t).2 a,ve (by rw[U7,Tn];lia),TZ #[4],a]
     . rw[TZ<|oth_memA.mpr (c,a)]
def Hy{t:TK}{r z:Int}(R:bY c h w g Td)(X:En64 h w g es)(i:∀ x∈es,1<=x/\x<=g)(e:wrB h w g Td cl allT es=false)(B:0<=z)(A:z<h*w)(a:alwA h w g Td cl (es.map<|mbI g) t r z (es.getD z.toNat 0) []=true):False:=by
 have k:=R.F.g0;have j:=R.F.g1;obtain⟨v,W,e1⟩:=Mj (cl:=cl) (ks:=allT) R X;have M:=X.mk' k j;have y:=X.n;unfold wrB at e;have m:=of_decide_eq_false e;have l:=(W.okM k j M).1;have Y:=qr k j M W;generalize lfM h w g Td cl allT es=m1 at*;have u:=lessA R Y (by rw[M.len,l.len]) a;have p:=OW R l m (e1.resolve_left m) (show t∈allT by cases t <;> decide) u;have o:z.toNat<es.length:=by lia
 have S:=Y z.toNat;have f:=i _<|aL o;rw[yI o]at S
 have q:m1.getD z.toNat 0=0:=oV (a:=m1.getD z.toNat 0) (b:=0) (S.a0,S.a1,by decide,by decide,λs d=>by
  have h2:=S.st s d;have h3:=(bg (by have:=S.b0;show this) s).mpr h2;rw[wn f.1 #[4],TH]at h3;rw[h3,p]at d;cases d) (by decide,by decide,S.a0,S.a1,λs d=>by rw[pM]at d;cases d)
 show m (by rw[← q];show aL (by rw[l.len];lia))
def OZ(R:bY c h w g Td)(X:En64 h w g es)(u:CluesOk h w g cl)(a:∀ x∈es,1<=x/\x<=g):wrB h w g Td cl allT es=!metB h w g Td cl es:=by
 have P:=R.F.g0;have G:=R.F.g1;have C:=X.n
 cases D:metB h w g Td cl es with
 | true=>show No R X D u λk _=>.inr rfl
 | false=>
  cases e:wrB h w g Td cl allT es with
  | true=>rfl
  | false=>
   show absurd D ?_;rw[Bool.not_eq_false];unfold metB;rw[Tx,Tx];show(?_,?_,?_)
   . unfold filB;rw[Tx,Tt,Ty];show(C,λx j=>by rw[Tx,Tt,Tt];show a x j)
   . show Ty.mpr λk M=>?_;have m:=TC.mp M;have d:k<es.length:=by rw[u.len]at m;lia
     rw[Uw,Tt,Tt];show Vt λq=>?_;have f:=a _<|aL d;show Hy (t:=.clue) (r:=0) (z:=k) R X a e #[4] #[4] ?_;unfold alwA formB;rw[Ui];simp only[Tx,Tt];show(((by lia,by lia),(f.1,f.2),rfl),?_);change clueB cl k (es.getD k 0) []=true;unfold clueB;rw[Ui];simp only[Tx,Tt,UU,U1];show(trivial,λo=>q<|.inl o,λo=>q<|.inr o)
   . show Ty.mpr λy v=>?_;show Vt λq=>?_;rw[Wp]at q;obtain⟨i,I,J⟩:=UP v;have O:=R.ok y v;have l:=WU O R.F;have N:1<=h*w:=by have:=R.F.h0;have:=R.F.w0;show Int.mul_pos #[4] #[4]
     have p:∀ x∈y.cs,0<=x/\x<h*w:=λx j=>by have:=l.2 x j;lia
     have K:∃ z,z∈y.cs:=by
      cases B:allK y.k with
      | true=>rw[(O.cl.all B).2];show(0,mem_rngL.mpr (by lia,by lia))
      | false=>
       obtain⟨H,_,_,_,L⟩:=O.cl.told B;rw[L]
       cases E:y.ns with
       | nil=>show absurd E H
       | cons x r=>show((x:Int),Tz.mpr (x,by rw[E] at*;show TR,rfl))
     obtain⟨z,s⟩:=K;have b:=p z s;have f:=a _ (aL (show z.toNat<es.length by lia));have A:Td[((i:Nat):Int).toNat]? =some y:=by rw[Ui,To I,J]
     show Hy (t:=.ways) (r:=i) (z:=z) R X a e b.1 b.2 ?_;unfold alwA formB hitB;rw[TX #[4],TX #[1],A];simp only[Tx,Tt];show(((b.1,b.2),(f.1,f.2),rfl,s),?_);change dg h w Td (es.map<|mbI g) .ways i z (es.getD z.toNat 0) []=true;unfold dg;rw[A];show GE G C a p q
end
def IsLL.snoc40{l a:Addr}{as:List Addr}(x:IsLL H l as Ti)(f:l∉as)(e:a≠l)(h:H a=↥(xs.map V.int)):IsLL (upd H l<|.lst<|as.map V.ref++[V.ref a]) l (as++[a]) (Ti++[xs]):=by
 have c:=x.len;show(by rw[ah,UJ];rfl,by rw[TJ,TJ,c];rfl,λj b i h1 h2=>?_);by_cases d:j<as.length
 . rw[Ub d]at h1;rw[Ub #[4]]at h2;have g:b≠l:=λz=>f<|z ▸ Tv h1;rw[ak g];show x.at_ j b i h1 h2
 . rw[Uc #[4]]at h1;rw[Uc #[4]]at h2;have:j-as.length=0:=by have:=(Tr.mp h1).1;simp at this;lia
   rw[this]at h1;rw[← c,this]at h2;cases h1;cases h2;rw[ak e];show h
def  supL(a:∅)(z s:Int):∅:=a.set z.toNat (1*2^(s-1).toNat)
section
variable{α:Type}(lf:∅->α->Bool)(zf sf:α->Int)
def  goB:∅->List α->Bool
 | now,[]=>decide (0∈now)
 | now,x::xs=>if 0∈now then true else if stB (now.getD (zf x).toNat 0) (sf x)=true then lf now x&&goB (stL now (zf x)<|sf x) xs else goB now xs
end
def  TL:Nat->Type
 | 0=>Tho
 | n+1=>Tho ⊕ (Int × Int × List (TL n))
def  zT:(n:Nat)->TL n->Int
 | 0,(th:Tho)=>th.z
 | _+1,(.inl th:Tho ⊕ _)=>th.z
 | _+1,(.inr p:Tho ⊕ _)=>p.1
def  sT:(n:Nat)->TL n->Int
 | 0,(th:Tho)=>th.s
 | _+1,(.inl th:Tho ⊕ _)=>th.s
 | _+1,(.inr p:Tho ⊕ _)=>p.2.1
def  lfP (h w g:Int) (Td:List RR) (cl m:∅) (th:Tho):Bool:=alwA h w g Td cl m th.t th.r th.z th.s th.ms
def  lfT (h w g:Int) (Td:List RR) (cl:∅):(n:Nat)->∅->TL n->Bool
 | 0,m,(th:Tho)=>lfP h w g Td cl m th
 | _+1,m,(.inl th:Tho ⊕ _)=>lfP h w g Td cl m th
 | n+1,m,(.inr p:Tho ⊕ _)=>!p.2.2.isEmpty&&goB (lfT h w g Td cl n) (zT n) (sT n) (supL m p.1 p.2.1) p.2.2
structure og(h w g z s:Int):Prop where
 z0:0<=z
 z1:z<h*w
 s0:1<=s
 s1:s<=g
def  WfT(h w g:Int):(n:Nat)->TL n->Prop
 | 0,(th:Tho)=>og h w g th.z th.s
 | _+1,(.inl th:Tho ⊕ _)=>og h w g th.z th.s
 | n+1,(.inr p:Tho ⊕ _)=>og h w g p.1 p.2.1/\∀ y∈p.2.2,WfT h w g n y
variable{h w g:Int}
def WfT.on:∀{n:Nat} {x:TL n},WfT h w g n x->og h w g (zT n x) (sT n x)
 | 0,(_:Tho),o=>o
 | _+1,(.inl _:Tho ⊕ _),o=>o
 | _+1,(.inr _:Tho ⊕ _),o=>o.1
variable{m:∅}
def zero_at44:0∈m↔∃ i,i<m.length/\m.getD i 0=0:=by
 constructor
 . intro h;obtain⟨i,a,e⟩:=UP h;show(i,a,by rw[List.getD,To a,e];rfl)
 . rintro⟨i,a,e⟩;have:=T0 a;rw[List.getD,To a]at e;show e ▸ this
def Ko{m s:Int}(m0:0<=m)(a:m<64)(s0:1<=s)(b:s<=6):stB (woI m s) s=false:=by
 have t:((List.range 64).all λm=>(List.range 6).all λs=>!stB (woI (m:Int)<|1+(s:Int)) (1+(s:Int)))=true:=by decide+kernel
 have:=Ty.mp (Ty.mp t m.toNat<|TC.mpr #[4]) (s-1).toNat<|TC.mpr #[4];rw[show((m.toNat:Nat):Int)=m by lia,show 1+(((s-1).toNat:Nat):Int)=s by lia]at this
 simpa using this
variable{z:Int}
def Kp{ms:∅}{s:Int}{k:Nat}(a:ms.length<=k):(stL ms z s).getD k 0=ms.getD k 0:=by
 rw[List.getD,TV (by rw[md];show a),List.getD,TV a]
def Ml{s:Int}(s0:1<=s)(a:s<=6):(0<=(1:Int)*2^(s-1).toNat/\(1:Int)*2^(s-1).toNat<64)/\stB ((1:Int)*2^(s-1).toNat) s=true:=by
 have e:s=1\/s=2\/s=3\/s=4\/s=5\/s=6:=by lia
 rcases e with rfl | rfl | rfl | rfl | rfl | rfl <;> decide
def mh{s:Int}:(supL m z s).length=m.length:=by unfold supL;rw[XD]
def rO{s:Int}{k:Nat}:(supL m z s).getD k 0=if z.toNat=k/\k<m.length then 1*2^(s-1).toNat else m.getD k 0:=by
 unfold supL;rw[List.getD,W7,List.getD];by_cases e:z.toNat=k
 . subst e;rw[TZ rfl];by_cases l:z.toNat<m.length
   . rw[TZ l,TZ (rfl,l)];rfl
   . rw[TX l,TX<|λh=>l h.2,TV #[4]]
 . rw[TX e,TX λh=>e h.1]
section
variable{c:XZ}{h w g:Int}{Td:List RR}{cl m fl:∅}
def  NoA(h w g:Int)(Td:List RR)(cl m:∅):Prop:=∀ f,metB h w g Td cl f=true->∃ k,k<f.length/\stB (m.getD k 0) (f.getD k 0)=false
def NoA.less{m':∅}(X:NoA h w g Td cl m)(L:gc m m'):NoA h w g Td cl m':=λf a=>by
 obtain⟨k,b,e⟩:=X f a;show(k,b,?_)
 cases q:stB (m'.getD k 0) (f.getD k 0) with
 | false=>rfl
 | true=>rw[(L k).st _ q]at e;cases e
def Fg{x y:Int}(f:1<=g)(d:g<=6)(a:0<=x)(j:x<2^g.toNat)(e:sgL x=[y]):1<=y/\y<=g/\mbI g y=x:=by
 have k:=bT f d;have b:=jy f d a j (show y∈sgL x by rw[e];show .head _);show(b.1,b.2,?_);have c:=zY (g:=g) (x:=y) f d #[4] b.2;have e1:=wn (g:=g) b.1 #[4]
 have i:∀ s,stB (mbI g y) s=stB x s:=λs=>by
  rw[Up,← bg c.1.1 s,← bg a s,e,e1]
 have l:=c.1.2;show oV (c.1.1,by lia,a,by lia,λs h=>by rw[← i];show h) (a,by lia,c.1.1,by lia,λs h=>by rw[i];show h)
def LI(R:bY c h w g Td)(u:CluesOk h w g cl)(X:MkP g (h*w).toNat m)(p:0∉m)(e:ffF h w g Td cl m allT=[])(i:∀ x∈m,∃ y,sgL x=[y]):metB h w g Td cl (m.map sbI)=true:=by
 have s:=R.F.g0;have o:=R.F.g1
 have f:∀ x∈m,1<=sbI x/\sbI x<=g/\mbI g (sbI x)=x:=λx a=>by
  obtain⟨y,k⟩:=i x a;have b:=X.mm x a;have r:sbI x=y:=by unfold sbI;rw[k];rfl
  rw[r];show Fg s o b.1 b.2 k
 have z:(m.map sbI).map (mbI g)=m:=by
  rw[Uq];show(Vd λx a=>(f x a).2.2).trans (W0 _)
 have d:∀ x∈m.map sbI,1<=x/\x<=g:=λx a=>by
  obtain⟨y,l,rfl⟩:=Tz.mp a;show((f y l).1,(f y l).2.1)
 have v:En64 h w g (m.map sbI):=(by rw[Tn];show X.len,λx a=>by have:=d x a;lia);have j:=OZ R v u d;have t:ThR h w g Td cl allT ((m.map sbI).map<|mbI g) [] m:=by rw[z];show .stop (.inr e)
 have e2:=(Kl t).2
 have n:wrB h w g Td cl allT (m.map sbI)=false:=by
  unfold wrB lfM;rw[← e2];show Tq p
 rw[n]at j
 cases q:metB h w g Td cl (m.map sbI) with
 | true=>rfl
 | false=>rw[q]at j;cases j
def O0(R:bY c h w g Td)(C:CluesOk h w g cl)(X:MkP g (h*w).toNat m)(v:0∉m)(e:ffF h w g Td cl m allT=[])(B:NoA h w g Td cl m):∃ x∈m,2<=(sgL x).length:=by
 have z:=R.F.g0;have t:=R.F.g1;show Vt λq=>?_
 have f:∀ x∈m,∃ y,sgL x=[y]:=λx d=>by
  have b:=X.mm x d;have l:¬ 2<=(sgL x).length:=λl=>q (x,d,l)
  cases u:sgL x with
  | nil=>
   have:x=0:=oV (b.1,by have:=bT z t;lia,by decide,by decide,λs j=>by
    have:=(bg b.1 s).mpr j;rw[u]at this;cases this) (by decide,by decide,b.1,by have:=bT z t;lia,λs j=>by rw[pM]at j;cases j)
   show absurd (this ▸ d) v
  | cons a r=>
   cases r with
   | nil=>show(a,rfl)
   | cons b r=>rw[u]at l;simp at l
 obtain⟨k,i,n⟩:=B _<|LI R C X v e f;rw[Tn]at i;have d:=aL (ms:=m) i;obtain⟨y,o⟩:=f _ d;have b:=X.mm _ d
 have A:(m.map sbI).getD k 0=y:=by
  rw[List.getD,Tw,To i];rw[List.getD,To i]at o;have p:sgL m[k]=[y]:=o;change sbI m[k]=y;unfold sbI;rw[p];rfl
 rw[A]at n;have:=(bg b.1 y).mp (by rw[o];show .head _);rw[this]at n;cases n
end
def dN(m:Int)(ms:∅):prodW (m::ms)=(sgL m).length*prodW ms:=by
 have q:∀(ms:∅) (a:Nat),ms.foldl (λp m=>p*(sgL m).length) a=a*ms.foldl (λp m=>p*(sgL m).length) 1:=by
  intro ms
  induction ms with
  | nil=>intro a;simp
  | cons x xs b=>intro a;rw[Ul,Ul,b,b<|1*_];simp[Xg]
 unfold prodW;rw[Ul,q,Nat.one_mul]
def z7{x:Int}(e:(sgL x).length=1):∀(ms:∅) (k:Nat),k<ms.length->(sgL<|ms.getD k 0).length*prodW (ms.set k x)=prodW ms
 | [],k,h=>by simp at h
 | m::ms,0,_=>by
  change(sgL m).length*prodW (x::ms)=_;rw[dN,dN,e,Nat.one_mul]
 | m::ms,k+1,h=>by
  change(sgL<|ms.getD k 0).length*prodW (m::ms.set k x)=_;rw[dN,dN,← z7 e ms k (by simpa using h),← Xg,XX (sgL<|ms.getD k 0).length,Xg]
def z8:∀(ms:∅),(∀ m∈ms,1<=(sgL m).length)->1<=prodW ms
 | [],_=>TQ _
 | m::ms,h=>by
  rw[dN];show Vg (h m<|.head _) (z8 ms λx a=>h x<|.tail _ a)
def m3:∀(ms ns:∅),ms.length=ns.length->(∀ k,(sgL<|ms.getD k 0).length<=(sgL<|ns.getD k 0).length)->prodW ms<=prodW ns
 | [],[],_,_=>TQ _
 | [],_::_,l,_=>by simp at l
 | _::_,[],l,_=>by simp at l
 | m::ms,n::ns,l,h=>by
  rw[dN,dN];show Vg (h 0) (m3 ms ns (by simpa using l) λk=>h<|k+1)
def Aa:∀(ms:∅),(∀ m∈ms,1<=(sgL m).length)->(∃ x∈ms,2<=(sgL x).length)->2<=prodW ms
 | [],_,h=>by obtain⟨_,h,_⟩:=h;cases h
 | m::ms,a,⟨x,c,h2⟩=>by
  rw[dN];rcases TN.mp c with rfl | c
  . show TU (show 2<=2*1 by decide) (Vg h2<|z8 ms λy b=>a y<|.tail _ b)
  . show TU (show 2<=1*2 by decide) (Vg (a m<|.head _)<|Aa ms (λy b=>a y<|.tail _ b) (x,c,h2))
def wp:∀{xs ys:∅},xs.Nodup->(∀ x∈xs,x∈ys)->xs.length<=ys.length
 | [],_,_,_=>UK _
 | x::xs,ys,nd,s=>by
  have b:=s x<|.head _;have c:=UB.mp nd
  have q:=wp (xs:=xs) (ys:=ys.erase x) c.2 λy a=>by
   have d:y≠x:=λe=>c.1<|e ▸ a;show(List.mem_erase_of_ne d).mpr (s y<|.tail _ a)
  have l:=Xe b;have p:=Wg b;rw[T8];lia
def  yJ{a b:Int}(S:Sub30 a b):(sgL a).length<=(sgL b).length:=
 wp (jw a) λx c=>(bg S.b0 x).mpr (S.st x<|(bg S.a0 x).mp c)
abbrev Ca9(Z:Z5)(k:Nat)(x:Str)(a:List Str)(sp:Sp):Prop:=Cal Z.P Z.w Z.K Z.mg Z.base k x a sp
abbrev supS:Str:=tx s!"suppose"
def  TrT(F:Addr->Prop)(H:Hp):(n:Nat)->Addr->TL n->Prop
 | 0,T,(th:Tho)=>∃ M,IsTh H T M th.t th.r th.z th.s th.ms/\F M
 | _+1,T,(.inl th:Tho ⊕ _)=>∃ M,IsTh H T M th.t th.r th.z th.s th.ms/\F M
 | n+1,T,(.inr p:Tho ⊕ _)=>∃(B:Addr) (bs:List Addr),H T=some (.tup [.str supS,.int 0,.int p.1,.int p.2.1,.ref B])/\H B=↥(bs.map V.ref)/\F B/\bs.length=p.2.2.length/\p.2.2.length<=200/\∀(i:Nat) b y,bs[i]? =some b->p.2.2[i]? =some y->TrT F H n b y
section
variable{F F':Addr->Prop}{H H':Hp}
def TrT.keep(k:∀ b xs,F b->H b=↥xs->H' b=↥xs)(a:∀ b xs,H b=some (.tup xs)->H' b=some (.tup xs)):∀{n:Nat} {T:Addr} {x:TL n},TrT F H n T x->TrT F H' n T x
 | 0,_,(_:Tho),⟨M,Y,f⟩=>(M,(a _ _ Y.T,k _ _ f Y.M,Y.n),f)
 | _+1,_,(.inl _:Tho ⊕ _),⟨M,Y,f⟩=>(M,(a _ _ Y.T,k _ _ f Y.M,Y.n),f)
 | _+1,_,(.inr _:Tho ⊕ _),⟨B,bs,e1,e2,f,l,l2,tr⟩=>(B,bs,a _ _ e1,k _ _ f e2,f,l,l2,λi b y h1 h2=>TrT.keep k a<|tr i b y h1 h2)
def  TrT.same(s:Same H H'){n:Nat}{T:Addr}{x:TL n}(t:TrT F H n T x):TrT F H' n T x:=t.keep (λ_ _ _ e=>s _ _ e) λ_ _ e=>s _ _ e
def TrT.weak(k:∀ b,F b->F' b):∀{n:Nat} {T:Addr} {x:TL n},TrT F H n T x->TrT F' H n T x
 | 0,_,(_:Tho),⟨M,Y,f⟩=>(M,Y,k _ f)
 | _+1,_,(.inl _:Tho ⊕ _),⟨M,Y,f⟩=>(M,Y,k _ f)
 | _+1,_,(.inr _:Tho ⊕ _),⟨B,bs,e1,e2,f,l,l2,tr⟩=>(B,bs,e1,e2,k _ f,l,l2,λi b y h1 h2=>TrT.weak k<|tr i b y h1 h2)
def  TrT.put{n:Nat}{T A:Addr}{x:TL n}{xs ys:List V}(t:TrT F H n T x)(e:H A=↥xs)(f:¬ F A):TrT F (upd H A<|.lst ys) n T x:=
 t.keep (λb a c q=>by rw[ak λ(i:b=A)=>f<|i ▸ c];show q) λb a q=>by
  rw[ak λ(i:b=A)=>?_];show q;rw[i,e]at q;cases q
def TrT.parts:∀{n:Nat} {T:Addr} {x:TL n},TrT F H n T x->∃(a:Str) (r:Int) (M:Addr),H T=some (.tup [.str a,.int r,.int<|zT n x,.int<|sT n x,.ref M])
 | 0,_,(_:Tho),⟨M,Y,_⟩=>(_,_,M,Y.T)
 | _+1,_,(.inl _:Tho ⊕ _),⟨M,Y,_⟩=>(_,_,M,Y.T)
 | _+1,_,(.inr _:Tho ⊕ _),⟨B,_,e1,_⟩=>(_,_,B,e1)
end
def  dT:(n:Nat)->TL n->PyData
 | 0,(th:Tho)=>dBk th
 | _+1,(.inl th:Tho ⊕ _)=>dBk th
 | n+1,(.inr p:Tho ⊕ _)=>.tuple [.str supS,.int 0,.int p.1,.int p.2.1,.list<|p.2.2.map<|dT n]
def dvT{K:Frag}{F:Addr->Prop}{H:Hp}:∀{n:Nat} {T:Addr} {x:TL n},TrT F H n T x->DV K H (.ref T) (dT n x)
 | 0,_,(_:Tho),⟨_,Y,_⟩=>Iv Y
 | _+1,_,(.inl _:Tho ⊕ _),⟨_,Y,_⟩=>Iv Y
 | n+1,_,(.inr p:Tho ⊕ _),⟨B,bs,e1,e2,_,l,_,tr⟩=>by
  show .tup (XR e1)<|.cons (.str _)<|.cons (.int _)<|.cons (.int _)<|.cons (.int _)<|.cons (.lst (TW e2) ?_) .nil;show Xu (by rw[Tn,Tn,l]) λi y d h1 h2=>?_;obtain⟨b,c,rfl⟩:=aY h1;rw[Tw]at h2;obtain⟨z,a,rfl⟩:=UL.mp h2;show dvT (tr i b z c a)
def layT:∀{n:Nat} {x:TL n},PyData.canLay0 (dT n x)=true/\(dT n x).depth<=2+2*n
 | 0,(th:Tho)=>by
  have t:=wl th.t th.r th.z th.s th.ms;show(t.1,t.2)
 | n+1,(.inl th:Tho ⊕ _)=>by
  have t:=wl th.t th.r th.z th.s th.ms;show(t.1,?_);have:=t.2;change(dBk th).depth<=_;show TU this #[4]
 | n+1,(.inr p:Tho ⊕ _)=>by
  have h1:PyData.canLayAll0 (p.2.2.map<|dT n)=true:=lV λd a=>by obtain⟨x,_,rfl⟩:=Tz.mp a;show layT.1
  have h2:PyData.depthAll (p.2.2.map<|dT n)<=2+2*n:=kh λd a=>by obtain⟨x,_,rfl⟩:=Tz.mp a;show layT.2
  change PyData.canLay0 (.tuple [.str supS,.int 0,.int p.1,.int p.2.1,.list<|p.2.2.map<|dT n])=true/\(PyData.tuple [.str supS,.int 0,.int p.1,.int p.2.1,.list<|p.2.2.map<|dT n]).depth<=2+2*(n+1);show(?_,?_)
  . have b:PyData.strOk supS=true:=by decide+kernel
    simp[PyData.canLay0,PyData.canLayAll0,h1,b]
  . simp[PyData.depth,PyData.depthAll];lia
variable{F:Addr->Prop}{n:Nat}
def Np{E:Addr}{bs:List Addr}{bk:List (TL n)}(j:n<=5)(h:H B=↥(bs.map V.ref))(l:bs.length=bk.length)(c:∀(i:Nat) b y,bs[i]? =some b->bk[i]? =some y->TrT F H n b y)(e:H E=some (.lst []))(q:Q (.bl<|!bk.isEmpty) H):cNe K (.ref B) (.ref E) H Q:=by
 change rNeD K (.ref B) (.ref E) H Q;show(.list<|bk.map<|dT n,.list [],.lst (TW h) (Xu (by rw[Tn,Tn,l]) λi y d h1 h2=>?_),.lst (TW e) .nil,?_,by decide,?_)
 . obtain⟨b,f,rfl⟩:=aY h1;rw[Tw]at h2;obtain⟨z,g,rfl⟩:=UL.mp h2;show dvT (c i b z f g)
 . have h1:PyData.canLayAll0 (bk.map<|dT n)=true:=lV λd a=>by obtain⟨x,_,rfl⟩:=Tz.mp a;show layT.1
   have h2:PyData.depthAll (bk.map<|dT n)<=2+2*n:=kh λd a=>by obtain⟨x,_,rfl⟩:=Tz.mp a;show layT.2
   simp[SeqAt.shaped,PyData.canLay0,h1,PyData.depth];lia
 . have e2:PyData.eqv (.list<|bk.map<|dT n) (.list [])=bk.isEmpty:=by cases bk <;> simp[PyData.eqv,PyData.eqvAll]
   rw[e2];show q
def iZ:d:=#[3,∃ T M a r z s,vs=[.ref T]/\H T=some (.tup [.str a,.int r,.int z,.int s,.ref M])/\Q (.bl true) H]
def mj:a:=#[":iJrYa0aeZ~Qcdsbrza0cef#5 "]
variable{E:XK}{vs:List V}
def By:R "thought" iZ mj K:=by
 obtain⟨T,M,a,r,z,s,rfl,X,q⟩:=h;exists mj;show zn X ?_;symm;rw[o7 X];show q
def bq:d:=#[3,∃ T M a r z s,vs=[.ref T]/\H T=some (.tup [.str a,.int r,.int z,.int s,.ref M])/\Q (.bl<|decide<|a=supS) H]
def jf:a:=#[":iJ,'Bba0cdsbdk0ef#0 evw`0",s!"suppose"]
def ww:R "thought" bq jf K:=by
 obtain⟨T,M,a,r,z,s,rfl,X,q⟩:=h;exists jf;show(T,M,a,r,z,s,rfl,X,?_);exists ixT X (v:=V.str a) rfl ?_;symm;show q
def cN:f:=#[3,∃ P L G T M h w g Td cl a r z s,vs=[.ref P,.ref T]/\IsPz H c d P L G h w g Td cl/\H T=some (.tup [.str a,.int r,.int z,.int s,.ref M])/\og h w g z s/\Q (.bl true) H]
def gF:c:=#[":glBmU~x~ybjm0ch#2 iJ,'Bba1cJ,'qba2adk1ef#2 c,~?ba2adk1ef#3 c"]
variable{c:XZ}{d:X8}
def rP:R "puzzle thought floor" cN gF K c d:=by
 obtain⟨P,L,G,T,M,h,w,g,Td,cl,a,r,z,s,rfl,b,X,o,q⟩:=h;obtain⟨f,p,rs,h1,h2,h3⟩:=b.ex;exists gF;show methE (k:=.Puzzle) rfl b.ok h1 (by rfl) ?_;exists(P,L,G,h,w,g,Td,cl,rfl,b,λp e=>?_);exists(T,M,a,r,z,s,rfl,X,?_);exists ixT X (v:=V.int z) rfl ?_;show(p,h,w,g,z,rfl,e,b.R.F,?_);exists gE (by rw[Tp o.z0,Tp o.z1];rfl) ?_;exists ixT X (v:=V.int s) rfl ?_;show(p,h,w,g,s,rfl,e,?_);rw[Tp o.s0,Tp o.s1];show q
def a9:f:=#[3,∃(n:Nat) (P L G T B:Addr) (f:List Addr) (h w g:Int) (Td:List RR) (cl:∅) (a:Str) (z s:Int) (e:List (TL n)) (F:Addr->Prop),vs=[.ref P,.ref T]/\n<=5/\IsPz H c d P L G h w g Td cl/\H T=some (.tup [.str a,.int 0,.int z,.int s,.ref B])/\og h w g z s/\H B=↥(f.map V.ref)/\f.length=e.length/\(∀(i:Nat) b y,f[i]? =some b->e[i]? =some y->TrT F H n b y)/\∀ H',Same H H'->Q (.bl<|!e.isEmpty) H']
def fP:c:=#[":gnIyq,~Ebadk1ef#1 cIpdHbdk1ef#1 ef#0 yq,'abjma0a1cieLFoiJrYadk1ef#4 aeZKcdHbdk1ef#4 tc"]
def pP:R "puzzle thought" a9 fP K c d:=by
 obtain⟨n,P,L,G,T,B,p,h,w,g,Td,cl,a,z,s,r,F,rfl,k,m,X,o,f,bl,j,q⟩:=h;ac_nf;unfold fP;rw[aC,aA];exists ixT X (v:=V.int 0) rfl ?_;show(0,rfl,(true,rfl,iteF ?_));exists ixT X (v:=V.int 0) rfl ?_;exists(P,L,G,T,B,h,w,g,Td,cl,a,0,z,s,rfl,m,X,o,?_);show(true,rfl,?_);exists ixT X (v:=V.ref B) rfl ?_;show rH f ?_;exists ixT X (v:=V.ref B) rfl ?_;exists(ba #[1],λe l=>?_);have s1:Same H (upd H e<|.lst []):=(Tu H).laid l;show Np k (s1 _ _ f) bl (λi b y h1 h2=>(j i b y h1 h2).same s1) ah ?_;show q _ s1
def bC:f:=#[3,∃(P L G N T M:Addr) (h w g:Int) (Td:List RR) (cl b:∅) (a:Str) (r z s:Int),vs=[.ref P,.ref N,.ref T]/\IsPz H c d P L G h w g Td cl/\H N=↥(b.map V.int)/\b.length=(h*w).toNat/\H T=some (.tup [.str a,.int r,.int z,.int s,.ref M])/\og h w g z s/\Q (.bl<|!stB (b.getD z.toNat 0) s) H]
def iA:c:=#[":iJ,'abjma0a2c'k,~Jbadk1dk2ef#2 adk2ef#3 c"]
def uo:R "puzzle masks thought" bC iA K c d:=by
 obtain⟨P,L,G,N,T,M,h,w,g,Td,cl,e,a,r,z,s,rfl,i,b,j,X,o,q⟩:=h;have f:=o.z0;have k:=o.z1;exists iA;show(P,L,G,T,M,h,w,g,Td,cl,a,r,z,s,rfl,i,X,o,?_);exists ixT X (v:=V.int z) rfl ?_;exists ixI b f #[4] ?_;show ixT X (v:=V.int s) rfl ?_;show(_,s,rfl,?_);symm;show q
def bH:d:=#[3,∃ A ms z s,vs=[.ref A,.int z,.int s]/\H A=↥(ms.map V.int)/\ms.length<=900/\0<=z/\1<=s/\s<=6/\∀ l H',Same H H'->H l=none->H' l=↥((supL ms z s).map V.int)->Q (.ref l) H']
def rm:a:=#[":ix&---12 +ba0cVb#2 Ch#1 Ch#2 WDRpdsb13,~/ba4c2"]
def GF:R "masks cell sign" bH rm K:=by
 obtain⟨p,ms,z,s,rfl,d,j,t,s0,r,k⟩:=h;exists rm;show(p,rfl,(_,TW d),?_);show kH (xs:=ms.map V.int) (λ_=>true) (λi=>.int (if (i:Int)=z then 2^(s-1).toNat else ms.getD i 0)) (by rw[Tn];show j) #[1] (TW d) ?_ ?_ ?_
 . intro i x H1 R c s1 k1;show k1 _ (Tu _)
 . intro i x H1 o c u s1 k1;obtain⟨m,g,rfl⟩:=aI c;have q:=k1 _<|Tu H1;rw[cC g]at q;change tIf _ _ _ [none,⇑i,⇑m,⇑z,⇑s] H1 o;symm;by_cases b:(i:Int)=z
   . rw[TZ b]at q;rw[Tp b];show iteT (s,rfl,s0,by lia,q)
   . rw[TX b]at q;rw[Tq b];show iteF q
 . intro l H1 n s1 f;show k l H1 s1 n ?_;rw[f,bn,Tn]
   congr 2
   show U0 λi=>?_;rw[Tw,Tw];unfold supL;rw[W7];rcases Vm i ms.length with a | a
   . rw[UE a];by_cases e:z.toNat=i
     . rw[TZ e,TZ #[4],XL];change some (V.int (if (i:Int)=z then 2^(s-1).toNat else ms.getD i 0))=_;rw[TZ #[4]];rfl
     . rw[TX e];change some (V.int (if (i:Int)=z then 2^(s-1).toNat else ms.getD i 0))=_;rw[TX #[4],List.getD,To a];rfl
   . rw[TV (by rw[UG];show a)];by_cases e:z.toNat=i
     . rw[TZ e,TX #[4]];rfl
     . rw[TX e,TV a];rfl
def  WfS(h w g:Int):(n:Nat)->TL n->Prop
 | 0,(_:Tho)=>True
 | _+1,(.inl _:Tho ⊕ _)=>True
 | n+1,(.inr p:Tho ⊕ _)=>og h w g p.1 p.2.1/\∀ y∈p.2.2,WfT h w g n y
def WfT.s:∀{n:Nat} {x:TL n},WfT h w g n x->WfS h w g n x
 | 0,(_:Tho),_=>trivial
 | _+1,(.inl _:Tho ⊕ _),_=>trivial
 | _+1,(.inr _:Tho ⊕ _),o=>o
structure Fh(H:Hp)(c:XZ)(d:X8)(P L G A:Addr)(h w g:Int)(Td:List RR)(cl Tb:∅):Prop where
 P:IsPz H c d P L G h w g Td cl
 A:H A=↥(Tb.map V.int)
 n:Tb.length=(h*w).toNat
 mm:∀ m∈Tb,0<=m/\m<64
def  FiP(n:Nat)(Q:VK)(H:Hp)(b:Bool):Prop:=(b=true->∀ H',Same H H'->Q .non H')/\(b=false->∀(l:Addr) (xs:List V) (H':Hp),Same H H'->H l=none->H' l=↥xs->xs.length<=n->Q (.ref l) H')
def  spFI(n:Nat)(K:Frag)(c:XZ)(d:X8):Sp:=#[3,∃(P L G A T:Addr) (h w g:Int) (Td:List RR) (cl Tb:∅) (x:TL n) (F:Addr->Prop),vs=[.ref P,.ref A,.ref T]/\n<=5/\Fh H c d P L G A h w g Td cl Tb/\TrT F H n T x/\WfS h w g n x/\FiP n Q H (lfT h w g Td cl n Tb x)]
def mn:f:=spFI 0 K c d
def mq:f:=spFI 1 K c d
def mr:f:=spFI 2 K c d
def wx:c:=#[":gnyq;itcogl;h#3 gG+badk2ef#4 cVb#2 Ch#4 Ch#5 Wgnq;ieEonyq;gl;h#6 gnpd~d6eEidAta4c6ol;h#3 oiRq;eEtc"]
def mt:c:=#[":gnyq,~zba2ciRq,~Abjma0a1a2ceEtco}abjm"]
def BA:c:=#[":gnyq,~zba2ciRq,~Abjma0a1a2ceEtcognyq,~Gbjma0a2citcogl,?ba1adk2ef#2 adk2ef#3 ch#3 gG+badk2ef#4 cVb#2 Ch#4 Ch#5 Wgnq,Mba3cieEonyq,~Hbjma0a3a5cgl,}bbjma0a3a5ch#6 gnpd~d6eEidAta4c6ol,~eba3adk5ef#2 adk5ef#3 ch#3 oiRq,Mba3ceEtc"]
def BB:c:=#[":gnyq,~zba2ciRq,~Abjma0a1a2ceEtcognyq,~Gbjma0a2citcogl,?ba1adk2ef#2 adk2ef#3 ch#3 gG+badk2ef#4 cVb#2 Ch#4 Ch#5 Wgnq,Mba3cieEonyq,~Hbjma0a3a5cgl,}cbjma0a3a5ch#6 gnpd~d6eEidAta4c6ol,~eba3adk5ef#2 adk5ef#3 ch#3 oiRq,Mba3ceEtc"]
def  IB(sp:Sp)(K:Frag)(c:XZ)(d:X8):TS:=#[":gnq,Mba3cieEonyq,~Hbjma0a3a5cgl,'ba0a3a5ch#6 gnpd~d6eEidAta4c6ol,~eba3adk5ef#2 adk5ef#3 ch#3 o"]
def O1:a:=#[":iRq,Mba3ceEtc"]
def  rdFI(sp:Sp)(K:Frag)(c:XZ)(d:X8):TS:=#[":gnyq,~zba2ciRq,~Abjma0a1a2ceEtcognyq,~Gbjma0a2citcogl,?ba1adk2ef#2 adk2ef#3 ch#3 gG+badk2ef#4 cVb#2 Ch#4 Ch#5 W}d'bbjm}eb"]
def LJ(t:TK):decide (tx (tkC t)=supS)=false:=by cases t <;> decide
variable{Td:List RR}{cl:∅}
def Hz{P L G A T M:Addr}{Tb:∅}{th:Tho}{W:TS}(X:Fh H c d P L G A h w g Td cl Tb)(Y:IsTh H T M th.t th.r th.z th.s th.ms)(q:FiP n Q H (lfP h w g Td cl Tb th)):
  (tIfS (tNot<|tB<|tCall (bq K) [] E0<|tCons (tVar 2) tNil) (tRet<|tIf (tB<|tCall (cP K c d) [] E0<|tCons (tVar 0)<|tCons (tVar 1)<|tCons (tVar 2) tNil) (tC .non)<|tLst tNil) tNext) {nx:=W<|eD9 Q,rt:=Q} [↑P,↑A,↑T,none,none,none,none] H:=by
 rw[aA];exists(T,M,_,_,_,_,rfl,Y.T,?_);rw[LJ];exists(P,L,G,A,T,M,h,w,g,Td,cl,Tb,th.t,th.r,th.z,th.s,th.ms,rfl,(X.P,Y,X.A,X.n),X.mm,λH1 s1=>?_);unfold lfP at q
 cases b:alwA h w g Td cl Tb th.t th.r th.z th.s th.ms with
 | true=>show(true,rfl,iteT<|q.1 b H1 s1)
 | false=>
  show(false,rfl,iteF ?_);exists(ba #[1],λl a=>q.2 b l [] _ (s1.trans<|(Tu H1).laid a) (s1.free a) ah<|UK _)
def BC:R "puzzle masks thought now place inner fault" mn mt K c d:=by
 obtain⟨P,L,G,A,T,h,w,g,Td,cl,Tb,x,F,rfl,_,X,Y,_,q⟩:=h;obtain⟨M,Y,_⟩:=(show ∃ M,IsTh H T M (Tho.t x) (Tho.r x) (Tho.z x) (Tho.s x) (Tho.ms x)/\F M from Y);ac_nf;unfold mt;rw[aC];show Hz (th:=x) X Y q
variable{now:∅}
def  yK{α:Type}{c:∅->α->Bool}{b a:α->Int}{x:α}{xs:List α}:goB c b a now (x::xs)=if 0∈now then true else if stB (now.getD (b x).toNat 0) (a x)=true then c now x&&goB c b a (stL now (b x)<|a x) xs else goB c b a now xs:=rfl
def  Fi{s:Int}(c:∀ m∈now,0<=m/\m<64)(s0:1<=s)(f:s<=6):∀ m∈stL now z s,0<=m/\m<64:=λx d=>by
 obtain⟨i,a,e⟩:=UP d;rw[md]at a;have e2:(stL now z s).getD i 0=x:=by rw[List.getD,To (by rw[md];show a),e];rfl
 have b:=c _<|aL (ms:=now) (k:=i) a;rw[← e2,lE a]
 split
 . have:=(jx b.1 b.2 s0 f).1;omega
 . show b
section
variable{n:Nat}{K:Frag}{c:XZ}{d:X8}{H:Hp}{Q:VK}{P L G A T:Addr}{h w g:Int}{Td:List RR}{cl:∅}
def Nq {D:Ends} {N b:Addr} {now:∅} {y:TL n} {rest:List (TL n)} {F:Addr->Prop} {i:Nat} {v6:Option V} (U:n<=4) (X:Fh H c d P L G N h w g Td cl now) (Y:TrT F H n b y) (W:WfT h w g n y) (Q:i<=200)
  (k0:0∈now->∀ H',Same H H'->D.rt .non H')
  (k1:goB (lfT h w g Td cl n) (zT n) (sT n) now (y::rest)=goB (lfT h w g Td cl n) (zT n) (sT n) now rest->∀ H',Same H H'->D.nx [↑P,↑A,↑T,↑N,⇑(i:Int),↑b,v6] H')
  (k2:goB (lfT h w g Td cl n) (zT n) (sT n) now (y::rest)=goB (lfT h w g Td cl n) (zT n) (sT n) (stL now (zT n y)<|sT n y) rest->∀(f:Addr) (H':Hp) (v6:Option V),Same H H'->H' f=↥((stL now (zT n y)<|sT n y).map V.int)->D.nx [↑P,↑A,↑T,↑f,⇑(i:Int),↑b,v6] H')
  (k3:goB (lfT h w g Td cl n) (zT n) (sT n) now (y::rest)=false->∀(l:Addr) (xs:List V) (H':Hp),Same H H'->H l=none->H' l=↥xs->xs.length<=n+1->D.rt (.ref l) H'):
  IB (spFI n K c d) K c d D [↑P,↑A,↑T,↑N,⇑(i:Int),↑b,v6] H:=by
 have J:=X.P.R.F.g1;have E:=X.P.R.F.m;have O:=X.n;obtain⟨a,r,M,k⟩:=Y.parts;have o:=W.on;have s1:=o.s1;rw[yK]at k1 k2 k3;unfold IB;rw[aC,aA];exists(N,now,rfl,X.A,?_);by_cases h0:(0:Int)∈now
 . rw[Tp h0];exists k0 h0 H (Tu _)
 rw[Tq h0];rw[TX h0]at k1 k2 k3;symm;rw[aA];exists(P,L,G,N,b,M,h,w,g,Td,cl,now,a,r,zT n y,sT n y,rfl,X.P,X.A,X.n,k,o,?_)
 cases q:stB (now.getD (zT n y).toNat 0) (sT n y) with
 | false=>
  rw[q,TX TB]at k1;show(true,rfl,?_);exists k1 rfl H (Tu _)
 | true=>
  rw[q,TZ rfl]at k2 k3;show(false,rfl,?_);exists(P,L,G,N,b,h,w,g,Td,cl,now,y,F,rfl,by lia,X,Y,W.s,λp H1 s1=>?_,λp l xs H1 s1 S B xl=>?_)
  . rw[p,Uj]at k2;symm;rw[aA];exists ixT (s1 _ _ k) (v:=V.int (zT n y)) rfl ?_;exists ixT (s1 _ _ k) (v:=V.int (sT n y)) rfl ?_;show(N,now,zT n y,sT n y,rfl,s1 _ _ X.A,by lia,by lia,λf u j I e2=>?_);show k2 rfl f u _ (s1.trans j) e2
  . rw[p,Uk]at k3;symm;rw[aA];exists(lnR rfl,λZ C=>?_);obtain⟨u,x,j,z⟩:=bp (.lst [V.int (i:Int)]) C;rw[x];show rJ z (j _ _ B) (by change 1+_<=1000;lia) λR t=>?_;have e:=s1.trans j;show k3 rfl R ([V.int (i:Int)]++xs) _ (e.laid t) (e.free t) ah (by rw[TJ];change 1+_<=_;lia)
end
def Nr{P L G A T:Addr}{bs:List Addr}{s:Int}{Tb:∅}{bk:List (TL n)}(n5:n<=4)(X:Fh H c d P L G A h w g Td cl Tb)(D:H T=some (.tup [.str supS,.int 0,.int z,.int s,.ref B]))(S:H B=↥(bs.map V.ref))(bl:bs.length=bk.length)(ae:bk.length<=200)(tr:∀(i:Nat) b y,bs[i]? =some b->bk[i]? =some y->TrT F H n b y)(o:og h w g z s)(W:∀ y∈bk,WfT h w g n y)(q:FiP (n+1) Q H (!bk.isEmpty&&goB (lfT h w g Td cl n) (zT n) (sT n) (supL Tb z s) bk)):
  rdFI (spFI n K c d) K c d (eD9 Q) [↑P,↑A,↑T,none,none,none,none] H:=by
 have g6:=X.P.R.F.g1;have ag:=X.P.R.F.m;have xn:=X.n;have z0:=o.z0;have ab:=o.s1;unfold rdFI;generalize hB:IB (spFI n K c d) K c d=FB at*;rw[aC,aA];exists(T,B,supS,0,z,s,rfl,D,?_);rw[Tp rfl];symm;rw[aA];exists(n,P,L,G,T,B,bs,h,w,g,Td,cl,supS,z,s,bk,F,rfl,by lia,X.P,D,o,S,bl,tr,λH1 s1=>?_)
 cases he:bk.isEmpty with
 | true=>
  rw[he]at q;show(false,rfl,?_);exists(ba #[1],λl p=>q.2 rfl l [] _ (s1.laid p) (s1.free p) ah<|UK _)
 | false=>
  rw[he,WT,Uj]at q;show(true,rfl,?_);exists ixT (s1 _ _ D) (v:=V.int z) rfl ?_;exists ixT (s1 _ _ D) (v:=V.int s) rfl ?_;show(A,Tb,z,s,rfl,s1 _ _ X.A,by lia,z0,o.s0,by lia,λN H2 s2 hN eN=>?_);have k:=s1.trans s2;exists ixT (k _ _ D) (v:=V.ref B) rfl ?_;show(B,rfl,(_,TW<|k _ _ S),?_)
  have Y:∀ m∈supL Tb z s,0<=m/\m<64:=λx C=>by
   rcases V2 C with C | rfl
   . show X.mm x C
   . show(Ml o.s0 #[4]).1
  show Er (xs:=bs.map V.ref) (λi σ H'=>∃(N:Addr) (now:∅) (O v5 M:Option V),σ=[↑P,↑A,↑T,↑N,O,v5,M]/\Same H H'/\H' N=↥(now.map V.int)/\now.length=(h*w).toNat/\(∀ m∈now,0<=m/\m<64)/\goB (lfT h w g Td cl n) (zT n) (sT n) (supL Tb z s) bk=goB (lfT h w g Td cl n) (zT n) (sT n) now (bk.drop i))
   (N,_,none,none,none,rfl,k,eN,by rw[mh];show xn,Y,rfl) (λi σ H' _ ⟨_,_,_,_,_,_,s,_⟩=>TW<|s _ _ S) ?_ ?_
  . rintro i x U σ r C ⟨N,now,O,v5,M,rfl,t,E,I,J,f⟩ hU;obtain⟨b,hb,rfl⟩:=aY C;have hi:i<bs.length:=(Tr.mp hb).1;have hy:bk[i]? =some (bk[i]'#[4]):=To #[4];have ed:bk.drop i=(bk[i]'#[4])::bk.drop (i+1):=UV #[4];rw[ed]at f;generalize (bk[i]'#[4])=y at*;have Z:Same r (upd r U<|.tup [V.int (i:Int),V.ref b]):=(Tu r).laid hU;show uO ah rfl ?_;rw[yd];generalize upd r U (.tup [V.int (i:Int),V.ref b])=H4 at*;have a:=t.trans Z;subst hB;have Wy:=W y<|Tv hy;have oy:=Wy.on;have af:=oy.s1;show Nq (A:=A) (T:=T) (rest:=bk.drop (i+1)) n5 (X.P.same a,Z _ _ E,I,J) ((tr i b y hb hy).same a) Wy #[4] ?_ ?_ ?_ ?_
    . intro h0 u j;show q.1 ?_ u<|a.trans j;rw[f,yK,TZ h0]
    . intro e u j;show(N,now,_,_,_,rfl,a.trans j,(Z.trans j) _ _ E,I,J,f.trans e)
    . intro e N' u M j e5;show(N',_,_,_,_,rfl,a.trans j,e5,by rw[md];show I,Fi J oy.s0 #[4],f.trans e)
    . intro e l xs u j p el xl;show q.2 (f.trans e) l xs u (a.trans j) (a.free p) el xl
  . rintro σ r ⟨N,now,O,v5,M,rfl,t,E,I,J,f⟩;rw[Tn,bl,VI]at f;have f:goB (lfT h w g Td cl n) (zT n) (sT n) (supL Tb z s) bk=decide (0∈now):=f;rw[f]at q;dsimp only;unfold O1;exists(N,now,rfl,E,?_)
    cases h0:decide ((0:Int)∈now) with
    | true=>
     rw[h0]at q;show(true,rfl,iteT<|q.1 rfl r t)
    | false=>
     rw[h0]at q;show(false,rfl,iteF ?_);exists(ba #[1],λl p=>q.2 rfl l [] _ (t.laid p) (t.free p) ah<|UK _)
def rkFI(h:spFI (n+1) K c d vs H Q E):rdFI (spFI n K c d) K c d (eD9 Q) (start ["puzzle","masks","thought","now","place","inner","fault"] vs) H:=by
 obtain⟨P,L,G,A,T,h,w,g,Td,cl,Tb,x,F,rfl,k,X,Y,W,q⟩:=h;change rdFI (spFI n K c d) K c d _ [↑P,↑A,↑T,none,none,none,none] H
 match x,Y,W,q with
 | (.inl th:Tho ⊕ _),Y,W,q=>
  obtain⟨M,Y,_⟩:=Y;unfold rdFI;rw[aC];show Hz (th:=th) X Y q
 | (.inr p:Tho ⊕ _),Y,W,q=>
  obtain⟨B,j,b,f,i,bl,a,e⟩:=Y;show Nr #[4] X b f bl a e W.1 W.2 q
def BD:R "puzzle masks thought now place inner fault" mq BA K c d:=rkFI (n:=0) h
def BE:R "puzzle masks thought now place inner fault" mr BB K c d:=rkFI (n:=1) h
def  inT:(n:Nat)->Tho->TL n
 | 0,th=>(th:Tho)
 | n+1,th=>(Sum.inl th:Tho ⊕ (Int × Int × List (TL n)))
def  suT(n:Nat)(z s:Int)(xs:List (TL n)):TL (n+1):=(Sum.inr (z ,s,xs):Tho ⊕ (Int × Int × List (TL n)))
def Mm:∀{n:Nat} {th:Tho},zT n (inT n th)=th.z
 | 0,_=>rfl
 | _+1,_=>rfl
def Mn:∀{n:Nat} {th:Tho},sT n (inT n th)=th.s
 | 0,_=>rfl
 | _+1,_=>rfl
section
variable{h w g:Int}{Td:List RR}{cl:∅}
def O3:∀{n:Nat} {m:∅} {th:Tho},lfT h w g Td cl n m (inT n th)=lfP h w g Td cl m th
 | 0,_,_=>rfl
 | _+1,_,_=>rfl
def O4:∀{n:Nat} {th:Tho},og h w g th.z th.s->WfT h w g n (inT n th)
 | 0,_,o=>o
 | _+1,_,o=>o
def O5{F:Addr->Prop}{H:Hp}{T M:Addr}:∀{n:Nat} {th:Tho},IsTh H T M th.t th.r th.z th.s th.ms->F M->TrT F H n T (inT n th)
 | 0,_,y,f=>(M,y,f)
 | _+1,_,y,f=>(M,y,f)
def  WlkV (n:Nat) (h w g:Int) (Td:List RR) (cl:∅):∅->List (TL n)->∅->Prop
 | m,[],m'=>m=m'
 | m,x::xs,m'=>(0∉m/\WfT h w g n x/\stB (m.getD (zT n x).toNat 0) (sT n x)=true/\lfT h w g Td cl n m x=true)/\WlkV n h w g Td cl (stL m (zT n x)<|sT n x) xs m'
def WlkV.app{n:Nat}:∀{a b:List (TL n)} {m c m':∅},WlkV n h w g Td cl m a c->WlkV n h w g Td cl c b m'->WlkV n h w g Td cl m (a++b) m'
 | [],b,m,c,m',k,l=>by cases (show m=c from k);show l
 | x::a,b,m,c,m',k,l=>(k.1,WlkV.app k.2 l)
def rQ{n:Nat}{ks:List TK}:∀{Tj:List Tho} {m m':∅},Wlk h w g Td cl ks m Tj m'->WlkV n h w g Td cl m (Tj.map<|inT n) m'
 | [],_,_,k=>k
 | th::r,m,m',⟨⟨n0,_,z,s,st,al⟩,k⟩=>by
  have k2:=rQ (n:=n) k;show((n0,O4 (z.1,z.2,s.1,s.2),?_,?_),?_)
  . rw[Mm,Mn];show st
  . rw[O3];show al
  . rw[Mm,Mn];show k2
def WlkV.wf{n:Nat}:∀{a:List (TL n)} {m m':∅},WlkV n h w g Td cl m a m'->∀ y∈a,WfT h w g n y
 | [],_,_,_,y,b=>nomatch b
 | x::a,m,m',k,y,b=>by
  rcases TN.mp b with rfl | b
  . show k.1.2.1
  . show WlkV.wf k.2 y b
def Kr{n:Nat}:∀{xs:List (TL n)} {m m':∅},WlkV n h w g Td cl m xs m'->0∈m'->goB (lfT h w g Td cl n) (zT n) (sT n) m xs=true
 | [],m,m',k,z=>by cases (show m=m' from k);show Tp z
 | x::xs,m,m',⟨⟨n0,_,st,al⟩,k⟩,z=>by
  rw[yK,TX n0,TZ st,al,Uj];show Kr k z
def O6{n:Nat}{xs:List (TL n)}{m m':∅}(k:WlkV n h w g Td cl m xs m')(a:0∉m)(z:0∈m'):xs.isEmpty=false:=by
 cases xs with
 | nil=>cases (show m=m' from k);show absurd z a
 | cons x xs=>rfl
def Ks{n:Nat}{m m':∅}{z s:Int}{xs:List (TL n)}(k:WlkV n h w g Td cl (supL m z s) xs m')(a:0∉supL m z s)(h0:0∈m'):lfT h w g Td cl (n+1) m (suT n z s xs)=true:=by
 change(!xs.isEmpty&&goB (lfT h w g Td cl n) (zT n) (sT n) (supL m z s) xs)=true;rw[O6 k a h0,Kr k h0];rfl
def  Kt{m:∅}{z s:Int}(f:∀ j,j<m.length->(j:Int)≠z->m.getD j 0≠0)(s0:1<=s)(c:s<=6)(g:0<=z):0∉supL m z s:=λd=>by
 obtain⟨i,a,e⟩:=zero_at44.mp d;rw[mh]at a;rw[rO]at e
 split at e
 . have b:=(Ml s0 c).2;rw[e,pM]at b;cases b
 . rename_i q
   show f i a (λe2=>q (by omega,a)) e
def O7{a b:∅}{k:Nat}{s:Int}(l:a.length=b.length)(e:∀ j,j≠k->a.getD j 0=b.getD j 0):supL a (k:Int) s=supL b (k:Int) s:=by
 show Xn (by rw[mh,mh];show l) λi h1 h2=>?_;have p:=rO (m:=a) (z:=(k:Int)) (s:=s) (k:=i);have q:=rO (m:=b) (z:=(k:Int)) (s:=s) (k:=i);rw[List.getD,To h1]at p;rw[List.getD,To h2]at q;show(show(supL a (k:Int) s)[i]=_ from p).trans<|Eq.trans ?_ (show(supL b (k:Int) s)[i]=_ from q).symm;rw[l,Ui];by_cases c:k=i
 . rw[mh]at h2;rw[TZ (c,h2),TZ (c,h2)]
 . rw[TX λx=>c x.1,TX λx=>c x.1];show e i λx=>c x.symm
def Ab{n k:Nat}(F:FlOk h w g){now:∅}(D:0∉now)(u:k<now.length)(l:now.length=(h*w).toNat)(bk:Int->List (TL n)):
  ∀(ss:∅) (c:∅),ss.Nodup->MkP g (h*w).toNat c->(∀ s,s∈ss↔stB (c.getD k 0) s=true)->(∀ j,j≠k->c.getD j 0=now.getD j 0)->(∀ s∈ss,(1<=s/\s<=g)/\(∀ y∈bk s,WfT h w g n y)/\∃ m',WlkV n h w g Td cl (supL now (k:Int) s) (bk s) m'/\0∈m')->
   ∃ m',WlkV (n+1) h w g Td cl c (ss.map λs=>suT n (k:Int) s<|bk s) m'/\0∈m'
 | [],c,_,M,ms,_,_=>by
  show(c,rfl,?_);have f:k<c.length:=by rw[M.len,← l];show u
  have b:=M.mm _<|aL (ms:=c) f;have A:=bT F.g0 F.g1;have e:c.getD k 0=0:=oV (b.1,by lia,by decide,by decide,λs p=>absurd ((ms s).mpr p) (by simp)) (by decide,by decide,b.1,by lia,λs p=>by rw[pM]at p;cases p);show e ▸ aL (ms:=c) f
 | s::ss,c,nd,M,ms,ot,al=>by
  have E:=F.g0;have B:=F.g1;have S:=F.m;have A:=bT E B;have f:k<c.length:=by rw[M.len,← l];show u
  have b:=M.mm _<|aL (ms:=c) f;obtain⟨⟨s0,s1⟩,L,m',W,h0⟩:=al s<|.head _;have st:=(ms s).mp<|.head _;have o:=UB.mp nd
  have C:∀ j,j<c.length->(j:Int)≠(k:Int)->c.getD j 0≠0:=λj r T e=>by
   rw[ot j #[4]]at e;show D (e ▸ aL (ms:=now) (k:=j) (by rw[l,← M.len];show r))
  have J:0∉c:=λN=>by
   obtain⟨i,I,e⟩:=zero_at44.mp N;by_cases x:i=k
   . rw[x]at e;rw[e,pM]at st;cases st
   . show C i I #[4] e
  have R:=O7 (s:=s) (k:=k) (by rw[M.len,l]) ot;have P:lfT h w g Td cl (n+1) c (suT n (k:Int) s<|bk s)=true:=Ks (by rw[R];show W) (Kt C s0 #[4] #[4]) h0;have a:=jx (s:=s) b.1 #[4] s0 #[4];have H:=M.stL (z:=(k:Int)) E B s0 (show s<=6 by lia)
  obtain⟨K,O,Q⟩:=Ab F D u l bk ss (stL c (k:Int) s) o.2 H (λt=>by
   rw[lE f,TZ rfl];constructor
   . intro d;have q:=al t<|.tail _ d;rw[a.2.1 t q.1.1 #[4] (λe=>o.1<|e ▸ d)];show(ms t).mp (.tail _ d)
   . intro d;have G:=st6 a.1.1 (by have:=a.1.2;lia) d;by_cases e:t=s
     . rw[e,Ko b.1 #[4] s0 #[4]]at d;cases d
     . rw[a.2.1 t G.1 G.2 e]at d;rcases TN.mp ((ms t).mpr d) with e2 | h2
       . show absurd e2 e
       . show h2)
   (λj r=>by
    rcases Vm j c.length with v | v
    . rw[lE v,TX #[4]];show ot j r
    . rw[Kp v];show ot j r)
   λt d=>al t (.tail _ d)
  show(K,((J,((by lia,by rw[l]at u;lia,s0,s1),L),?_,P),O),Q);change stB (c.getD ((k:Int)).toNat 0) s=true;rw[Ui];show st
end
structure BokV(F:Addr->Prop)(H:Hp)(n:Nat)(h w g:Int)(B:Addr)(bs:List Addr)(bk:List (TL n)):Prop where
 top:H B=↥(bs.map V.ref)
 len:bs.length=bk.length
 tr:∀(i:Nat) b y,bs[i]? =some b->bk[i]? =some y->TrT F H n b y
 wf:∀ y∈bk,WfT h w g n y
def  BokV.same{H':Hp}{bs:List Addr}{bk:List (TL n)}(x:BokV F H n h w g B bs bk)(s:Same H H'):BokV F H' n h w g B bs bk:=(s _ _ x.top,x.len,λi b y h1 h2=>(x.tr i b y h1 h2).same s,x.wf)
def  BokV.weak{F':Addr->Prop}{bs:List Addr}{bk:List (TL n)}(x:BokV F H n h w g B bs bk)(k:∀ b,F b->F' b):BokV F' H n h w g B bs bk:=(x.top,x.len,λi b y h1 h2=>(x.tr i b y h1 h2).weak k,x.wf)
def  Ac{bs Ms:List Addr}{Tj:List Tho}(a:IsBk H B bs Ms Tj)(f:∀ M∈Ms,F M):∀(i:Nat) b y,bs[i]? =some b->(Tj.map<|inT n)[i]? =some y->TrT F H n b y:=λi b y h1 h2=>by
 rw[Tw]at h2;obtain⟨e,c,rfl⟩:=UL.mp h2;have d:i<Ms.length:=by rw[a.lnM];show(Tr.mp c).1
 show O5 (a.at_ i b _ e h1 (To d) c) (f _<|T0 d)
def  Ad{a e:List Addr}{c f:List (TL n)}(l:a.length=c.length)(g:∀(i:Nat) b y,a[i]? =some b->c[i]? =some y->TrT F H n b y)(h:∀(i:Nat) b y,e[i]? =some b->f[i]? =some y->TrT F H n b y):∀(i:Nat) b y,(a++e)[i]? =some b->(c++f)[i]? =some y->TrT F H n b y:=λi b y h1 h2=>by
 rcases Vm i a.length with d | d
 . rw[Ub d]at h1;rw[Ub #[0]]at h2;show g i b y h1 h2
 . rw[Uc d]at h1;rw[Uc #[0],← l]at h2;show h _ b y h1 h2
def mw{α:Type}{l:List α}{d:α}{j:Nat}(h:j<l.length):l.getD j d=l[j]:=by unfold List.getD;rw[To h];rfl
section
variable{h w g:Int}{Td:List RR}{cl m:∅}
def  LN{n:Nat}{z s:Int}(X:MkP g n m)(b:g<=6)(s0:1<=s)(s1:s<=g):MkP g n (supL m z s):=(by rw[mh];show X.len,λx a=>by
 unfold supL at a;rcases V2 a with a | rfl
 . show X.mm x a
 . have e:(s=1\/s=2\/s=3\/s=4\/s=5\/s=6)/\(g=1\/g=2\/g=3\/g=4\/g=5\/g=6):=by omega
   rcases e with ⟨rfl | rfl | rfl | rfl | rfl | rfl,rfl | rfl | rfl | rfl | rfl | rfl⟩ <;> first | decide | omega)
def pQ{x:Int}(c:1<=g)(a:g<=6)(b:0<=x/\x<2^g.toNat):Builtin.Int.intBits x<=900:=by
 have d:=bT c a;have:=(gb (m:=x) b.1 #[4]).1;lia
end
def bZ:d:=#[3,∃(p:Addr) (ms:∅),vs=[.ref p]/\H p=↥(ms.map V.int)/\ms.length<=16/\(∀ m∈ms,Builtin.Int.intBits m<=900)/\(∃ x∈ms,2<=(sgL x).length)/\∀(k:Nat) (H':Hp),Same H H'->k<ms.length->2<=(sgL<|ms.getD k 0).length->Q (.int (k:Int)) H']
def oh:a:=#[":idkx&--- +ba0cVb#2 Ch#1 Ch#2 Wpd>rza,Qba2ccef#1 1ef#0 "]
def Df:R "masks" bZ oh K:=by
 obtain⟨p,ms,rfl,k,I,w,⟨x,z,D⟩,q⟩:=h;exists oh;show(p,rfl,(_,TW k),?_);show kH (xs:=ms.map V.int) (λi=>decide<|1 < ((sgL<|ms.getD i 0).length:Int)) (λi=>.int (i:Int)) (by rw[Tn];lia) #[1] (TW k) ?_ ?_ ?_
 . intro i y H1 R g s1 k1;obtain⟨m,o,rfl⟩:=aI g;have r:=λH' t=>k1 H' t;rw[cC o]at r;change tTest _ [none,⇑i,⇑m] H1 R;exists(m,rfl,w m<|Tv o,λl F B A d=>?_);symm;rw[bh d,Tn];exists r _ B
 . intro i y H1 G g s s1 k1;show k1 _ (Tu _)
 . intro l H1 A s1 d;obtain⟨i,f,rfl⟩:=UP z
   have C:i∈(List.range (ms.map V.int).length).filter λi=>decide (1 < ((sgL<|ms.getD i 0).length:Int)):=TM.mpr (TC.mpr (by rw[Tn];show f),by
    rw[List.getD,To f];change decide (1 < ((sgL ms[i]).length:Int))=true;show Tp #[4])
   have e:∀ j∈(List.range (ms.map V.int).length).filter λi=>decide<|1 < ((sgL<|ms.getD i 0).length:Int),j<ms.length/\2<=(sgL<|ms.getD j 0).length:=λj u=>by
    have a:=TM.mp u;have b:=TC.mp a.1;rw[Tn]at b;have c:=TF a.2;show(b,by lia)
   generalize (List.range (ms.map V.int).length).filter (λi=>decide<|1 < ((sgL<|ms.getD i 0).length:Int))=n at*
   cases n with
   | nil=>cases C
   | cons j n=>
    have a:=e j<|.head _;show ixL d (v:=V.int (j:Int)) (show atI _ ((0:Nat):Int)=_ from fG rfl) ?_;show q j H1 s1 a.1 a.2
def  spBC(n:Nat)(K:Frag)(c:XZ)(d:X8):Sp:=#[3,∃(P L G A:Addr) (h w g:Int) (Td:List RR) (cl m:∅),vs=[.ref P,.ref A]/\Lk H c d P L G A h w g Td cl m/\NoA h w g Td cl m/\prodW m<=2^n/\∀(l:Addr) (e:List Addr) (xs:List (TL n)) (a:∅) (H':Hp),Same H H'->H l=none->BokV (λb=>H b=none) H' n h w g l e xs->xs.length<=200->WlkV n h w g Td cl m xs a->0∈a->Q (.ref l) H']
def  spRF(n:Nat)(K:Frag)(c:XZ)(d:X8):Sp:=#[3,∃(P L G A:Addr) (h w g z s:Int) (Td:List RR) (cl m:∅),vs=[.ref P,.ref A,.int z,.int s]/\Lk H c d P L G A h w g Td cl m/\0<=z/\1<=s/\s<=g/\NoA h w g Td cl (supL m z s)/\prodW (supL m z s)<=2^n/\∀(T:Addr) (xs:List (TL n)) (a:∅) (H':Hp),Same H H'->H T=none->TrT (λb=>H b=none) H' (n+1) T (suT n z s xs)->(∀ y∈xs,WfT h w g n y)->WlkV n h w g Td cl (supL m z s) xs a->0∈a->Q (.ref T) H']
def  rdRF(K:Frag)(sp:Sp):TS:=#[":iNaevw`0aef#0 a2a3a,'ba0a,?ba1a2a3ccc",s!"suppose"]
def  rdBC(K:Frag)(c:XZ)(d:X8)(te:TE):TS:=#[":gl,~fbjma0a1a]b:ch#2 gldk2ef#0 h#3 gnq,Mba3cidk2ef#1 ogl,~rba3ch#4 idAdk2ef#1 x&--430 ub,Qbadk34ch#1 D}f"]
section
variable{n:Nat}{K:Frag}{c:XZ}{d:X8}{vs:List V}{H:Hp}{Q:VK}{E:XK}
def rkRF(h:spRF n K c d vs H Q E):rdRF K (spBC n K c d) (eD9 Q) (start ["puzzle","masks","cell","sign"] vs) H:=by
 obtain⟨P,L,G,A,h,w,g,z,s,Td,cl,m,rfl,X,I,s0,s1,C,J,q⟩:=h;have k:=X.P.R.F.g1;have y:=X.P.R.F.m;have N:=X.n;change rdRF K _ _ [↑P,↑A,⇑z,⇑s] H;unfold rdRF;exists(A,m,z,s,rfl,X.A,by lia,I,s0,by lia,λl H1 e O t=>?_);have M:=LN (z:=z) (X.n,X.mm) k s0 s1;show(P,L,G,l,h,w,g,Td,cl,supL m z s,rfl,(X.P.same e,t,M.len,M.mm),C,J,λB p xs u r j D i v W h0=>?_);show(lnR rfl,λT f=>?_);have x:=(Tu r).laid (o:=.tup [.str supS,.int 0,.int z,.int s,.ref B]) f;have a:=(i.same x).weak (F':=λb=>H b=none) λb=>e.free;show q T xs u _ ((e.trans j).laid f) ((e.trans j).free f) (B,p,ah,a.top,e.free D,a.len,v,a.tr) i.wf W h0
def  IC{g z s:Int}{N:Nat}{m:∅}(e:1<=g)(d:g<=6)(X:MkP g N m)(s0:1<=s)(s1:s<=g)(st:stB (m.getD z.toNat 0) s=true):gc m (supL m z s):=λk=>by
 have i:=bT e d;have c:=zY (g:=g) (x:=s) e d #[0] s1;have e1:=wn (g:=g) s0 #[0];have l:=c.1.2;have j:mbI g s=1*2^(s-1).toNat:=by unfold mbI;rw[TX #[0],XL]
 rw[rO]
 have b:0<=m.getD k 0/\m.getD k 0<64:=by
  rcases Vm k m.length with a | a
  . have:=X.mm _<|aL a;omega
  . rw[List.getD,TV a];decide
 split
 . rename_i a
   rw[← j];show(c.1.1,by omega,b.1,b.2,λt f=>?_);have:=(bg c.1.1 t).mpr f;rw[e1,TH]at this;rw[this,← a.1];show st
 . show(b.1,b.2,b.1,b.2,λ_ h=>h)
def Ae{g s:Int}{N k:Nat}{m:∅}(f:1<=g)(e:g<=6)(s0:1<=s)(s1:s<=g)(b:k<m.length)(a:2<=(sgL<|m.getD k 0).length)(c:prodW m<=2^(N+1)):prodW (supL m (k:Int) s)<=2^N:=by
 have e1:=wn (g:=g) s0 #[4];have d:mbI g s=1*2^(s-1).toNat:=by unfold mbI;rw[TX #[4],XL]
 have q:=z7 (x:=1*2^(s-1).toNat) (by rw[← d,e1];rfl) m k b;unfold supL;rw[Ui];have r:=Vf (prodW<|m.set k<|1*2^(s-1).toNat) a;rw[Nat.pow_succ]at c;lia
def Mp{h w g:Int}{Td:List RR}{cl m now:∅}{ks:List TK}{Tj:List Tho}(F:FlOk h w g)(X:MkP g (h*w).toNat m)(W:Wlk h w g Td cl ks m Tj now):Tj.length<=96:=by
 have d:=F.g0;have c:=F.g1;have e:=F.m;have a:=(W.okM d c X).2;have b:=EX d c X #[4];lia
def CI {te:TE} {P L G A:Addr} {h w g:Int} {Td:List RR} {cl m:∅} (X:Lk H c d P L G A h w g Td cl m) (no:NoA h w g Td cl m)
  (q:∀(l:Addr) (bs:List Addr) (xs:List (TL n)) (m':∅) (H':Hp),Same H H'->H l=none->BokV (λb=>H b=none) H' n h w g l bs xs->xs.length<=200->WlkV n h w g Td cl m xs m'->0∈m'->Q (.ref l) H')
  (go:∀(T N B S:Addr) (bs Ms:List Addr) (now:∅) (Tj:List Tho) (k:Nat) (H1:Hp),Same H H1->IsBk H1 B bs Ms Tj->(∀ M∈Ms,H M=none)->Wlk h w g Td cl allT m Tj now->bs.length<=96->H1 N=↥(now.map V.int)->MkP g (h*w).toNat now->gc m now->k<now.length->2<=(sgL<|now.getD k 0).length->(∃ x∈now,2<=(sgL x).length)->0∉now->NoA h w g Td cl now->
   H1 S=↥((sgL<|now.getD k 0).map V.int)->CompR (Itl K S) (gName 1) tTrue te (λl H'=>cAdd (.ref B) (.ref l) H' Q) [none,none,⇑(k:Int),↑N,↑P] H1):
  rdBC K c d te (eD9 Q) [↑P,↑A,none,none,none] H:=by
 have F:=X.P.R.F;have j:=F.g0;have i:=F.g1;have ae:=F.m;have M:MkP g (h*w).toNat m:=(X.n,X.mm);unfold rdBC;symm;intro Kq y;rw[lF]at y;show(P,L,G,A,Kq,h,w,g,Td,cl,m,allT,rfl,X,.inr y,λT N B bs Ms now Tj H1 s1 hT hN Z hb I s o p ab W en R=>?_);have f:=(W.okM j i M).1;have n1:=f.len;have tl:=Mp F M W;have bl:=p.len;have u:=qr j i M W;have e:=no.less u;exists ixT s (v:=V.ref N) rfl ?_;rw[aA];exists(N,now,rfl,o,?_);by_cases z:0∈now
 . rw[Tp z];show(true,rfl,?_);exists ixT s (v:=V.ref B) rfl ?_;have E:=rQ (n:=n) W;show q B bs _ now H1 s1 Z (p.top,by rw[Tn];show bl,Ac p I,E.wf) (by rw[Tn];lia) E z
 . rw[Tq z];show(false,rfl,?_);have O:=O0 X.P.R X.P.C f z (en.resolve_left z) e;exists(N,now,rfl,o,by lia,λx hx=>pQ j i<|f.mm x hx,O,λk H2 t J r=>?_);exists ixT (t _ _ s) (v:=V.ref B) rfl ?_;show ixI (t _ _ o) #[4] #[4] ?_;rw[Ui];show(_,rfl,pQ j i<|f.mm _<|aL J,λS Y U hS D=>?_);show(S,rfl,(_,TW D),?_);have a:=t.trans U;show go T N B S bs Ms now Tj k Y (s1.trans a) (p.same a) I W #[4] (a _ _ o) f u J r O z e D
def PL(h:spBC 0 K c d vs H Q E):rdBC K c d dW (eD9 Q) (start ["puzzle","masks","found","now","cell"] vs) H:=by
 obtain⟨P,L,G,A,h,w,g,Td,cl,m,rfl,X,t,U,q⟩:=h;change rdBC K c d _ _ [↑P,↑A,none,none,none] H;show CI X t q λT N B S y Ms now Tj k H1 s1 W I C bl O i o M l v z j D=>?_;show absurd (Aa now (λx f=>?_) v) ?_
 . have b:=i.mm x f
   cases p:sgL x with
   | nil=>
    have u:=bT X.P.R.F.g0 X.P.R.F.g1
    have:x=0:=oV (b.1,by lia,by decide,by decide,λs e=>by
     have:=(bg b.1 s).mpr e;rw[p]at this;cases this) (by decide,by decide,b.1,by lia,λs e=>by rw[pM]at e;cases e)
    show absurd (this ▸ f) z
   | cons a r=>simp
 . have J:=m3 now m (by rw[i.len,X.n]) λk=>yJ<|o k;have:(2:Nat)^0=1:=rfl;lia
def rkBCs{te:TE}(al:te=(tCall (spRF n K c d) [] E0<|tCons (tVar 4)<|tCons (tVar 3)<|tCons (tVar 2)<|tCons (tVar 1) tNil))(h:spBC (n+1) K c d vs H Q E):rdBC K c d te (eD9 Q) (start ["puzzle","masks","found","now","cell"] vs) H:=by
 subst al;obtain⟨P,L,G,A,h,w,g,Td,cl,m,rfl,X,no,pr,q⟩:=h;have F:=X.P.R.F;have g0:=F.g0;have U:=F.g1;have am:=F.m;change rdBC K c d _ _ [↑P,↑A,none,none,none] H;show CI X no q λT N B S bs Ms now Tj k H1 s1 Bk hM Wk bl eN I ls hk ag op z af eS=>?_;have le:=m3 now m (by rw[I.len,X.n]) λk=>yJ<|ls k;have b:=I.mm _ (aL hk)
 have sl:(sgL<|now.getD k 0).length<=6:=by
  show wp (ys:=[1,2,3,4,5,6]) (jw _) λx hx=>?_;have e:x=1\/x=2\/x=3\/x=4\/x=5\/x=6:=by have:=jy g0 U b.1 b.2 hx;lia
  rcases e with rfl | rfl | rfl | rfl | rfl | rfl <;> decide
 have aj:=λs=>bg (m:=now.getD k 0) b.1 s
 show mV (xs:=(sgL<|now.getD k 0).map V.int) (λl i σ H'=>(σ=[none,none,⇑(k:Int),↑N,↑P]\/∃ cv,σ=[none,cv,⇑(k:Int),↑N,↑P])/\Same H1 H'/\∃(v:List Addr) (Ti:List (List<|TL n)),H' l=↥(v.map V.ref)/\v.length=i/\Ti.length=i/\∀(j:Nat) t xs s,v[j]? =some t->Ti[j]? =some xs->(sgL<|now.getD k 0)[j]? =some s->TrT (λb=>H1 b=none/\b≠l) H' (n+1) t (suT n (k:Int) s xs)/\(∀ y∈xs,WfT h w g n y)/\∃ M,WlkV n h w g Td cl (supL now (k:Int) s) xs M/\0∈M)
  (λl hl=>(.inl rfl,(Tu H1).laid hl,[],[],ah,rfl,rfl,λj t xs s e=>by simp at e)) (λl i σ H' _ _ p=>TW<|p.2.1 _ _ eS) ?_ ?_
 . rintro l i x σ H3 hl hx ⟨hσ,C,v,Ti,Z,tl,xl,tr⟩;obtain⟨s,o,rfl⟩:=aI hx;have ms:=Tv o;have J:=jy g0 U b.1 b.2 ms;have st:=(bg b.1 s).mp ms;have hi:i < (sgL<|now.getD k 0).length:=(Tr.mp o).1
   have eσ:σ.set 1 ⇑s=[none,⇑s,⇑(k:Int),↑N,↑P]:=by
    rcases hσ with rfl | ⟨cv,rfl⟩ <;> rfl
   rw[aZ,eσ];change tTrue _ _ _;rw[cF];rw[TZ rfl];symm;have u:=s1.trans C;show(P,L,G,N,h,w,g,(k:Int),s,Td,cl,now,rfl,(X.P.same u,C _ _ eN,I.len,I.mm),by lia,J.1,J.2,af.less (IC g0 U I J.1 J.2 (by rw[Ui];show st)),Ae g0 U J.1 J.2 hk ag<|TU le pr,λT2 xs M H4 O ae t4 wf W z0=>?_);have D:=O _ _ Z;have nT:l≠T2:=λe=>by rw[← e,Z]at ae;cases ae
   show(_,D,by have:=sl;rw[Tn];show aH #[4],.inr (_,rfl),(C.trans O).own hl,v++[T2],Ti++[xs],by rw[ah,UJ];rfl,by simp[tl],by simp[xl],λj t ys s' e1 e2 e3=>?_);rcases Vm j i with Y | Y
   . rw[Ub #[4]]at e1;rw[Ub #[4]]at e2;obtain⟨r1,r2⟩:=tr j t ys s' e1 e2 e3;show((r1.same O).put D<|λf=>f.2 rfl,r2)
   . rw[Uc #[4]]at e1;rw[Uc #[4]]at e2
     have j0:j=i:=by
      have:=(Tr.mp e1).1;simp at this;lia
     subst j0;rw[tl,Xx]at e1;rw[xl,Xx]at e2;cases e1;cases e2;rw[o]at e3;cases e3;show((t4.weak λa fa=>(C.free fa,λe=>by rw[e,Z]at fa;cases fa)).put D<|λf=>f.2 rfl,wf,M,W,z0)
 . rintro l σ H3 hl ⟨_,C,v,Ti,Z,tl,xl,tr⟩;rw[Tn]at tl xl;have B3:=Bk.same C;have ak:=B3.len;show Ia B3.top Z (by rw[Tn,Tn];lia) λr hr=>?_;have u:=s1.trans C;have nd:=jw<|now.getD k 0;let bk:Int->List (TL n):=λs=>Ti.getD ((sgL<|now.getD k 0).idxOf s) []
   have ab:∀(j:Nat) s,(sgL<|now.getD k 0)[j]? =some s->bk s=Ti.getD j []:=λj s e=>by
    obtain⟨Y,e⟩:=Tr.mp e;change Ti.getD ((sgL<|now.getD k 0).idxOf s) []=_;rw[← e,nd.idxOf_getElem]
   obtain⟨M,W,z0⟩:=Ab (Td:=Td) (cl:=cl) X.P.R.F z hk I.len bk (sgL<|now.getD k 0) now nd I aj (λ_ _=>rfl) λs o=>by
    obtain⟨j,Y,rfl⟩:=UP o;have e:=To Y;rw[ab j _ e];have q:=tr j _ _ _ (To #[4]) (To (show j<Ti.length by lia)) e;rw[mw (show j<Ti.length by lia)];show(jy g0 U b.1 b.2 o,q.2)
   have W2:=(rQ (n:=n+1) Wk).app W;have O:Same H3 (upd H3 r<|.lst<|bs.map V.ref++v.map V.ref):=(Tu H3).laid hr;show q r (bs++v) _ M _ (u.laid hr) (u.free hr) (by rw[ah,UJ],by rw[TJ,TJ,Tn,Tn];lia,Ad (by rw[Tn];show ak) (Ac (B3.same O) hM) λj t y e1 e2=>?_,W2.wf) (by rw[TJ,Tn,Tn];lia) W2 z0;rw[Tw]at e2;obtain⟨s,o,rfl⟩:=UL.mp e2;have Y:=(Tr.mp e1).1;have q:=tr j t _ s e1 (To (show j<Ti.length by lia)) o;rw[ab j s o,mw (show j<Ti.length by lia)];show(q.1.same O).weak λa fa=>s1.free fa.1
end
def  awL (h w g:Int) (Td:List RR) (cl m:∅):List ∅:=(dQ<|m.map sgL).filter (metB h w g Td cl)
def  InM(m f:∅):Prop:=f.length=m.length/\∀ k,k<f.length->stB (m.getD k 0) (f.getD k 0)=true
def Fj(d:∀ x∈m,0<=x):f∈awL h w g Td cl m↔metB h w g Td cl f=true/\InM m f:=by
 unfold awL InM;rw[TM,every_mem,all2_iff,Tn,and_comm];show WD λ_=>WD λo=>(λq k j=>?_,λq i x ss l e=>?_)
 . have b:k<m.length:=by lia
   have c:=q k _ _ (To j) (by rw[Tw,To b];rfl);rw[List.getD,To b,List.getD,To j];show(bg (d _<|T0 b) _).mp c
 . have n:=(Tr.mp l).1;have a:i<m.length:=by lia
   rw[Tw,To a]at e;cases e;have c:=q i n;rw[List.getD,To a,cC l]at c;show(bg (d _<|T0 a) _).mpr c
def BF(m:∅):prodL (m.map sgL)=prodW m:=by
 unfold prodL prodW;rw[List.foldl_map]
def LO{x:Int}(f:1<=g)(d:g<=6)(b:0<=x/\x<2^g.toNat)(e:x≠0):1<=(sgL x).length:=by
 have h:=bT f d
 cases i:sgL x with
 | nil=>
  show absurd (oV (b.1,by lia,by decide,by decide,λs c=>?_) (by decide,by decide,b.1,by lia,λs c=>by rw[pM]at c;cases c)) e;have:=(bg b.1 s).mpr c;rw[i]at this;cases this
 | cons a r=>simp
def HA{x:Int}(d:1<=g)(a:g<=6)(b:0<=x/\x<2^g.toNat):(sgL x).length<=6:=by
 show wp (ys:=[1,2,3,4,5,6]) (jw _) λy c=>?_;have e:y=1\/y=2\/y=3\/y=4\/y=5\/y=6:=by have:=jy d a b.1 b.2 c;lia
 rcases e with rfl | rfl | rfl | rfl | rfl | rfl <;> decide
def jg:f:=spBC 0 K c d
def wy:c:=#[":gl,~fbjma0a1a]b:ch#2 gldk2ef#0 h#3 gnq,Mba3cidk2ef#1 ogl,~rba3ch#4 idAdk2ef#1 x&--430 ub,Qbadk34ch#1 D;"]
def wz:R "puzzle masks found now cell" jg wy K c d:=PL h
def jh:f:=spBC 1 K c d
def pR:f:=spRF 0 K c d
def Fk:c:=#[":iNaevw`0aef#0 a2a3a,}gbjma0a,?ba1a2a3ccc",s!"suppose"]
def Fm:R "puzzle masks cell sign" pR Fk K c d:=rkRF (n:=0) h
def wA:c:=#[":gl,~fbjma0a1a]b:ch#2 gldk2ef#0 h#3 gnq,Mba3cidk2ef#1 ogl,~rba3ch#4 idAdk2ef#1 x&--430 ub,Qbadk34ch#1 D,}hbjma4a3a2a1c"]
def wB:R "puzzle masks found now cell" jh wA K c d:=rkBCs (n:=0) rfl h
def ji:f:=spBC 2 K c d
def pS:f:=spRF 1 K c d
def Fn:c:=#[":iNaevw`0aef#0 a2a3a,}ibjma0a,?ba1a2a3ccc",s!"suppose"]
def Fo:R "puzzle masks cell sign" pS Fn K c d:=rkRF (n:=1) h
def wC:c:=#[":gl,~fbjma0a1a]b:ch#2 gldk2ef#0 h#3 gnq,Mba3cidk2ef#1 ogl,~rba3ch#4 idAdk2ef#1 x&--430 ub,Qbadk34ch#1 D,}jbjma4a3a2a1c"]
def wD:R "puzzle masks found now cell" ji wC K c d:=rkBCs (n:=1) rfl h
def jj:f:=spBC 3 K c d
def pT:f:=spRF 2 K c d
def Fp:c:=#[":iNaevw`0aef#0 a2a3a,}kbjma0a,?ba1a2a3ccc",s!"suppose"]
def Fq:R "puzzle masks cell sign" pT Fp K c d:=rkRF (n:=2) h
def wE:c:=#[":gl,~fbjma0a1a]b:ch#2 gldk2ef#0 h#3 gnq,Mba3cidk2ef#1 ogl,~rba3ch#4 idAdk2ef#1 x&--430 ub,Qbadk34ch#1 D,}lbjma4a3a2a1c"]
def wF:R "puzzle masks found now cell" jj wE K c d:=rkBCs (n:=2) rfl h
def jk:f:=spBC 4 K c d
def pU:f:=spRF 3 K c d
def Fs:c:=#[":iNaevw`0aef#0 a2a3a,}mbjma0a,?ba1a2a3ccc",s!"suppose"]
def Ft:R "puzzle masks cell sign" pU Fs K c d:=rkRF (n:=3) h
def wG:c:=#[":gl,~fbjma0a1a]b:ch#2 gldk2ef#0 h#3 gnq,Mba3cidk2ef#1 ogl,~rba3ch#4 idAdk2ef#1 x&--430 ub,Qbadk34ch#1 D,}nbjma4a3a2a1c"]
def wH:R "puzzle masks found now cell" jk wG K c d:=rkBCs (n:=3) rfl h
def jl:f:=spBC 5 K c d
def lG:f:=spRF 4 K c d
def Fu:c:=#[":iNaevw`0aef#0 a2a3a,}objma0a,?ba1a2a3ccc",s!"suppose"]
def Fv:R "puzzle masks cell sign" lG Fu K c d:=rkRF (n:=4) h
def wI:c:=#[":gl,~fbjma0a1a]b:ch#2 gldk2ef#0 h#3 gnq,Mba3cidk2ef#1 ogl,~rba3ch#4 idAdk2ef#1 x&--430 ub,Qbadk34ch#1 D,'Cbjma4a3a2a1c"]
def wJ:R "puzzle masks found now cell" jl wI K c d:=rkBCs (n:=4) rfl h
section
variable{h w g:Int}{Td:List RR}{cl m f:∅}
def LQ{z s:Int}{N:Nat}(i:1<=g)(d:g<=6)(M:MkP g N m)(I:InM m f)(n:∀ x∈f,1<=x/\x<=g)(s0:1<=s)(s1:s<=g)(h:f.getD z.toNat 0≠s)(p:0<=z):InM (stL m z s) f:=by
 have o:=bT i d;have l:(stL m z s).length=m.length:=by rw[(M.stL i d s0 #[4]).len,M.len]
 show(by rw[l];show I.1,λk c=>?_);have a:k<m.length:=by have:=I.1;lia
 rw[lE a]
 split
 . rename_i e
   have b:=M.mm _<|aL a;have j:=n _<|aL (ms:=f) c;have e2:z.toNat=k:=by lia
   rw[e2]at h;rw[(jx (s:=s) b.1 #[4] s0 #[4]).2.1 _ j.1 #[4] h];show I.2 k c
 . show I.2 k c
def Fw{c:XZ}{ks:List TK}{Tj:List Tho}{now:∅}(R:bY c h w g Td)(p:CluesOk h w g cl)(M:MkP g (h*w).toNat m)(A:metB h w g Td cl f=true)(I:InM m f)(W:Wlk h w g Td cl ks m Tj now):InM now f:=by
 have e:=R.F.g0;have d:=R.F.g1;have o:=bT e d;unfold metB at A;rw[Tx,Tx]at A;obtain⟨l,n,q⟩:=A;obtain⟨b,i⟩:=jV l;have r:=(W.okM e d M).1;show(by rw[b,r.len],yH (λ{m} M j=>(R.F,b,M.len,λx a=>((M.mm x a).1,by have:=(M.mm x a).2;lia),i,j,λk s=>?_,R.ok,λx a=>Ty.mp q x a)) e d b i M I.2 W);have:=Ty.mp n k (TC.mpr (by rw[p.1];lia));rw[Uw,Tt,Tt]at this;show this
def Ku{x:Int}(c:1<=g)(a:g<=6)(d:1<=x)(b:x<=g):stB (2^g.toNat-1) x=true:=by
 have e:(x=1\/x=2\/x=3\/x=4\/x=5\/x=6)/\(g=1\/g=2\/g=3\/g=4\/g=5\/g=6):=by lia
 rcases e with ⟨rfl | rfl | rfl | rfl | rfl | rfl,rfl | rfl | rfl | rfl | rfl | rfl⟩ <;> first | lia | decide+kernel
def Kv(i:1<=g)(d:g<=6)(A:metB h w g Td cl f=true):InM (fuL h w g) f:=by
 unfold metB at A;rw[Tx]at A;obtain⟨b,j⟩:=jV A.1;show(by rw[b,U7],λk c=>?_);have a:=j _ (aL (ms:=f) c)
 have e:(fuL h w g).getD k 0=2^g.toNat-1:=by
  rw[List.getD,Xh,TZ (by rw[← b];show c)];rfl
 rw[e];show Ku i d a.1 a.2
def yL(A:metB h w g Td cl f=true):f.length=(h*w).toNat/\∀ x∈f,1<=x/\x<=g:=by
 unfold metB at A;rw[Tx]at A;show jV A.1
end
def jm:f:=#[3,∃ P L G A F h w g Td cl m f,vs=[.ref P,.ref A,.ref F]/\Lk H c d P L G A h w g Td cl m/\H F=↥(f.map V.int)/\metB h w g Td cl f=true/\InM m f/\(∀ a,metB h w g Td cl a=true->a=f)/\prodW m<=2^5/\∀(l:Addr) (e:List Addr) (xs:List (TL 5)) (now:∅) (H':Hp),Same H H'->H l=none->BokV (λb=>H b=none) H' 5 h w g l e xs->xs.length<=200->WlkV 5 h w g Td cl m xs now->MkP g (h*w).toNat now->InM now f->setB now=true->Q (.ref l) H']
def jn:c:=#[":gl1h#3 gltch#4 g'Ayq,}pba3cgl,~rba3ch#5 gldkx&--25 ub,Qbadk35ch#1 pdHb1dk231ef#0 h#6 g*ObK~k4a,'Cbjma0a3a5a6ccgl,~fbjma0a,~eba3a5a6ca]b:ch#7 gldk7ef#0 h#3 *ObK~U4adk7ef#1 ci4"]
def Nt(e:∀ x∈m,0<=x)(I:InM m f)(s:setB m=false):∃ x∈m,2<=(sgL x).length:=by
 show Vt λg=>?_
 have t:setB m=true:=by
  unfold setB;rw[Ty];intro x b;obtain⟨k,d,rfl⟩:=UP b;have c:=I.2 k (by rw[I.1];show d);rw[List.getD,To d]at c;have a:stB m[k] (f.getD k 0)=true:=c;have p:=Wg<|(bg (e _ b) _).mpr a;have q:¬ 2<=(sgL m[k]).length:=λq=>g (_,b,q);show Tp #[4]
 rw[t]at s;cases s
def  O8(I:InM m f):0∉m:=λh0=>by
 obtain⟨k,b,e⟩:=UP h0;have a:=I.2 k (by rw[I.1];show b);rw[List.getD,To b,e]at a;rw[show(some (0:Int)).getD 0=0 from rfl,pM]at a;cases a
def Nv{s:Int}{N:Nat}(M:MkP g N m)(f:1<=g)(e:g<=6)(i:0<=z)(c:z.toNat<m.length)(s0:1<=s)(s1:s<=g)(st:stB (m.getD z.toNat 0) s=true):btA (stL m z s)+1=btA m:=by
 have h:=bT f e;have d:=M.mm _<|aL (k:=z.toNat) (ms:=m) c;have a:=(jx (s:=s) d.1 #[4] s0 #[4]).2.2 st;have b:=yF (λm=>(sgL m).length) m z.toNat (woI (m.getD z.toNat 0) s) c;unfold btA;rw[Hr i]
 try dsimp only at b
 lia
def Nw{g x y:Int}(b:0<=x)(c:2<=(sgL x).length):∃ s∈(((sgL x).filter λt=>!decide (t=y)).map λt=>t),True:=by
 have d:=jw x
 match e:sgL x,c with
 | [],c=>simp at c
 | [_],c=>simp at c
 | a::b::r,_=>
  rw[e]at d;have h:a≠b:=λq=>by rw[q]at d;simp at d
  by_cases f:a=y
  . show(b,Tz.mpr (b,TM.mpr (.tail _<|.head _,by rw[Tq<|λq=>h<|f.trans q.symm];rfl),rfl),trivial)
  . show(a,Tz.mpr (a,TM.mpr (.head _,by rw[Tq f];rfl),rfl),trivial)
def PM{s:Int}(i:1<=g)(c:g<=6)(A:metB h w g Td cl f=true)(only:∀ a,metB h w g Td cl a=true->a=f)(s0:1<=s)(s1:s<=g)(e:z.toNat<f.length)(l:f.length=m.length)(d:f.getD z.toNat 0≠s):NoA h w g Td cl (supL m z s):=λa b=>by
 rw[only a b];show(z.toNat,e,?_);have e1:=wn (g:=g) s0 #[4];have k:mbI g s=1*2^(s-1).toNat:=by unfold mbI;rw[TX #[4],XL]
 have j:=zY (g:=g) (x:=s) i c #[4] s1;rw[rO,TZ (rfl,by lia),← k]
 cases q:stB (mbI g s) (f.getD z.toNat 0) with
 | false=>rfl
 | true=>
  have:=(bg j.1.1 _).mpr q;rw[e1,TH]at this;show absurd this d
def wK:R "puzzle masks answer now book cell sign found" jm jn K c d:=by
 obtain⟨P,L,G,A,F,h,w,g,Td,cl,m,f,rfl,X,eF,ap,I0,only,az,q⟩:=h;have FF:=X.P.R.F;have J:=FF.g0;have O:=FF.g1;have aU:=FF.m;have sg:=yL ap;have M0:MkP g (h*w).toNat m:=(X.n,X.mm);have aK:=EX J O M0 #[4];exists jn;show(ba #[1],λB hB=>?_);obtain⟨H1,z9,s1,eB⟩:=bp (.lst []) hB;rw[z9];have aI:A≠B:=λe=>by rw[← e,X.A]at hB;cases hB
 show(λmu σ H'=>∃(N:Addr) (now:∅) (p:List Addr) (xs:List (TL 5)) (v5 v6 v7:Option V),σ=[↑P,↑A,↑F,↑N,↑B,v5,v6,v7]/\Same H H'/\H' N=↥(now.map V.int)/\MkP g (h*w).toNat now/\InM now f/\prodW now<=2^5/\BokV (λb=>H b=none/\b≠B) H' 5 h w g B p xs/\WlkV 5 h w g Td cl m xs now/\xs.length+btA now<=96/\N≠B/\mu=btA now,
  (_,A,m,[],[],none,none,none,rfl,s1,s1 _ _ X.A,M0,I0,az,(eB,rfl,λi b y e=>by simp at e,λy hy=>nomatch hy),rfl,by simpa using aK,aI,rfl),?_)
 rintro mu σ H3 ⟨N,now,p,xs,v5,v6,v7,rfl,s3,eN,M,I,pr,ab,Wk,bd,aB,rfl⟩;have am:=ab.top;have ar:=ab.len;have nl:=M.len;have il:=I.1;exists(N,now,rfl,eN,by lia,λx hx=>pQ J O<|M.mm x hx,λH4 s4=>?_)
 cases hs:setB now with
 | true=>
  show(true,rfl,iteF ?_);exists q B p xs now H4 (s3.trans s4) hB ((ab.same s4).weak λb hb=>hb.1) #[4] Wk M I hs
 | false=>
  show(false,rfl,iteT ?_);have op:=Nt (λx hx=>(M.mm x hx).1) I hs
  show(λσ H'=>∃(N:Addr) (o:∅) (p:List Addr) (xs:List (TL 5)) (v5 v6 v7:Option V),σ=[↑P,↑A,↑F,↑N,↑B,v5,v6,v7]/\Same H H'/\H' N=↥(o.map V.int)/\MkP g (h*w).toNat o/\InM o f/\prodW o<=2^5/\BokV (λb=>H b=none/\b≠B) H' 5 h w g B p xs/\WlkV 5 h w g Td cl m xs o/\xs.length+btA o<=96/\N≠B/\btA o<btA now,
   λσ' H' oh=>by obtain⟨N',n',b',x',a5,a6,a7,e,t1,t2,t3,t4,t5,t6,aJ,t7,t8,lt⟩:=oh;show (_,lt,N',n',b',x',a5,a6,a7,e,t1,t2,t3,t4,t5,t6,aJ,t7,t8,rfl),?_)
  exists(N,now,rfl,s4 _ _ eN,by lia,λx hx=>pQ J O<|M.mm x hx,op,λk H5 s5 hk ax=>?_);have aw:=s4.trans s5;have b:=M.mm _<|aL hk;exists ixI (aw _ _ eN) #[4] #[4] ?_;rw[Ui];show(_,rfl,pQ J O b,λS H6 s6 hS eS=>?_);show(S,rfl,(_,TW eS),?_);have as:=aw.trans s6;have aD:=s3.trans as;show bE (xs:=sgL (now.getD k 0)) (λt=>!decide (t=f.getD k 0)) (λt=>t) (TU (HA J O b) #[1]) (TW eS) ?_ ?_ ?_
  . intro y H7 R hy s7 k7;have r:=k7 _<|Tu _;change tTest _ [none,⇑y,↑F,⇑(k:Int)] H7 R;exists ixI ((aD.trans s7) _ _ eF) #[4] #[4] ?_;rw[Ui];symm;show r
  . intro y H7 Q7 hy hb s7 k7;show k7 _ (Tu _)
  . intro l H7 hl s7 el;have ot:=Nw (g:=g) (y:=f.getD k 0) b.1 ax
    have al:∀ t∈(((sgL<|now.getD k 0).filter λt=>!decide (t=f.getD k 0)).map λt=>t),t∈sgL (now.getD k 0)/\f.getD k 0≠t:=λt ht=>by
     obtain⟨y,hy,rfl⟩:=Tz.mp ht;have a:=TM.mp hy;show(a.1,λe=>?_);have a2:=a.2;rw[Tp e.symm]at a2;cases a2
    generalize (((sgL<|now.getD k 0).filter λt=>!decide (t=f.getD k 0)).map λt=>t)=ts at*
    cases ts with
    | nil=>obtain⟨_,h0,_⟩:=ot;cases h0
    | cons s ts=>
     obtain⟨ms,ne⟩:=al s<|.head _;have u:=jy J O b.1 b.2 ms;have st:=(bg b.1 s).mp ms;have U:=as.trans s7;show ixI el #[1] (by simp) ?_;rw[show(s::ts).getD (0:Int).toNat 0=s from rfl];exists(bB<|U _ _ am,?_);have X7:=X.P.same<|s3.trans U;show(P,L,G,N,h,w,g,(k:Int),s,Td,cl,now,rfl,(X7,U _ _ eN,M.len,M.mm),by lia,u.1,u.2,PM J O ap only u.1 u.2 (by rw[Ui];lia) il (by rw[Ui];show ne),Ae J O u.1 u.2 hk ax pr,λT ys m4 H8 s8 hT tT aA W4 z4=>?_);have ae:=U.trans s8;have aq:=ae _ _ am;dsimp only;rw[gJ aq];show(aH (by rw[Tn];lia),?_);have aG:(upd H8 B<|.lst<|p.map V.ref++[V.ref T]) N=↥(now.map V.int):=by rw[ak aB];show ae _ _ eN
     have ao:(upd H8 B<|.lst<|p.map V.ref++[V.ref T]) B=↥((p++[T]).map V.ref):=by rw[ah,UJ];rfl
     have s9:Same H (upd H8 B<|.lst<|p.map V.ref++[V.ref T]):=(s3.trans ae).own hB
     have aF:∀(i:Nat) b y,(p++[T])[i]? =some b->(xs++[suT 4 (k:Int) s ys])[i]? =some y->TrT (λb=>H b=none/\b≠B) (upd H8 B<|.lst<|p.map V.ref++[V.ref T]) 5 b y:=by
      show Ad ar (λi b y h1 h2=>((ab.tr i b y h1 h2).same ae).put aq<|λf=>f.2 rfl) λi b y h1 h2=>?_;have i0:i=0:=by have:=(Tr.mp h1).1;simp at this;show this
      subst i0;cases h1;cases h2;show(tT.weak λa fa=>((s3.trans U).free fa,λe=>by rw[e,U _ _ am]at fa;cases fa)).put aq (λf=>f.2 rfl)
     have av:=O8 I;have aE:∀ j,j<now.length->(j:Int)≠(k:Int)->now.getD j 0≠0:=λj hj _ e=>av<|e ▸ aL (ms:=now) hj;have on:og h w g (k:Int) s:=(by lia,by lia,u.1,u.2);have ay:WlkV 5 h w g Td cl m (xs++[suT 4 (k:Int) s ys]) (stL now (k:Int) s):=Wk.app ((av,(on,aA),(by change stB (now.getD ((k:Int)).toNat 0) s=true;rw[Ui];show st),Ks W4 (Kt aE u.1 #[4] #[4]) z4),rfl);generalize upd H8 B (.lst<|p.map V.ref++[V.ref T])=H9 at*;exists(N,now,(k:Int),s,rfl,aG,by lia,by lia,λA2 aV Z aR aM=>?_);have M2:=M.stL (z:=(k:Int)) J O u.1 (show s<=6 by lia);have I2:=LQ (z:=(k:Int)) J O M I sg.2 u.1 u.2 (by rw[Ui];show ne) #[4];have bt:=Nv (z:=(k:Int)) M J O #[4] (by rw[Ui];show hk) u.1 u.2 (by rw[Ui];show st);intro Kq hq;rw[lF]at hq;have Y:=s9.trans Z;show(P,L,G,A2,Kq,h,w,g,Td,cl,stL now (k:Int) s,allT,rfl,(X.P.same Y,aM,M2.len,M2.mm),.inr hq,λT2 N2 B2 aN Ms o Tj aS aj aW au aT hb hM eT aO Bk aQ W en R=>?_);have ok:=W.okM J O M2;have I3:=Fw X.P.R X.P.C M2 ap I2 W;have bl:=Bk.len;have nB:N2≠B:=λe=>by rw[e,Z _ _ ao]at au;cases au
     exists ixT eT (v:=V.ref N2) rfl ?_;symm;have D:=(Z.trans aj) _ _ ao;show(bB D,?_);show ixT eT (v:=V.ref B2) rfl ?_;show El D Bk.top (by rw[Tn,Tn,TJ];change p.length+1+_<=1000;lia) ?_;have ls:=qr J O M2 W;have ag:=Z.trans aj;have af:=ay.app<|rQ (n:=5) W;have aP:∀ M∈Ms,H M=none/\M≠B:=λM hm=>(Y.free<|hM M hm,λe=>by have:=hM M hm;rw[e,Z _ _ ao]at this;cases this);show(N2,o,(p++[T])++aN,(xs++[suT 4 (k:Int) s ys])++Tj.map (inT 5),_,_,_,rfl,(Y.trans aj).own hB,by rw[ak nB];show aO,ok.1,I3,?_,(by rw[ah];simp[UJ],by rw[TJ,TJ,TJ,TJ,Tn];change p.length+1+_=xs.length+1+_;lia,Ad (by rw[TJ,TJ,ar];rfl) (λi b y h1 h2=>((aF i b y h1 h2).same ag).put D<|λf=>f.2 rfl)<|λi b y h1 h2=>(Ac Bk aP i b y h1 h2).put D<|λf=>f.2 rfl,af.wf),af,by rw[TJ,TJ,Tn];change xs.length+1+_+_<=96;lia,nB,by lia);have L1:prodW o<=prodW (stL now (k:Int) s):=m3 _ _ (by rw[ok.1.len,M2.len]) λj=>yJ (ls j)
     have L2:prodW (stL now (k:Int) s)<=prodW now:=m3 _ _ (by rw[M2.len,M.len]) λj=>by
      rcases Vm j now.length with hj | hj
      . rw[lE hj]
        split
        . rename_i e
          have e2:k=j:=by lia
          subst e2;have a:=(jx (s:=s) b.1 (by have:=bT J O;lia) u.1 #[4]).2.2 st;lia
        . show TQ _
      . rw[List.getD,TV (by rw[M2.len,← M.len];show hj),List.getD,TV hj];show TQ _
     lia
def  ID(h w g:Int)(Td:List RR)(cl:∅):Prop:=0∈stF h w g Td cl allT\/prodW (stF h w g Td cl allT)<=32
def  Bt57(H:Hp)(h w g:Int)(Td:List RR)(cl:∅)(B:Addr)(now:∅):Prop:=∃(a:List Addr) (xs:List (TL 5)),BokV (λ_=>True) H 5 h w g B a xs/\xs.length<=300/\WlkV 5 h w g Td cl (fuL h w g) xs now
def Bt57.same{H':Hp}(x:Bt57 H h w g Td cl B now)(s:Same H H'):Bt57 H' h w g Td cl B now:=by
 obtain⟨b,xs,a,l,W⟩:=x;show(b,xs,a.same s,l,W)
def  Sol57(H:Hp)(h w g:Int)(Td:List RR)(cl:∅)(T:Addr):Prop:=
 (∃(B:Addr) (now:∅),H T=some (.tup [.str<|tx s!"none",.ref B])/\(∀ f,metB h w g Td cl f≠true)/\ID h w g Td cl/\Bt57 H h w g Td cl B now/\0∈now)\/
 (∃ N B:Addr,H T=some (.tup [.str<|tx s!"rests",.ref N,.ref B])/\H N=↥((stF h w g Td cl allT).map V.int)/\32<prodW (stF h w g Td cl allT)/\Bt57 H h w g Td cl B (stF h w g Td cl allT))\/
 (∃(F B:Addr) (f now:∅),H T=some (.tup [.str<|tx s!"one",.ref F,.ref B])/\H F=↥(f.map V.int)/\metB h w g Td cl f=true/\(∀ d,metB h w g Td cl d=true->d=f)/\ID h w g Td cl/\Bt57 H h w g Td cl B now/\MkP g (h*w).toNat now/\InM now f/\setB now=true)\/
 (∃(c e:Addr) (a b:∅),H T=some (.tup [.str<|tx s!"two",.ref c,.ref e])/\H c=↥(a.map V.int)/\H e=↥(b.map V.int)/\metB h w g Td cl a=true/\metB h w g Td cl b=true/\a≠b/\ID h w g Td cl)
def Sol57.same{H':Hp}{T:Addr}(x:Sol57 H h w g Td cl T)(s:Same H H'):Sol57 H' h w g Td cl T:=by
 rcases x with ⟨B,now,e,n,m,b,z⟩ | ⟨N,B,e,e2,n,b⟩ | ⟨F,B,f,now,e,e2,m,o,n,b,r⟩ | ⟨a,i,c,j,e,e2,d,n⟩
 . show .inl (B,now,s _ _ e,n,m,b.same s,z)
 . show .inr (.inl (N,B,s _ _ e,s _ _ e2,n,b.same s))
 . show .inr (.inr<|.inl (F,B,f,now,s _ _ e,s _ _ e2,m,o,n,b.same s,r))
 . show .inr (.inr<|.inr (a,i,c,j,s _ _ e,s _ _ e2,s _ _ d,n))
section
variable{K:Frag}{c:XZ}{d:X8}{H0 H:Hp}{Q:VK}{P L G N B:Addr}{h w g:Int}{Td:List RR}{cl:∅}{bs:List Addr}
structure Sv57(H0 H:Hp)(c:XZ)(d:X8)(P L G N B:Addr)(h w g:Int)(Td:List RR)(cl:∅)(bs:List Addr):Prop where
 s0:Same H0 H
 pz:IsPz H c d P L G h w g Td cl
 eN:H N=↥((stF h w g Td cl allT).map V.int)
 eB:H B=↥(bs.map V.ref)
 bl:bs.length<=96
 bt:∃(Ms:List Addr) (Tj:List Tho),IsBk H B bs Ms Tj/\Wlk h w g Td cl allT (fuL h w g) Tj (stF h w g Td cl allT)
 M:MkP g (h*w).toNat (stF h w g Td cl allT)
 inn:∀ f,metB h w g Td cl f=true->InM (stF h w g Td cl allT) f
def  Sv57.same{H':Hp}(x:Sv57 H0 H c d P L G N B h w g Td cl bs)(s:Same H H'):Sv57 H0 H' c d P L G N B h w g Td cl bs:=(x.s0.trans s,x.pz.same s,s _ _ x.eN,s _ _ x.eB,x.bl,by obtain⟨Ms,Tj,a,W⟩:=x.bt;show(Ms,Tj,a.same s,W),x.M,x.inn)
def  Sv57.lk(x:Sv57 H0 H c d P L G N B h w g Td cl bs):Lk H c d P L G N h w g Td cl (stF h w g Td cl allT):=(x.pz,x.eN,x.M.len,x.M.mm)
def Sv57.book(x:Sv57 H0 H c d P L G N B h w g Td cl bs):Bt57 H h w g Td cl B (stF h w g Td cl allT):=by
 obtain⟨Ms,Tj,a,W⟩:=x.bt;have e:=rQ (n:=5) W;have l:=a.len;have b:=x.bl;show(bs,_,(a.top,by rw[Tn];show l,Ac a<|λ_ _=>trivial,e.wf),by rw[Tn];lia,e)
def Sv57.more{F:Addr->Prop}{H':Hp}{r l:Addr}{cs:List Addr}{xs:List (TL 5)}{now:∅}(x:Sv57 H0 H c d P L G N B h w g Td cl bs)(s:Same H H')(a:BokV F H' 5 h w g l cs xs)(q:xs.length<=200)(W:WlkV 5 h w g Td cl (stF h w g Td cl allT) xs now)(m:H' r=none):Bt57 (upd H' r<|.lst<|bs.map V.ref++cs.map V.ref) h w g Td cl r now:=by
 obtain⟨Ms,Tj,j,k⟩:=x.bt;have f:Same H' (upd H' r<|.lst<|bs.map V.ref++cs.map V.ref):=(Tu H').laid m;have e:=(rQ (n:=5) k).app W;have o:=j.len;have p:=a.len;have b:=x.bl;show(bs++cs,_,(by rw[ah,UJ],by rw[TJ,TJ,Tn];lia,Ad (by rw[Tn];show o) (Ac ((j.same s).same f)<|λ_ _=>trivial)<|λi b y h1 h2=>((a.tr i b y h1 h2).same f).weak λ_ _=>trivial,e.wf),by rw[TJ,Tn];lia,e)
end
def mx:f:=spFI 3 K c d
def my:f:=spFI 4 K c d
def mB:f:=spFI 5 K c d
def BG:c:=#[":gnyq,~zba2ciRq,~Abjma0a1a2ceEtcognyq,~Gbjma0a2citcogl,?ba1adk2ef#2 adk2ef#3 ch#3 gG+badk2ef#4 cVb#2 Ch#4 Ch#5 Wgnq,Mba3cieEonyq,~Hbjma0a3a5cgl,}qbjma0a3a5ch#6 gnpd~d6eEidAta4c6ol,~eba3adk5ef#2 adk5ef#3 ch#3 oiRq,Mba3ceEtc"]
def BH:c:=#[":gnyq,~zba2ciRq,~Abjma0a1a2ceEtcognyq,~Gbjma0a2citcogl,?ba1adk2ef#2 adk2ef#3 ch#3 gG+badk2ef#4 cVb#2 Ch#4 Ch#5 Wgnq,Mba3cieEonyq,~Hbjma0a3a5cgl,}rbjma0a3a5ch#6 gnpd~d6eEidAta4c6ol,~eba3adk5ef#2 adk5ef#3 ch#3 oiRq,Mba3ceEtc"]
def BI:c:=#[":gnyq,~zba2ciRq,~Abjma0a1a2ceEtcognyq,~Gbjma0a2citcogl,?ba1adk2ef#2 adk2ef#3 ch#3 gG+badk2ef#4 cVb#2 Ch#4 Ch#5 Wgnq,Mba3cieEonyq,~Hbjma0a3a5cgl,}sbjma0a3a5ch#6 gnpd~d6eEidAta4c6ol,~eba3adk5ef#2 adk5ef#3 ch#3 oiRq,Mba3ceEtc"]
def BJ:R "puzzle masks thought now place inner fault" mx BG K c d:=rkFI (n:=2) h
def BK:R "puzzle masks thought now place inner fault" my BH K c d:=rkFI (n:=3) h
def BL:R "puzzle masks thought now place inner fault" mB BI K c d:=rkFI (n:=4) h
def fQ:f:=#[3,∃(P L G N T M:Addr) (h w g:Int) (Td:List RR) (cl now:∅) (a:Str) (r z s:Int),vs=[.ref P,.ref N,.ref T]/\IsPz H c d P L G h w g Td cl/\H N=↥(now.map V.int)/\now.length=(h*w).toNat/\H T=some (.tup [.str a,.int r,.int z,.int s,.ref M])/\og h w g z s/\Q (.bl<|stB (now.getD z.toNat 0) s) H]
def fS:c:=#[":iJ,'abjma0a2c,~Jbadk1dk2ef#2 adk2ef#3 c"]
def pV:R "puzzle masks thought" fQ fS K c d:=by
 obtain⟨P,L,G,N,T,M,h,w,g,Td,cl,now,a,r,z,s,rfl,f,b,i,X,o,q⟩:=h;have e:=o.z0;have j:=o.z1;exists fS;show(P,L,G,T,M,h,w,g,Td,cl,a,r,z,s,rfl,f,X,o,?_);exists ixT X (v:=V.int z) rfl ?_;exists ixI b e #[4] ?_;show ixT X (v:=V.int s) rfl ?_;show(_,s,rfl,q)
def j3:f:=#[3,∃ P L G A B b h w g Td cl Tb now a F,vs=[.ref P,.ref A,.ref B]/\Fh H c d P L G A h w g Td cl Tb/\BokV F H 5 h w g B b a/\WlkV 5 h w g Td cl Tb a now/\a.length<=900/\∀ l H',Same H H'->H l=none->H' l=↥(now.map V.int)->Q (.ref l) H']
def j4:c:=#[":glr~ma1ch#3 gG+ba2cVb#2 Ch#4 Ch#5 WgnIq,Mba3cyq,}tbjma0a3a5cXogl,}ubjma0a3a5ch#6 gnpd~d6eEXol,~eba3adk5ef#2 adk5ef#3 ch#3 i3"]
def yM:R "puzzle masks book now place thought fault" j3 j4 K c d:=by
 obtain⟨P,L,G,A,B,bs,h,w,g,Td,cl,Tb,now,f,F,rfl,X,t,W,tn,q⟩:=h;have g6:=X.P.R.F.g1;have ab:=X.P.R.F.m;have bl:=t.len;exists j4;show o8 X.A λN hN=>?_;obtain⟨H1,z9,s1,eN⟩:=bp (.lst<|Tb.map V.int) hN;rw[z9];exists(B,rfl,(_,TW<|s1 _ _ t.top),?_)
 show Er (xs:=bs.map V.ref) (λi σ H'=>∃(N:Addr) (C J O:Option V) (m:∅),σ=[↑P,↑A,↑B,↑N,C,J,O]/\Same H H'/\H N=none/\H' N=↥(m.map V.int)/\m.length=(h*w).toNat/\(∀ x∈m,0<=x/\x<64)/\WlkV 5 h w g Td cl m (f.drop i) now)
  (N,none,none,none,Tb,rfl,s1,hN,eN,X.n,X.mm,W) (λi σ H' _ ⟨_,_,_,_,_,_,s,_⟩=>TW<|s _ _ t.top) ?_ ?_
 . rintro i x T σ j hx ⟨N,C,J,O,m,rfl,I,fN,e2,u,z,k⟩ hT;obtain⟨b,hb,rfl⟩:=aY hx;have hi:i<bs.length:=(Tr.mp hb).1;have hy:f[i]? =some (f[i]'#[4]):=To #[4];have ed:f.drop i=(f[i]'#[4])::f.drop (i+1):=UV #[4];rw[ed]at k;have Y:=t.tr i b _ hb hy;generalize (f[i]'#[4])=y at*;obtain⟨⟨n0,Z,st,al⟩,W3⟩:=k;have o:=Z.on;have o1:=o.s1;obtain⟨na,r,M,D⟩:=Y.parts;have U:Same j (upd j T<|.tup [V.int (i:Int),V.ref b]):=(Tu j).laid hT;show uO ah rfl ?_;rw[yd];generalize upd j T (.tup [V.int (i:Int),V.ref b])=H3 at*;have a:=I.trans U;have p:=U _ _ e2;symm;rw[aA];exists(N,m,rfl,p,?_);rw[Tq n0];exists(P,L,G,N,b,M,h,w,g,Td,cl,m,na,r,zT 5 y,sT 5 y,rfl,X.P.same a,p,u,a _ _ D,o,?_);rw[st];exists(P,L,G,N,b,h,w,g,Td,cl,m,y,F,rfl,by decide,(X.P.same a,p,u,z),Y.same a,Z.s,λ_ H4 l=>?_,λe=>by rw[al]at e;cases e);symm;rw[aA];exists ixT ((a.trans l) _ _ D) (v:=V.int (zT 5 y)) rfl ?_;exists ixT ((a.trans l) _ _ D) (v:=V.int (sT 5 y)) rfl ?_;show(N,m,zT 5 y,sT 5 y,rfl,l _ _ p,by lia,by lia,λN' H5 s5 S e5=>?_);show(N',_,_,_,_,rfl,(a.trans l).trans s5,(a.trans l).free S,e5,by rw[md];show u,Fi z o.s0 #[4],W3)
 . rintro σ j ⟨N,C,J,O,m,rfl,I,fN,e2,u,z,k⟩;rw[Tn,bl,VI]at k;cases (show m=now from k);exists q N j I fN e2
def jz:f:=#[3,∃ P L G B b h w g Td cl now a F,vs=[.ref P,.ref B]/\IsPz H c d P L G h w g Td cl/\BokV F H 5 h w g B b a/\WlkV 5 h w g Td cl (fuL h w g) a now/\a.length<=900/\∀ l H',Same H H'->H l=none->H' l=↥(now.map V.int)->Q (.ref l) H']
def rp:c:=#[":i,}vbjma0a,'DbaBmU~x~ybjm0cca1c"]
def Ny(b:1<=g)(a:g<=6):(fuL h w g).length=(h*w).toNat/\∀ x∈fuL h w g,0<=x/\x<64:=by
 have mk:=IA (h:=h) (w:=w) b a;have p:=bT b a;show(mk.len,λx c=>by have:=mk.mm x c;lia)
def GG:R "puzzle book" jz rp K c d:=by
 obtain⟨P,L,G,B,e,h,w,g,Td,cl,now,j,F,rfl,a,f,W,n,q⟩:=h;obtain⟨t,p,rs,h1,h2,h3⟩:=a.ex;have mk:=Ny (h:=h) (w:=w) a.R.F.g0 a.R.F.g1;exists rp;show methE (k:=.Puzzle) rfl a.ok h1 (by rfl) ?_;exists(P,L,G,h,w,g,Td,cl,rfl,a,λm b=>?_);exists(m,h,w,g,rfl,b,a.R.F,λA H1 s1 u o=>?_);show(P,L,G,A,B,e,h,w,g,Td,cl,fuL h w g,now,j,F,rfl,(a.same s1,o,mk.1,mk.2),f.same s1,W,n,λl H' s r i=>q l H' (s1.trans s) (s1.free r) i)
def  Fx(ns:∅)(k:Int):Int:=if k < (ns.length:Int) then ns.getD k.toNat 0 else 0
def iT:d:=#[3,∃ a ns k,vs=[.ref a,.int k]/\SqL K H a (ns.map V.int)/\ns.length<=63/\0<=k/\k<=1000/\Q (.int<|Fx ns k) H]
def pW:a:=#[":gnpd<1r}wba0cid}xb01oief#0 "]
def Fy:R "'script 'k" iT pW K:=by
 obtain⟨a,ns,k,rfl,c,d,k0,k1,q⟩:=h;ac_nf;unfold pW;rw[aC,aA];exists(a,_,rfl,.inl c,?_);symm;rw[Tn];unfold Fx at q;by_cases b:k < (ns.length:Int)
 . rw[TZ b]at q;rw[TZ<|Tp b];show(a,_,k,_,rfl,rfl,c,Ek k0 b,q)
 . rw[TX b]at q;rw[TX (by simpa using b)];symm;show q
def  IE:List (Int × Int)->(St->Hp->(List V->Hp->Prop)->Prop)
 | []=>tNil
 | p::r=>tCons (tTup<|tCons (tC<|.int p.1)<|tCons (tC<|.int p.2) tNil) (IE r)
def Fz{σ:St}:∀(b:List (Int × Int)) (H:Hp) (Q:List V->Hp->Prop),(∀(as:List Addr) (H':Hp),Same H H'->as.length=b.length->(∀(j:Nat) (a:Addr) (p:Int × Int),as[j]? =some a->b[j]? =some p->H' a=some (.tup [.int p.1,.int p.2]))->Q (as.map V.ref) H')->IE b σ H Q
 | [],H,Q,h=>h [] H (Tu H) rfl λj a p e _=>by simp at e
 | p::r,H,Q,h=>by
  unfold IE;exists(lnR rfl,λt g=>?_);obtain⟨H1,k,s1,f⟩:=bp (.tup [V.int p.1,V.int p.2]) g;rw[k];show Fz r H1 _ λas d c l i=>?_;show h (t::as) d (s1.trans c) (by simp[l]) λj a q e1 e2=>?_
  match j,e1,e2 with
  | 0,e1,e2=>
   simp at e1 e2;subst e1 e2;show c _ _ f
  | j+1,e1,e2=>show i j a q (by simpa using e1) (by simpa using e2)
variable{H:Hp}
def  Af{i j k o:Nat}{x y z u:V}{σ:St}{q:St->Hp->Prop}(h:q ((((σ.set i<|some x).set j<|some y).set k<|some z).set o<|some u) H):gCons (gName i) (gCons (gName j)<|gCons (gName k)<|gCons (gName o) gNil) [x,y,z,u] σ H q:=(x,_,rfl,y,_,rfl,z,_,rfl,u,_,rfl,rfl,h)
structure LR where
 k:RK
 n:Nat
 m:Nat
 ns:List Nat
abbrev aU(ns:List Nat):∅:=ns.map λ(n:Nat)=>(n:Int)
structure IsLR(H:Hp)(T C:Addr)(x:LR):Prop where
 T:H T=some (.tup [.str<|tx<|nmC x.k,.int (x.n:Int),.int (x.m:Int),.ref C])
 C:H C=↥((aU x.ns).map V.int)
def  IsLR.same{H':Hp}{T C:Addr}{x:LR}(X:IsLR H T C x)(s:Same H H'):IsLR H' T C x:=(s _ _ X.T,s _ _ X.C)
def  Own(M:Addr)(H H':Hp):Prop:=∀ b o,b≠M->H b=some o->H' b=some o
variable{M:Addr}
def  Own.refl(H:Hp):Own M H H:=λ_ _ _ e=>e
def  Own.trans{H1 c:Hp}(a:Own M H H1)(b:Own M H1 c):Own M H c:=λx o n e=>b x o n (a x o n e)
def  Own.put{H1:Hp}{o:HO}(s:Same H H1):Own M H (upd H1 M o):=λb u n e=>by rw[ak n];show s b u e
def  Own.same{H0 H':Hp}(a:Own M H H')(s:Same H0 H)(n:H0 M=none):Same H0 H':=λb o e=>a b o (λz=>by rw[z,n]at e;cases e) (s b o e)
def  tb8:∅:=[0,1,1,2,1,2,2,3]
def O9{m:Int}(h0:0<=m)(h1:m<8):tb8.getD m.toNat 0=((sgL m).length:Int)/\(sgL m).length<=3:=by
 have e:m=0\/m=1\/m=2\/m=3\/m=4\/m=5\/m=6\/m=7:=by lia
 rcases e with rfl | rfl | rfl | rfl | rfl | rfl | rfl | rfl <;> decide+kernel
variable{ms:∅}
def Kw{i:Nat}{m:Int}(h:ms[i]? =some m):prodW (ms.take<|i+1)=prodW (ms.take i)*(sgL m).length:=by
 unfold prodW;rw[fD h,U6];rfl
def IF(h:0∈ms):prodW ms=0:=by
 induction ms with
 | nil=>cases h
 | cons m ms a=>
  rw[dN];rcases TN.mp h with e | h
  . rw[← e];simp[show(sgL 0).length=0 by decide+kernel]
  . rw[a h,Nat.mul_zero]
def PN{s:Int}(h0:1<=s)(h1:s<=3){g:Int}:([1,2,4]:∅).getD (s-1).toNat 0=mbI g s:=by
 have e:s=1\/s=2\/s=3:=by lia
 rcases e with rfl | rfl | rfl <;> rfl
def Pa{g:Int}{N:Nat}{now f:∅}(h:1<=g)(n:g<=3)(M:MkP g N now)(I:InM now f)(i:setB now=true)(l:∀ x∈f,1<=x/\x<=g):now=f.map λs=>([1,2,4]:∅).getD (s-1).toNat 0:=by
 show Xn (by rw[Tn];show I.1.symm) λk h1 h2=>?_;rw[List.getElem_map];have d:k<f.length:=by rw[I.1];show h1
 have e:=I.2 k d;rw[mw h1,mw d]at e;have b:=M.mm _<|T0 h1;have m:=bT h (show g<=6 by lia);have j:=l _<|T0 d;have c:=Ty.mp (show now.all _=true from i) _<|T0 h1;have c:=TF c;have a:=(bg b.1 f[k]).mpr e
 have e1:sgL now[k]=[f[k]]:=by
  generalize sgL now[k]=zs at c a ⊢
  match zs,c,a with
  | [],c,_=>simp at c
  | [y],_,a=>rw[TH.mp a]
  | _::_::_,c,_=>simp at c;lia
 rw[PN j.1 #[4] (g:=g)];show(Fg h #[4] b.1 b.2 e1).2.2.symm
def Ag{n:Nat}:∀{names:List (Str × NameKind)} {cl:List (Str × Addr)},(∀ y∈names,y.2≠.cell)->cellsFrom n names cl=cl
 | [],_,_=>rfl
 | (x ,k)::r,cl,h=>by
  have c:(k==NameKind.cell)=false:=by
   have:=h _<|.head _;cases k <;> first | rfl | show absurd rfl this
  have b:=Ag (n:=n) (names:=r) (cl:=cl) λy a=>h y<|.tail _ a;unfold cellsFrom;simp only[c];show b
def CJ:∀{names:List (Str × NameKind)} {h:Heap},(∀ y∈names,y.2≠.cell)->pushCells h names=h
 | [],_,_=>rfl
 | (x ,k)::r,h,hn=>by
  have c:(k==NameKind.cell)=false:=by
   have:=hn _<|.head _;cases k <;> first | rfl | show absurd rfl this
  have b:=CJ (names:=r) (h:=h) λy a=>hn y<|.tail _ a;unfold pushCells;simp only[c];show b
def Dg:StrKeys #[]:=by
 intro e a;show absurd a (by simp)
variable{A:Around}{E:Value->Shared->Prop}{sc:Scope}{cl:List (Str × Addr)}
def Nz {M:Model} {s:Shared} {v q:Str} {u a:Value} {f:Addr} {Q:Env->Shared->Prop} (l:sc.kind=.function) (i:∀ y∈sc.names,y.2≠.cell) (n:sc.names.lookup v=some .local)
  (j:∀ h',(h'.Ns s.heap.objs.size λx=>if x=v then some u else none)->(∀ b o,s.heap.get? b=some o->h'.get? b=some o)->Q (newEnv sc s.heap.objs.size mainGlobals cl q (some f) a none builtinsNs) {s with heap:=h',toks:=s.toks+1}):
  wpAny M A (newFunctionEnv sc mainGlobals cl [(v ,u)] q (some f) a none builtinsNs) Q E s:=by
 simp only[newFunctionEnv,Option.isSome_none];show Uh<|wpAny_alloc ?_;show Uh (wpAny_layCells _ (λd c g=>by cases h:c==NameKind.cell <;> simp[h]) _ _ _ _ ?_);rw[Ag i,CJ i];show Uh ?_;rw[List.forIn_cons];have r:(s.heap.push {cls:=.type "frame",data:=.dict #[]}).Ns s.heap.objs.size λ_=>none:=(_,#[],_,Ur _ rfl,rfl,Dg,λd=>rfl);show Uh (Uh<|XF (m:=λ_=>none) ?_ ?_ (λh' p k=>?_) ?_)
 . show n
 . show r
 . show Ux ?_;change wpAny M A (forIn [] PUnit.unit _) _ _ _;rw[List.forIn_nil];show Ux (Ux<|j h' ?_ λb o e=>?_)
   . show p
   . rw[k.2 b<|Uv<|Ug e];show TY _ e
 . change(sc.kind==_||_)=false;rw[l];rfl
def NA {prog:Program} {w:World} {s:Shared} {f G m c':Addr} {q F v:Str} {I:Arguments} {J L N:Pos} {K k u:Value} {Tg:Array Value} {x:Int} {t:Tok} {Q:Value->Shared->Prop}
  (S:A.depth<recursionLimit) (Y:s.heap.get? f=some (PySem.W.kla_obj "<lambda>" q I (.Subscript (.Name F J) (.Name v L) N) sc cl K c' k)) (i:cl.lookup F=some G) (p:s.heap.CodeRec (.ref c') q) (g:s.heap.IsCell G ↑m) (X:s.heap.IsList m Tg) (U:0<=x) (O:x<2^63) (R:Tg[x.toNat]? =some u) (l:s.heap.NoLimit)
  (r:bindArgs (PySem.W.kla_fn "<lambda>" q I (.Subscript (.Name F J) (.Name v L) N) sc cl K (.ref c') k) ([.int x t],[])=pure [(v ,.int x t)])
  (D:sc.kind=.function) (C:sc.isCoroutine=false) (H:sc.isGenerator=false) (P:∀ y∈sc.names,y.2≠.cell) (M:sc.names.lookup v=some .local) (hF:sc.names.lookup F=some .free)
  (n:(F==("__debug__":Str))=false) (z:(F==("__classdict__":Str))=false) (B:(v==("__debug__":Str))=false)
  (h:∀(h':Heap) (Z:Nat),(∀ b o,s.heap.get? b=some o->h'.get? b=some o)->Q u {s with heap:=h',toks:=Z}):
  wpAny (model prog w) A (call (.ref f) [.int x t]) Q E s:=by
 show wpAny_call<|PySem.W.kla_callFunE S Y rfl C H rfl p ?_;rw[r];show Ux ?_;show Nz D P M λh' hn a=>(l.keeps a,?_);show PySem.W.kla_codeExpr ?_;show wpAny_Subscript_Name (T:="list") (id:="list.__getitem__") rfl ?_ ?_
 . show Xp (wpAny_loadName_free (v:=.ref m) D hF (c:=G) ?_ ?_ ?_ z) n
   . show i
   . obtain⟨o,e,d⟩:=g;show(o,a _ _ e,d)
   . show Xp (wpAny_loadName_local D M hn (TZ rfl) ?_) B
     have j:h'.IsList m Tg:=by
      obtain⟨o,e,d⟩:=X;show(o,a _ _ e,d)
     show(?_,wpAny_getItem_list j U O R<|h h' _ a);show j.typeIs
 . show λ_ _=>rfl
def  tbE(l c:Nat)(a:Addr):Array Value:=#[rawInt l,rawInt c,.ref a]
def  TbOk(l c:Nat)(q:Str)(H:Hp)(P:Addr):Prop:=H P=some (.tbl #[])\/∃ a,H P=some (.tbl<|tbE l c a)/\H a=some (.ext λh=>h.CodeRec (.ref a) q)
def  SameX(P:Addr)(H H':Hp):Prop:=∀ a o,a≠P->H a=some o->H' a=some o
section
variable{X:Cx}{Tc:List (Addr × Obj)}{σ:St}{H:Hp}{s:Shared}
def jA{c:Addr}{q:Str}{h1 h2:Heap}(x:h1.CodeRec (.ref c) q)(k:∀ o,h1.get? c=some o->h2.get? c=some o):h2.CodeRec (.ref c) q:=by
 obtain⟨a,o,vs,t,e,g,d,v⟩:=x;cases e;show(c,o,vs,t,rfl,k _ g,d,v)
def  Inv.grow{h':Heap}{t':Nat}{P c':Addr}{j more:Array Value}{q:Str}(I:Inv X Tc σ H s)(i:H P=some (.tbl j))(ext:Heap.ExtBut P s.heap h')(c0:s.heap.objs.size<=c')(A:h'.CodeRec (.ref c') q)(B:h'.get? P=some {cls:=.none,data:=.fields (j++more)}):
  Inv X Tc σ (upd (upd H P<|.tbl<|j++more) c'<|.ext λh=>h.CodeRec (.ref c') q) {s with heap:=h',toks:=t'}:=by
 have C:H c'=none:=I.hok.fresh c0;have t:P≠c':=λe=>by rw[e,C]at i;cases i
 have a:∀ b,b≠P->b≠c'->upd (upd H P<|.tbl<|j++more) c' (.ext λh=>h.CodeRec (.ref c') q) b=H b:=λb h1 h2=>by rw[ak h2,ak h1]
 have l:upd (upd H P<|.tbl<|j++more) c' (.ext λh=>h.CodeRec (.ref c') q) P=some (.tbl<|j++more):=by rw[ak t,ah]
 have E:∀ b o,s.heap.get? b=some o->b≠c':=λb o e z=>by rw[z]at e;show absurd (Uo (Ug e) c0) (UY _)
 have p:∀ b,H b=none->b≠P:=λb n z=>by rw[z,i]at n;cases n
 have G:=p _ I.free;have f:∀ b u,H b=some u->b≠c':=λb u e z=>by rw[z,C]at e;cases e
 show I.step (g':=s.gens) (d':=s.drawn) (ch:=[]) (λ_ z=>nomatch z) (λb o _ _ _ e n=>ext b o (p b n) e) (λb o _ _ _ e n=>(o.slots,ext b o (p b n) e)) (λb o _ e n=>by rw[a b (p b n)<|E b o e];show n)
  (λb o _ e=>?_) (λb xs e=>?_) (λb o u e=>?_) (λb J e=>?_) (λm ⟨o,F,D,e,r⟩=>(o,F,D,ext _ _ G e,r)) (λb u e=>?_) I.bare
 . by_cases z:b=P
   . rw[z];show(_,B)
   . show(o,ext b o z e)
 . rw[a b (λz=>by rw[z,i]at e;cases e)<|f b _ e];show e
 . rw[a b (λz=>by rw[z,i]at e;cases e)<|f b _ e];show e
 . by_cases z:b=P
   . rw[z,i]at e;cases e;rw[z];show(more,l)
   . rw[a b z<|f b _ e];show(#[],by rw[e];simp)
 . by_cases z:b=c'
   . rw[z,ah]at e;cases e;rw[z];show(A,?_,λh1 h2 x k=>jA x k);obtain⟨_,o,_,_,e,g,_⟩:=A;cases e;show(o,g)
   . by_cases y:b=P
     . rw[y,l]at e;cases e;rw[y];show B
     . rw[a b y z]at e;show(I.hok b u e).stay (λd v c g=>ext d v ?_ g) (λd c=>?_) λd xs c=>?_
       . rcases c with rfl | c
         . show y
         . intro w;rw[w,i]at c;cases c
       . rw[a d (λw=>by rw[w,i]at c;cases c)<|f d _ c];show c
       . rw[a d (λw=>by rw[w,i]at c;cases c)<|f d _ c];show c
def Inv.pin1{o:Obj}(I:Inv X Tc σ H s)(d:∀ v,o.data≠.cell v)(f:o.isFreed=false:=by rfl):Inv X ((s.heap.objs.size ,o)::Tc) σ H {s with heap:=s.heap.push o}:=by
 have c:Inv X Tc σ H {s with heap:=s.heap.push o}:=I.kept (t':=s.toks) λb u e=>TY _ e;show c.pins_of λp a=>?_;rcases TN.mp a with rfl | a
 . show(Ur _ f,I.hok.fresh<|TQ _,(Uv I.lt).symm,I.nofs<|TQ _,d)
 . show c.pin p (UA _ a)
def GH{l c:Nat}{a:Addr}:TriplesOk (tbE l c a).toList:=by
 simp[tbE,TriplesOk,rawInt]
def Kx{pos:Pos}{a:Addr}:codeAmong pos (tbE pos.line pos.col a).toList=↑a:=by
 simp[tbE,codeAmong,rawInt]
def LS {E:Value->Shared->Prop} {Q:Value->Shared->Prop} {D:Arguments} {i:Expr} {sc:Scope} {pos:Pos} {c P:Addr} (I:Inv X Tc σ H s) (d:X.env.code=.ref c) (u:PySem.W.CodeHd X.base c P) (J:X.base.BuiltinsAt X.mg P) (t:mainGlobals≠P) (Z:TbOk pos.line pos.col (X.env.qual++"<lambda>") H P) (K:defaultsOf D X.env=([] ,[])) (L:∀ x,(x ,NameKind.free)∈sc.names->∃ c,X.env.cells.lookup x=some c)
  (h:∀(f c':Addr) (cl:List (Str × Addr)) (Y g:Value) (H':Hp) (s':Shared),Inv X ((f ,PySem.W.kla_obj "<lambda>" (X.env.qual++"<lambda>") D i sc cl Y c' g)::Tc) σ H' s'->(∀ x c,cl.lookup x=some c->X.env.cells.lookup x=some c)->(∀ x,(x ,NameKind.free)∈sc.names->∃ c,cl.lookup x=some c)->s'.heap.CodeRec (.ref c') (X.env.qual++"<lambda>")->SameX P H H'->TbOk pos.line pos.col (X.env.qual++"<lambda>") H' P->(∀ a,H' a=none->H a=none)->Q (.ref f) s'):
  wpAny (model X.prog X.w) X.A (eval (.Lambda D i sc pos) X.env) Q E s:=by
 obtain⟨cl,j,T,U⟩:=zb L
 have m:s.heap.Ns mainGlobals X.mg:=by
  obtain⟨o,es,ep,e,r⟩:=I.mod.glob;show(o,es,ep,I.bk _ _ e,r)
 have l:s.heap.BuiltinsAt X.mg P:=by
  obtain⟨bm,o,h1,h2,h3,h4,h5,h6⟩:=J;show(bm,o,h1,h2,h3,h4,I.bk _ _ h5,h6)
 have n:=u.keeps I.bk;show PySem.W.kla_eval K ?_;rcases Z with e | ⟨a,e,S⟩
 . have F:s.heap.get? P=some (PySem.W.tabObj #[]):=I.hok P _ e;show PySem.W.kla_makeFunction j I.ok.glob m d n F ?_ ?_ t l λc' g O N ext R ab q M=>?_
   . simp[TriplesOk]
   . rfl
   . have C:=I.grow (t':=N) (more:=tbE pos.line pos.col c') e ext R q (by simpa [tbE] using M);have G:H c'=none:=I.hok.fresh R;have B:P≠c':=λz=>by rw[z,G]at e;cases e
     show h _ c' cl _ g _ _ (C.pin1<|λv z=>by cases z) T U (jA q λo e=>TY _ e) (λb o nb k=>?_) (.inr (c',?_,?_)) (λb nb=>?_)
     . rw[ak (λz=>by rw[z,G]at k;cases k),ak nb];show k
     . rw[ak B,ah];simp[tbE]
     . rw[ah]
     . by_cases z:b=c'
       . rw[z];show G
       . rw[ak z]at nb;by_cases y:b=P
         . rw[y,ah]at nb;cases nb
         . rw[ak y]at nb;show nb
 . have F:s.heap.get? P=some (PySem.W.tabObj<|tbE pos.line pos.col a):=I.hok P _ e;show PySem.W.kla_makeFunctionHit j I.ok.glob m d n F ?_ (cv:=.ref a) ?_ l λg O N p sz=>?_
   . show GH
   . show Kx
   . have C:Inv X Tc σ H {s with heap:=O,toks:=N}:=I.kept p;have q:O.CodeRec (.ref a) (X.env.qual++"<lambda>"):=jA (I.hok a _ S).1 λo e=>p _ _ e;show h _ a cl _ g H _ (C.pin1<|λv z=>by cases z) T U (jA q λo e=>TY _ e) (λb o _ k=>k) (.inr (a,e,S)) (λb nb=>nb)
def  intOf:Value->Int
 | .int x _=>x
 | _=>0
def BM:∀{xs:∅} {Tg:List Value},Vals (xs.map V.int) Tg->Tg.map intOf=xs/\∀ v∈Tg,∃ t,v=.int (intOf v) t
 | [],_,r=>by cases r;show(rfl,λ_ h=>nomatch h)
 | x::xs,_,r=>by
  cases r with
  | cons h t=>
   obtain⟨c,rfl⟩:=h;have b:=BM t;show(by rw[T7,b.1];rfl,λv a=>?_);rcases TN.mp a with rfl | a
   . show(c,rfl)
   . show b.2 v a
def HB:∀{Tg:List Value},(∀ v∈Tg,∃ t,v=.int (intOf v) t)->Vals ((Tg.map intOf).map V.int) Tg
 | [],_=>.nil
 | v::Tg,h=>.cons (h v<|.head _) (HB λy a=>h y<|.tail _ a)
def HC{g:Int->Int}:∀{Tg:List Value} {p:Int × Value},p∈((Tg.map intOf).map g).zip Tg->p.1=g (intOf p.2)/\p.2∈Tg
 | [],_,h=>nomatch h
 | v::Tg,p,h=>by
  rcases TN.mp (show p∈(g (intOf v) ,v)::((Tg.map intOf).map g).zip Tg from h) with rfl | h
  . show(rfl,.head _)
  . have:=HC (Tg:=Tg) h;show(this.1,.tail _ this.2)
def HD{g:Int->Int}:∀{Tg:List Value},(((Tg.map intOf).map g).zip Tg).map (λp=>intOf p.2)=Tg.map intOf
 | []=>rfl
 | v::Tg=>by
  change intOf v::(((Tg.map intOf).map g).zip Tg).map (λp=>intOf p.2)=intOf v::Tg.map intOf;rw[HD (Tg:=Tg)]
def Pb{h:Heap}{L:Addr}{m m':Str->Option Value}(a:h.Ns L m)(b:h.Ns L m'):m=m':=by
 obtain⟨o,n,k,e,d,_,r⟩:=a;obtain⟨l,g,j,c,f,_,i⟩:=b;rw[e]at c;cases c;rw[d]at f;cases f
 funext x
 rw[← r x,← i x]
def PX{n:Nat}{x:Int}(h:n<=sizeLine)(a:x<n):x<2^63:=by
 have:(sizeLine:Int)<2^63:=by decide
 lia
def ObjOk.obj{P:Program}{w:World}{H:Hp}{h:Heap}{a:Addr}{o:HO}(x:ObjOk P w H h a o):∃ u,h.get? a=some u:=by
 cases o with
 | lst xs=>obtain⟨_,_,_,_,e⟩:=x;show(_,e)
 | tup xs=>obtain⟨_,_,_,_,e,_⟩:=x;show(_,e)
 | dK b=>obtain⟨_,_,_,_,o,_,_,e,_⟩:=x;show(_,e)
 | dT b=>obtain⟨_,_,_,_,o,_,_,e,_⟩:=x;show(_,e)
 | set S n=>obtain⟨o,_,_,_,e,_⟩:=x;show(_,e)
 | ins C d c=>obtain⟨_,_,_,e,_⟩:=x;show(_,e)
 | own y=>show x
 | xd c=>obtain⟨_,⟨_,_,_,e,_⟩,_⟩:=x;show(_,e)
 | rng g j=>obtain⟨_,_,_,e⟩:=x;show(_,e)
 | frz k u=>obtain⟨e,_⟩:=x;show(_,e)
 | tbl i=>show(_,x)
 | met f y=>show(_,x)
 | ext φ=>show x.2.1
def LU {E:Value->Shared->Prop} {Q:Value->Shared->Prop} {l f c' cc Fl:Addr} {cl:List (Str × Addr)} {ps:Arguments} {sc:Scope} {F v q:Str} {p1 p2 p3:Pos} {pm ao:Value} {xs fs:∅} (I:Inv X Tc σ H s) (hr:X.A.depth<recursionLimit)
  (pf:(f ,PySem.W.kla_obj "<lambda>" q ps (.Subscript (.Name F p1) (.Name v p2) p3) sc cl pm c' ao)∈Tc) (Z:s.heap.CodeRec (.ref c') q) (ab:cl.lookup F=some cc) (S:s.heap.IsCell cc ↑Fl) (aB:cc≠X.env.locals) (hl:H l=↥(xs.map V.int)) (hF:H Fl=↥(fs.map V.int)) (hb:∀ x∈xs,0<=x/\x<fs.length) (ax:xs.length<64)
  (aD:∀ x t,bindArgs (PySem.W.kla_fn "<lambda>" q ps (.Subscript (.Name F p1) (.Name v p2) p3) sc cl pm (.ref c') ao) ([.int x t],[])=pure [(v ,.int x t)])
  (hk:sc.kind=.function) (ay:sc.isCoroutine=false) (aA:sc.isGenerator=false) (hf:∀ y∈sc.names,y.2≠.cell) (hv:sc.names.lookup v=some .local) (az:sc.names.lookup F=some .free)
  (aq:(F==("__debug__":Str))=false) (ar:(F==("__classdict__":Str))=false) (aE:(v==("__debug__":Str))=false)
  (h:∀(zs:∅) (D:Addr) (s':Shared),Inv X Tc σ (upd H D<|.lst<|zs.map V.int) s'->H D=none->zs.Perm xs->zs.Pairwise (λx y=>fs.getD x.toNat 0<=fs.getD y.toNat 0)->Q (.ref D) s'):
  wpAny (model X.prog X.w) X.A (call (.builtin "sorted") [.ref l] [("key" ,.ref f)]) Q E s:=by
 obtain⟨m,fr⟩:=I.fr;obtain⟨Tg,n,rv,ho,hz⟩:=I.lst hl;obtain⟨B,nf,rf,av,ae⟩:=I.lst hF;have iv:=BM rv;have Y:=BM rf;have xl:Tg.length=xs.length:=by rw[← iv.1,Tn]
 have aH:B.length=fs.length:=by rw[← Y.1,Tn]
 obtain⟨pg,pn,pL,_⟩:=I.pin _ (UA _ pf)
 have c:∀{h:Heap} {ag:List (Addr × Obj)},Fr X.base X.env.locals h m->News X.base X.env.locals h (rC X.base s.heap X.env.locals++ag)->∀ b o,b≠X.env.locals->s.heap.get? b=some o->h.get? b=some o:=λF N b o nb e=>by
  cases q:X.base.get? b with
  | some o'=>
   have:=I.bk b o' q;rw[e]at this;cases this;show F.keep b o q
  | none=>show(N _<|VT _<|wX nb q e).1
 have O:∀ b u,H b=some u->b≠X.env.locals:=λb u e z=>by rw[z,I.free]at e;cases e
 show ksk_sorted (b:=false) (kz:=(Tg.map intOf).map λx=>fs.getD x.toNat 0) fr KZ (_,ho,rfl,n,rfl) (by simp) #[4] (by ksk_a1) (λx=>by ksk_a2) (λx=>by ksk_a3) (λi u k hu al h tk ag F N=>?_) (λD h' tk C cn F N lt ko=>?_)
 . have am:=Tv hu;obtain⟨t,ht⟩:=iv.2 u am;have xm:intOf u∈xs:=by rw[← iv.1];show List.mem_map_of_mem am
   have xb:=hb _ xm
   have ek:k=fs.getD (intOf u).toNat 0:=by
    rw[Tw,Tw,hu]at al;show(Ve al).symm
   have M:(intOf u).toNat<B.length:=by lia
   have wf:B[(intOf u).toNat]? =some (B[(intOf u).toNat]'M):=To M;obtain⟨t',af⟩:=Y.2 _ (Tv wf)
   have ew:intOf (B[(intOf u).toNat]'M)=k:=by
    rw[ek,← Y.1,List.getD,Tw,wf];rfl
   rw[ew]at af
   have cL:c'≠X.env.locals:=λz=>by
    obtain⟨_,o,vs,_,e1,g1,d1,_⟩:=Z;cases e1;obtain⟨o2,es,ep,g2,d2,_⟩:=fr.ns;rw[z,g2]at g1;cases g1;rw[d2]at d1;cases d1
   have T:h.IsCell cc ↑Fl:=by
    obtain⟨o,e,d⟩:=S;show(o,c F N _ _ aB e,d)
   rw[ht];show NA (Tg:=B.toArray) (u:=.int k t') (s:={heap:=h,gens:=s.gens,drawn:=s.drawn,toks:=tk,os:=s.os}) hr (c F N _ _ pL pg) ab (jA Z λo e=>c F N _ _ cL e) T (_,c F N _ _ (O _ _ hF) av,rfl,nf,rfl) xb.1 (PX (by rw[Tn]at ae;show ae) xb.2) (by rw[← af];simpa using wf) (I.mod.nolimit.keeps F.keep) (aD _ _) hk ay aA hf hv az aq ar aE λh2 au R=>?_;obtain⟨o,es,ep,g,r⟩:=F.ns;show(h2,au,t',rfl,rfl,((o,es,ep,R _ _ g,r),λb o e=>R _ _<|F.keep b o e,F.above),λp L=>(R _ _ (N p L).1,(N p L).2))
 . obtain⟨P,ap,eo,pw⟩:=ko;have N2:News X.base X.env.locals h' (rC X.base s.heap X.env.locals++[]):=λp L=>N p (TD _ (by simpa using L));have kp:=c F N2;have nd:=N _<|.head _;have aj:∀ b o,b≠X.env.locals->X.base.get? b=none->s.heap.get? b=some o->b<D:=λb o nb q e=>lt _ (wX nb q e)
   have hD:H D=none:=by
    cases q:H D with
    | none=>rfl
    | some u=>
     obtain⟨o,e⟩:=(I.hok D u q).obj;show absurd (aj D o nd.2.1 nd.2.2 e) (UY _)
   have as:∀ b o,s.heap.get? b=some o->b≠D:=λb o e z=>by
    rw[z]at e;show absurd (aj D o nd.2.1 nd.2.2 e) (UY _)
   have G:∀ b u,H b=some u->b≠D:=λb u e z=>by rw[z,hD]at e;cases e
   have j:∀{o:HO} b,b≠D->upd H D o b=H b:=λb z=>ak z
   have aG:∀ m',s.heap.Ns X.env.locals m'->h'.Ns X.env.locals m':=λm' hm=>by
    rw[Pb hm fr.ns];show F.ns
   have J:(P.map λp=>intOf p.2).Perm xs:=by
    have:=ap.map λp=>intOf p.2;rw[HD,iv.1]at this;show this
   have U:∀ p∈P,p.1=fs.getD (intOf p.2).toNat 0/\p.2∈Tg:=λp L=>HC (g:=λx=>fs.getD x.toNat 0)<|ap.mem_iff.mp L;have eq:C.toList.map intOf=P.map λp=>intOf p.2:=by rw[eo,Uq];rfl
   have aw:Vals ((C.toList.map intOf).map V.int) C.toList:=HB λy hy=>by
    rw[eo]at hy;obtain⟨p,L,rfl⟩:=Tz.mp hy;show iv.2 _ (U p L).2
   have Tk:((C.toList.map intOf).map V.int).length<=sizeLine:=by
    rw[Tn,eq,J.length_eq];show Uy (XY ax #[1])
   show h (C.toList.map intOf) D _ (I.step (g':=s.gens) (d':=s.drawn) (t':=tk) (ch:=[]) (λ_ z=>nomatch z) (λb o nL _ _ e _=>kp b o nL e) (λb o nL _ _ e _=>(o.slots,kp b o nL e)) (λb o _ e n=>by rw[j b<|as b o e];show n) (λb o _ e=>?_) (λb ys e=>by rw[j b<|G b _ e];show e) (λb o u e=>by rw[j b<|G b _ e];show e) (λb qs e=>(#[],by rw[j b<|G b _ e,e];simp)) aG (λb u e=>?_) I.bare) hD ?_ ?_
   . by_cases z:b=X.env.locals
     . obtain⟨o2,_,_,g,_⟩:=F.ns;rw[z];show(o2,g)
     . show(o,kp b o z e)
   . by_cases z:b=D
     . rw[z,ah]at e;cases e;rw[z];show(Tk,C.toList,cn,aw,nd.1)
     . rw[j b z]at e;show(I.hok b u e).stay (λd w K g=>kp d w ?_ g) (λd K=>by rw[j d<|G d _ K];show K) λd ys K=>by rw[j d<|G d _ K];show K
       rcases K with rfl | K
       . show O _ _ e
       . show O _ _ K
   . rw[eq];show J
   . rw[eq,W9];show List.Pairwise.imp_of_mem (λ{a b} ha aF r=>?_) pw;rw[← (U a ha).1,← (U b aF).1]
     simpa using r
def TbOk.put{l c:Nat}{q:Str}{P D:Addr}{o:HO}(x:TbOk l c q H P)(d:H D=none):TbOk l c q (upd H D o) P:=by
 rcases x with e | ⟨a,e,b⟩
 . show .inl (by rw[ak (λz=>by rw[z,d]at e;cases e)];show e)
 . show .inr (a,by rw[ak (λz=>by rw[z,d]at e;cases e)];show e,by rw[ak (λz=>by rw[z,d]at b;cases b)];show b)
def  tw(P:Addr)(l c:Nat)(q:Str)(te:TE)(i:Nat):TE:=λσ H Q=>te σ H λv H1=>∃(a F:Addr) (xs d:∅),v=.ref a/\H1 a=↥(xs.map V.int)/\σ[i]? =some ↑F/\H1 F=↥(d.map V.int)/\(∀ x∈xs,0<=x/\x<d.length)/\xs.length<64/\TbOk l c q H1 P/\
 ∀(e:∅) (r:Addr) (b:Hp),H1 r=none->e.Perm xs->e.Pairwise (λx y=>d.getD x.toNat 0<=d.getD y.toNat 0)->SameX P H1 b->TbOk l c q b P->b r=↥(e.map V.int)->Q (.ref r) b
def IG {e:Expr} {te:TE} {p pos G kp S p2 p3:Pos} {F v q:Str} {i:Nat} {E:Arguments} {sc:Scope} {c P:Addr} (aq:Gl X "sorted") (hl:X.mg "sorted"=none) (hr:X.A.depth<recursionLimit) (g:X.env.code=.ref c) (M:PySem.W.CodeHd X.base c P) (ab:X.base.BuiltinsAt X.mg P) (K:mainGlobals≠P) (he:PE X e te) (hN:X.N[i]? =some F) (d:X.env.scope.names.lookup F=some .cell) (hq:X.env.qual++"<lambda>"=q)
  (af:defaultsOf E X.env=([] ,[])) (ag:∀ x,(x ,NameKind.free)∈sc.names->x=F) (am:(F ,NameKind.free)∈sc.names)
  (L:∀ cl pm c' j x t,bindArgs (PySem.W.kla_fn "<lambda>" q E (.Subscript (.Name F S) (.Name v p2) p3) sc cl pm (.ref c') j) ([.int x t],[])=pure [(v ,.int x t)])
  (hk:sc.kind=.function) (aj:sc.isCoroutine=false) (ar:sc.isGenerator=false) (hf:∀ y∈sc.names,y.2≠.cell) (hv:sc.names.lookup v=some .local) (ao:sc.names.lookup F=some .free)
  (J:(F==("__debug__":Str))=false:=by decide) (O:(F==("__classdict__":Str))=false:=by decide) (Y:(v==("__debug__":Str))=false:=by decide)
  (k:starEach [e] X.env=[(false ,eval e X.env)]:=by rfl):
  PE X (.Call (.Name "sorted" p) [e] [(some "key",.Lambda E (.Subscript (.Name F S) (.Name v p2) p3) sc G,kp)] pos) (tw P G.line G.col q te i):=by
 subst hq;intro Tc s σ H Q I h;show U2<|fY I aq hl qf ?_ #[1] #[1];show callWith_builtin_kwB (by rw[k];rfl) rfl ?_;show evalArgs_kw2 rfl ?_ k;rw[k];change wpAny _ _ (spliced [(false ,eval e X.env)]) _ _ s;show Vq<|thn (he Tc s σ H _ I h) λu s1 ⟨x,H1,I1,r1,q1⟩=>?_;show Vx ?_;obtain⟨a,Fl,xs,fs,rfl,ea,eσ,eF,hb,ae,tb,q⟩:=q1;cases r1;change wpAny _ _ (evalAll [eval (.Lambda E (.Subscript (.Name F S) (.Name v p2) p3) sc G) X.env >>= λv=>standAt pos >>= λ_=>pure v]) _ _ s1;show wpAny_evalAll_cons ?_;show Uh ?_;obtain⟨cc,R⟩:=I.ok.has F<|.inl d;show LS I1 g M ab K tb af (λx hx=>by rw[ag x hx];show(cc,R)) λf c' cl pm j H2 s2 U c1 c2 cr C T al=>?_;show Uh<|Xb ?_;show Ux ?_;show wpAny_evalAll_nil ?_;change wpAny _ _ (call (.builtin "sorted") [.ref a] [("key" ,.ref f)]) _ _ s2;obtain⟨cf,n⟩:=c2 F am;have l:=c1 F cf n
 have B:s2.heap.IsCell cf ↑Fl:=by
  obtain⟨m,_,Z⟩:=U.loc;obtain⟨u,r,lk⟩:=Z i F (.ref Fl) hN eσ<|.inr<|.inl d;cases r;rcases lk with ⟨k1,_⟩ | ⟨_,c3,e3,z⟩
  . have k2:X.env.scope.names.lookup F=some .local:=k1;rw[d]at k2;cases k2
  . rw[l]at e3;cases e3;show z
 have nP:∀{b:Addr} {ys:List V},H1 b=↥ys->b≠P:=λw z=>by
  rcases tb with e | ⟨_,e,_⟩ <;> (rw[z,e]at w;cases w)
 show LU U hr (.head _) cr n B (U.cne F cf l) (C _ _ (nP ea) ea) (C _ _ (nP eF) eF) hb ae (L cl pm c' j) hk aj ar hf hv ao J O Y λzs D s' I3 hD ap pw=>?_;show(.ref D,_,I3.pins_of λp hp=>I3.pin p<|UA _<|.tail _ hp,rfl,q zs D _ (al D hD) ap pw (λb o nb w=>?_) (T.put hD) ah);rw[ak (λz=>by have:=C b o nb w;rw[z,hD]at this;cases this)];show C b o nb w
end
def Ky {P:Program} {w:World} {K:Frag} {B mb:Str->Option Value} {CX:CXT} {k:Nat} {fa a:Addr} {fd:FuncData} {x:Str} {sp:Sp} {c:Shared} {vs:List Value} {ns:∅}
  {j:Addr} (KX:K.In c.heap) (I:c.heap.get? j=some (PySem.W.tabObj #[])) (N:K.lookup j=none) (af:isCodeTable c.heap j) (aj:c.heap.BuiltinsAt B j) (S:c.heap.Ns mainGlobals B) (f:c.heap.Ns builtinsNs mb) (ag:∀ x:Str,x≠"__name__"->mb x=bootBuiltins x) (R:c.heap.NoLimit) (hg:c.gens=#[])
  (G:c.heap.get? a=some {cls:=.type "list",data:=.seq vs.toArray}) (hi:IntsAre vs ns) (hl:ns.length<=sizeLine) (hr:Room k callerA)
  (F:∀ l:Heap,K.In l->l.Ns mainGlobals B->l.BuiltinsAt B j->FnOk P w K B l CX k fa fd [x] sp) (D:∀(s:Shared) (u:Value),BindsTo s fd ([u],[]) [(x ,u)])
  (ab:∀ H:Hp,H j=some (.tbl #[])->SqL K H a (ns.map V.int)->sp [.ref a] H (λv _=>v=.bl true) λ_ _ _=>False)
  (ak:∀ H e s',CX [] H c (λ_ _ _=>False) e s'->False):
  codeAny (model P w) callerA (.call (.ref fa) ([.ref a],[])) (λr s'=>r=.ok (.ret<|.bool true)/\OldK c.heap s'.heap/\s'.os=c.os/\AllBare s'.gens) c:=by
 have rv:=uH hi;have M:=hi.length
 have C:∀ H:Hp,(∀ b,H b=none\/(∃ o xs,H b=some (.frz o<|.lst xs))\/b=j)->H j=some (.tbl #[])->SqL K H a (ns.map V.int)->HOk P w H c.heap->(∀ b,H b≠none->b=a\/b=j)->(H a≠none->K.lookup a=none)->
   codeAny (model P w) callerA (.call (.ref fa) ([.ref a],[])) (λr s'=>r=.ok (.ret<|.bool true)/\OldK c.heap s'.heap/\s'.os=c.os/\AllBare s'.gens) c:=by
  intro H hO hT hS T hA hK;have i:∀{b:Addr} {o:Obj},c.heap.get? b=some o->H b=none->(hidT c.heap H).get? b=some o:=λe n=>KY e n
  have al:∀{b:Addr} {o:Obj} {J:Array DictEntry} {E:Nat},c.heap.get? b=some o->o.data=.dict J E->H b=none:=λ{b o J E} e d=>by
   cases q:H b with
   | none=>rfl
   | some u=>
    rcases hA b (by rw[q];simp) with e' | e'
    . subst e';rw[G]at e;cases e;have d':Data.seq vs.toArray _=Data.dict J E:=d;cases d'
    . subst e';rw[I]at e;cases e;have d':Data.fields #[]=Data.dict J E:=d;cases d'
  have t:∀{b:Addr} {m:Str->Option Value},c.heap.Ns b m->(hidT c.heap H).Ns b m:=λ{b m} ⟨o,J,E,e,d,r⟩=>(o,J,E,i e<|al e d,d,r)
  have L:K.In (hidT c.heap H):=λb o e=>i (KX b o e) (by
   cases q:H b with
   | none=>rfl
   | some u=>
    rcases hA b (by rw[q];simp) with e' | e'
    . subst e';rw[hK (by rw[q];simp)]at e;cases e
    . subst e';rw[N]at e;cases e)
  have Z:(hidT c.heap H).BuiltinsAt B j:=by
   obtain⟨bm,o,h1,h2,h3,h4,h5,h6,h7,h8⟩:=aj;show(bm,o,h1,h2,h3,h4,i h5 ?_,h6,h7,h8)
   cases q:H bm with
   | none=>rfl
   | some u=>
    rcases hA bm (by rw[q];simp) with e' | e'
    . subst e';rw[G]at h5;cases h5;cases h8
    . show absurd e' h4
  have hM:Mod K B (hidT c.heap H):=(L,t S,(mb,t f,ag),let ⟨mc,h1,h2⟩:=R;(mc,t h1,h2));have e0:Env0 P w K B (hidT c.heap H) callerA [] c H:=(rfl,hM,λb o e=>Mq e,Nat.le_of_eq<|Ja _ _,trivial,λb f=>absurd (show b∈([]:List Addr) from f) (by simp),T,.of_eq hg);show XT ((F _ L (t S) Z).run callerA [] c H ([.ref a],[]) [.ref a] [.ref a] _ _ hr e0 (D c<|.ref a) (.cons rfl .nil)<|ab H hT hS) λr s' h=>?_
  cases r with
  | error e=>show(ak H e s' h).elim
  | ok fl=>
   cases fl with
   | next=>show False.elim h
   | brk=>show False.elim h
   | cont=>show False.elim h
   | ret u=>
    obtain⟨v,H',os,Q,X,A,r',q⟩:=h;have q':v=.bl true:=q;subst q';obtain rfl:u=Value.bool true:=r'
    have ae:∀ b o,c.heap.get? b=some o->asItWas c.heap s'.heap b o:=λb o e=>by
     cases q:H b with
     | none=>show .inl (X.keep b o e q (by intro z;show absurd (show b∈([]:List Addr) from z) (by simp)) (by simp))
     | some u=>
      rcases hO b with z | ⟨ob,xs,z⟩ | z
      . rw[q]at z;cases z
      . have z2:=X.frzs b ob _ z;obtain⟨e1,_⟩:=T b _ z;obtain⟨e2,_⟩:=A b _ z2;rw[e]at e1;cases e1;show .inl e2
      . subst z;obtain⟨O,em⟩:=X.tbls b _ hT;have g:=A b _ em;rw[I]at e;cases e;show .inr (.inl (af,rfl,#[],O,rfl,g))
    show(rfl,(ae,λb o e=>X.there b o e (by simp)),os,Q)
 cases U:K.lookup a with
 | some o=>
  have e:=KX a o U;rw[G]at e;cases e;show C (λb=>if b=j then some (.tbl #[]) else none) (λb=>?_) (TZ rfl) (.inr (_,vs.toArray,_,U,rfl,rfl,rfl,by rw[T1,M];show hl,by simpa using rv)) (λb u z=>?_) (λb z=>?_) (λz=>?_)
  . by_cases f:b=j
    . show .inr (.inr f)
    . show .inl (TX f)
  . by_cases f:b=j
    . have p:=(TZ f).symm.trans z;cases p;rw[f];show I
    . have p:=(TX f).symm.trans z;cases p
  . by_cases f:b=j
    . show .inr f
    . show absurd (TX f) z
  . have Y:a≠j:=λe=>by rw[e,N]at U;cases U
    show absurd (TX Y) z
 | none=>
  show C (λb=>if b=a then some (.frz {cls:=.type "list",data:=.seq vs.toArray}<|.lst<|ns.map V.int) else if b=j then some (.tbl #[]) else none) (λb=>?_) ?_ (.inl<|.inr ({cls:=.type "list",data:=.seq vs.toArray},TZ rfl)) (λb u z=>?_) (λb z=>?_) λ_=>U
  . by_cases f:b=a
    . show .inr (.inl (_,_,TZ f))
    . by_cases y:b=j
      . show .inr (.inr y)
      . show .inl ((TX f).trans<|TX y)
  . have Y:j≠a:=λe=>by rw[e,G]at I;cases I
    show(TX Y).trans (TZ rfl)
  . by_cases f:b=a
    . have p:=(TZ f).symm.trans z;cases p;subst f;show(G,by rw[Tn];show hl,vs,_,rv,G)
    . by_cases y:b=j
      . have p:=((TX f).trans<|TZ y).symm.trans z;cases p;rw[y];show I
      . have p:=((TX f).trans<|TX y).symm.trans z;cases p
  . by_cases f:b=a
    . show .inl f
    . by_cases y:b=j
      . show .inr y
      . show absurd ((TX f).trans<|TX y) z
def  LV {l:PySem.W.OpenLaw} {n k:Nat} {q:Program} {m:List Str} {XP:(Str->Option Value)->Heap->Prop} {O:World->Heap->Prop} {d:DefRec} {K:Params->Frag} {CX:World->CXT} {sp:World->Sp} {x:Str}
  (hn:l.most=some n) (y:n<=sizeLine) (E:d.params.defaults=[]) (hr:Room k callerA)
  {p c':Addr} (Q:∀(w:World) (h:Heap),O w h->(K w.params).In h/\h.get? p=some (PySem.W.tabObj #[])) (A:∀ w:World,(K w.params).lookup p=none) (D:∀(w:World) (h:Heap),(K w.params).In h->isCodeTable h p)
  (F:∀(w:World) (i:Str->Option Value) (t:Addr) (h:Heap),(K w.params).In h->h.Ns mainGlobals i->i d.name=↑t->
   ∃ B:FuncData,(∀(s:Shared) (u:Value),BindsTo s B ([u],[]) [(x ,u)])/\
    ∀ c:Heap,(K w.params).In c->c.Ns mainGlobals i->c.BuiltinsAt i p->FnOk l.prog w (K w.params) i c (CX w) k t B [x] (sp w))
  (z:∀(w:World) (H:Hp) (a:Addr) (ns:∅),ns.length<=n->H p=some (.tbl #[])->SqL (K w.params) H a (ns.map V.int)->sp w [.ref a] H (λv _=>v=.bl true) λ_ _ _=>False)
  (L:∀(w:World) (H:Hp) (s:Shared) (e:Value) (s':Shared),CX w [] H s (λ_ _ _=>False) e s'->False):
  PySem.W.WalkO q m XP O l.row.toRowW d [] (λf vs=>PySem.call f vs):=by
 show Att.attach_call hn E λw s₀ M i mb t o pm cd S a vs ns G Y ho hd R J r j N hg=>?_;have C:=(Q w _ Y).1;have P:=(Q w _ Y).2;obtain⟨B,Z,hF⟩:=F w i t _ C G.T.g J
 have I:M.heap.BuiltinsAt i p:=by
  obtain⟨bm,ob,h1,h2,h3,h4,h5,h6⟩:=G.T.bmain;show(bm,ob,h1,h2,λe=>?_,λe=>?_,h3,h4,h5,h6)
  . obtain⟨o,es,ep,g,d,_⟩:=G.T.g;rw[e,g]at h3;cases h3;rw[h6]at d;cases d
  . rw[e,P]at h3;cases h3;cases h6
 show Ky C P (A w) (D w _ C) I G.T.g G.T.b G.T.builtins G.T.nolimit hg r j (TU N y) hr hF Z (λH X U=>z w H a ns N X U) λH e s'=>L w H M e s'
def  tabP(K:Frag)(x:Str):Addr:=match PySem.W.tabIn K x with | some (_ ,P)=>P | none=>0
variable{K:Frag}{c P:Addr}
def HE{x:Str}(h:PySem.W.tabIn K x=some (c ,P)):tabP K x=P:=by unfold tabP;rw[h]
structure CdP(K:Frag)(c P:Addr):Prop where
 ex:∃(o:Obj) (vs:Array Value) (file:Str) (tf:Tok) (flags:Int) (tg:Tok) (inF:Bool) (text:Int) (tt:Tok),K.lookup c=some o/\o.cls=.type "code"/\o.data=.fields vs/\vs[11]? =↑P/\vs.getD 11 .none=.ref P/\vs.getD 18 .none=.str file tf/\vs.getD 7 .none=.int flags tg/\vs.getD 9 .none=.bool inF/\vs.getD 10 .none=.int text tt/\c≠P
variable{vs:Array Value}
def  CdP.mk'{o:Obj}{m:Str}{r s q:Tok}{h n:Int}{p:Bool}(a:K.lookup c=some o)(b:o.cls=.type "code")(d:o.data=.fields vs)(e:vs[11]? =↑P)(f:vs.getD 11 .none=.ref P)(g:vs.getD 18 .none=.str m r)(i:vs.getD 7 .none=.int h s)(j:vs.getD 9 .none=.bool p)(k:vs.getD 10 .none=.int n q)(l:c≠P):CdP K c P:=(o,vs,m,r,h,s,p,n,q,a,b,d,e,f,g,i,j,k,l)
def CdP.hd{h:Heap}(x:CdP K c P)(X:K.In h):PySem.W.CodeHd h c P:=by
 obtain⟨o,vs,d,i,b,j,f,e,g,a,r⟩:=x.ex;show(o,vs,d,i,b,j,f,e,g,X _ _ a,r)
def CdP.tab{h:Heap}(x:CdP K c P)(X:K.In h):isCodeTable h P:=by
 obtain⟨o,vs,g,l,f,m,j,i,k,a,b,d,e,_⟩:=x.ex;show(c,o,vs,X _ _ a,b,d,e)
def FA{x:Str}{f:Addr}{cl g:Value}{k d:Option Addr}{i:FuncData}{j h:Array (Option Value)}(a:nsIn K mainGlobals x=some ↑f)(b:K.lookup f=some (cl,k,.func i,j))(e:i.code=.ref c)(l:K.lookup c=some (g,d,.fields vs,h))(v:vs[11]? =↑P):PySem.W.tabIn K x=some (c ,P):=by
 have n:List.lookup f K=some (cl,k,.func i,j):=b;have m:List.lookup c K=some (g,d,.fields vs,h):=l;unfold PySem.W.tabIn;rw[a];simp only[n,e,m,v]
section
variable{Z:Z5}{N ps:List Str}{k:Nat}{sp:Sp}{t:TS}{x qual:Str}{st:Stmt}{c P:Addr}
abbrev HbT(Z:Z5)(N:List Str)(qual:Str)(st:Stmt)(f c:Addr)(k:Nat)(t:TS):Prop:=∀{A:Around} {a:List Env} {s:Shared} {H:Hp} {E:XK},Room k (A.deeper<|envOfC qual (aV st) s.heap.objs.size f<|.ref c)->(A.deeper<|envOfC qual (aV st) s.heap.objs.size f<|.ref c).units+64<cLine->N.Nodup->PSs (cxOf CX0 Z.P Z.w Z.K Z.mg Z.base N qual (aV st) f (.ref c) A a s H E).nox (dk st) t
def vg:∀{l:List (Str × NameKind)} {x:Str} {k:NameKind},l.lookup x=some k->(x ,k)∈l
 | (y ,j)::l,x,k,h=>by
  rw[UO]at h
  split at h
  . rename_i e
    have a:x=y:=by simpa using e
    cases h;rw[a];show .head _
  . show .tail _ (vg h)
def okfT{f:Addr}{p:FuncData}(F:Fun Z.K x x st f p)(a:nsIn Z.K mainGlobals x=some ↑f)(S:kc N ps (aV st))(J:Rk N sp t)(T:PySem.W.tabIn Z.K x=some (c ,P))(C:HbT Z N x st f c k t)(l:Ln ps sp):FnOk Z.P Z.w Z.K Z.mg Z.base CX0 (k+1) f p ps sp:=by
 obtain⟨D,G,v,i,I,y,d,u,n,rfl,m,b⟩:=F.ex;have j:List.lookup f Z.K=some (D,G,.func<|fnOf x x (fH st) (dk st) (aV st) .none v i I y d u,n):=m
 have e:d=.ref c:=by
  unfold PySem.W.tabIn at T;rw[a]at T;simp only[j]at T
  clear m b
  cases d with
  | ref B=>
   dsimp only[fnOf]at T
   cases q:List.lookup B Z.K with
   | none=>rw[q]at T;cases T
   | some o=>
    rw[q]at T;obtain⟨cl,L,z,M⟩:=o
    cases z with
    | fields vs=>
     dsimp only at T
     split at T
     . cases T;rfl
     . cases T
    | _=>cases T
  | _=>cases T
 subst e;show L5 m b S (λ_ _ _ _ h=>l h) λA g s H vs Q E r h=>(t,(C r r.units S.nd).nox,J h)
local macro_rules | `(tactic| walk_at "l")=>`(tactic| (intro vs H Q E h; (repeat obtain ⟨_,h⟩:=h); subst_vars; rfl))
local macro_rules | `(tactic| ac_rfl)=>`(tactic| exact ⟨rfl,rfl,rfl,by decide+kernel,rfl,by decide+kernel,by decide+kernel⟩)
def  okcT(B:Bt3 Z)(D:De Z.K x st)(e:Rk N sp t)(b:Bd x x st ps)(T:PySem.W.tabIn Z.K x=some (c ,P))(g:∀{f},HbT Z N x st f c k t)(S:kc N ps (aV st):=by ac_rfl)(d:Ln ps sp:=by walk_at "l"):Ca9 Z (k+1) x ps sp:=
 let ⟨f,h,a,F⟩:=D.ex
 (f,h,okfT F a S e T g d,B.ns a,F.kp,F.binds b)
def GI {X:Cx} {e:Expr} {te:TE} {p pos z J D G H:Pos} {F v q:Str} {i:Nat} {ps:Arguments} {sc:Scope} (L:PySem.W.tabIn X.K x=some (c ,P)) (w:Gl X "sorted") (M:X.mg "sorted"=none) (R:X.A.depth<recursionLimit) (a:X.env.code=.ref c) (j:PySem.W.CodeHd X.base c P) (n:X.base.BuiltinsAt X.mg P) (g:mainGlobals≠P) (I:PE X e te) (T:X.N[i]? =some F) (k:X.env.scope.names.lookup F=some .cell) (O:X.env.qual++"<lambda>"=q)
  (s:defaultsOf ps X.env=([] ,[])) (b:(sc.names.all λy=>!(y.2==.free)||y.1==F)=true) (E:(sc.names.all λy=>!(y.2==.cell))=true)
  (h:∀ cl Q c' r x t,bindArgs (PySem.W.kla_fn "<lambda>" q ps (.Subscript (.Name F D) (.Name v G) H) sc cl Q (.ref c') r) ([.int x t],[])=pure [(v ,.int x t)])
  (U:sc.kind=.function) (u:sc.isCoroutine=false) (B:sc.isGenerator=false) (S:sc.names.lookup v=some .local) (d:sc.names.lookup F=some .free)
  (f:(F==("__debug__":Str))=false:=by decide) (l:(F==("__classdict__":Str))=false:=by decide) (m:(v==("__debug__":Str))=false:=by decide)
  (C:starEach [e] X.env=[(false ,eval e X.env)]:=by rfl):
  PE X (.Call (.Name "sorted" p) [e] [(some "key",.Lambda ps (.Subscript (.Name F D) (.Name v G) H) sc z,J)] pos) (tw (tabP X.K x) z.line z.col q te i):=by
 rw[HE L];rw[Ty]at b E;show IG w M R a j n g I T k O s (λy o=>?_) (vg d) h U u B (λy o e=>?_) S d f l m C
 . have:=b _ o
   simpa using this
 . have:=E _ o;rw[e]at this;cases this
end
variable{l:∅}
def Kz{k:Nat}(h:k<l.length):l.getD k 0∈l:=by
 rw[List.getD,To h];show T0 h
def KA(xs cs:∅)(m:Int):(((sgAt xs cs).filter λy=>decide<|y=m).length:Int)=((mkAt xs cs m).length:Int):=by
 unfold sgAt mkAt;rw[Vw,Tn];rfl
def  lH(l:∅)(i:Nat):Bool:=decide ((i:Int)=0)||decide (maxI (l.take i)<l.getD i 0)
def FC(c:Nat->Int):∀ k,argBest (λi j=>decide<|c i>c j) k<=k/\∀ j,j<=k->c j<=c (argBest (λi j=>decide<|c i>c j) k)
 | 0=>(TQ _,λj d=>by rw[show j=0 by lia];show W8 _)
 | k+1=>by
  obtain⟨a,b⟩:=FC c k;rw[argBest];by_cases h:c (k+1)>c (argBest (λi j=>decide<|c i>c j) k)
  . rw[TZ<|Tp h];show(TQ _,λj d=>?_);by_cases e:j=k+1
    . rw[e];show W8 _
    . have:=b j #[4];lia
  . rw[TX (by simpa using h)];show(by lia,λj d=>?_);by_cases e:j=k+1
    . rw[e];lia
    . show b j #[4]
def PP(h:l≠[])(x:Int):maxI l<x↔∀ y∈l,y<x:=by
 have g:0<l.length:=Vl.mpr h;obtain⟨a,b⟩:=FC (λi=>l.getD i 0)<|l.length-1;unfold maxI;generalize argBest (λi j=>decide<|l.getD i 0>l.getD j 0) (l.length-1)=k at*;constructor
 . intro c y f;obtain⟨j,d,rfl⟩:=Vy.mp f;have:=b j #[4];have e:l.getD j 0=l[j]:=by rw[List.getD,To d];rfl
   simp only[e]at this;lia
 . intro c;show c _ (Kz #[4])
def LW{i:Nat}{x:Int}(a:l[i]? =some x):lH l i=decide (∀ y∈l.take i,y<x):=by
 have e:l.getD i 0=x:=by rw[List.getD,a];rfl
 unfold lH;rw[e];by_cases h:i=0
 . subst h;simp
 . have b:=(Tr.mp a).1;rw[Tq #[4],UH,Up,VP,VP];show PP (by intro e;have:=congrArg List.length e;rw[Uu,XC]at this;lia) x
def KC{l:∅}(h1:∀ y∈l,1<=y):∀ i,i<=l.length->(((List.range i).filter<|lH l).length:Int)=(seenN<|l.take i).2
 | 0,_=>rfl
 | i+1,hi=>by
  have b:=KC h1 i #[4];have a:l[i]? =some l[i]:=To #[4];have c:l.take (i+1)=l.take i++[l[i]]:=by rw[VX,a];rfl
  rw[c,J2<|h1 _<|T0 _,UQ,Us,TJ,Int.natCast_add,b,Um,LW a];by_cases h:∀ y∈l.take i,y<l[i]
  . rw[TZ h,Tp h];rfl
  . rw[TX h,Tq h];rfl
variable{q:Str}{H H':Hp}{P:Addr}
def TbOk.same{l c:Nat}(x:TbOk l c q H P)(s:Same H H'):TbOk l c q H' P:=by
 rcases x with e | ⟨a,e,b⟩
 . show .inl (s _ _ e)
 . show .inr (a,s _ _ e,s _ _ b)
def  TbOk.ne{l c:Nat}{b:Addr}{xs:List V}(x:TbOk l c q H P)(e:H b=↥xs):b≠P:=λz=>by
 rcases x with a | ⟨_,a,_⟩ <;> (rw[z,a]at e;cases e)
def  SameX.of(s:Same H H'):SameX P H H':=λa o _ e=>s a o e
def  SameX.trans{H1 c:Hp}(a:SameX P H H1)(b:SameX P H1 c):SameX P H c:=λx o n e=>b x o n (a x o n e)
structure Rw53(H:Hp)(f:Addr)(h w g:Int)(fl:∅):Prop where
 F:FlOk h w g
 f:H f=↥(fl.map V.int)
 fll:fl.length=(h*w).toNat
 sg:∀ x∈fl,1<=x/\x<=g
 m1:1<=h*w
variable{f:Addr}{h w g:Int}
def  Rw53.same{fl:∅}(X:Rw53 H f h w g fl)(s:Same H H'):Rw53 H' f h w g fl:=(X.F,s _ _ X.f,X.fll,X.sg,X.m1)
def lI:d:=#[3,∃ b a,vs=[.int b,.int a]/\0<=a/\a<=16/\
 ∀(l:Addr) (H':Hp) (cs:List Nat),Same H H'->H l=none->H' l=↥(nsV cs)->cs.Nodup->(∀ c∈cs,(c:Int)<a)->(cs.length:Int)=a->Q (.ref l) H']
def lJ:a:=#[":gl~Ya1ch#2 gltch#3 gG~sa1ch#4 *ObK~k3aObK}y2adTd^0dA4ef#2 rza2ccci3"]
variable{K:Frag}{vs:List V}{Q:VK}{E:XK}
def Ah:R "'number 'many 'left 'found 'k" lI lJ K:=by
 obtain⟨k,a,rfl,N,S,q⟩:=h;exists lJ;show(a,rfl,by lia,by lia,λL z=>?_);obtain⟨H1,F,s1,C⟩:=bp (.lst<|(rngL 0 a).map V.int) z;rw[F];exists(ba #[1],λR l=>?_);have g:R≠L:=λe=>by rw[e,C]at l;cases l
 show(a,rfl,by lia,by lia,?_)
 show qd (λi σ H'=>∃(t:Option V) (b d:∅),σ=[⇑k,⇑a,↑L,↑R,t]/\Same H H'/\H' L=↥(d.map V.int)/\H' R=↥(b.map V.int)/\(b++d).Perm (rngL 0 a)/\b.length=i)
  (none,[],rngL 0 a,rfl,s1.laid l,by rw[ak g.symm];show C,by rw[ah];rfl,List.Perm.refl _,rfl) ?_ ?_
 . rintro i σ r O ⟨t,b,d,rfl,u,e1,e2,o,s⟩;have J:=o.length_eq;rw[TJ,jH]at J;exists(bB e2,bB e1,(by lia,by lia),?_);rw[bh e1,Tn];have f:0 < (d.length:Int):=by lia
   generalize k / (0+(i:Int)+2)=y at*;have D:=U5 y<|Int.ne_of_gt f;have P:=US y f;show(f,?_);generalize y % (d.length:Int)=j at*;have w:j.toNat<d.length:=by lia
   show MQ e1 D (by rw[Tn];lia) (y:=V.int d[j.toNat]) (by rw[Tw,To w];rfl) ?_;have p:(upd r L<|.lst<|(d.map V.int).eraseIdx j.toNat) R=↥(b.map V.int):=by rw[ak g];show e2
   symm;rw[gJ p];show(by rw[Tn];show aH #[4],_,b++[d[j.toNat]],d.eraseIdx j.toNat,rfl,(u.own z).own<|s1.free l,?_,?_,?_,by simp[s])
   . rw[ak g.symm,ah,Cu]
   . rw[ah];simp
   . have G:=zv d j.toNat w;have M:=List.Perm.append_left b G;show List.Perm.trans ?_ o;rw[UR];show M
 . rintro σ r ⟨t,b,d,rfl,u,e1,e2,o,s⟩;symm;have v:(b++d).Nodup:=o.nodup_iff.mpr<|JR a;have B:∀ x∈b,0<=x/\x<a:=λx m=>we (o.mem_iff.mp<|Ud.mpr<|.inl m)
   have A:(b.map Int.toNat).map (λ(n:Nat)=>(n:Int))=b:=by
    rw[Uq]
    conv=>rhs;rw[← W0 b]
    show Vd λx m=>by have:=B x m;change((x.toNat:Nat):Int)=x;lia
   show q R r (b.map Int.toNat) u (s1.free l) (by unfold nsV;rw[A];show e2) ?_ ?_ ?_
   . have h1:=(VS.mp v).1;rw[← A]at h1;show uU _ h1
   . intro c I;obtain⟨x,m,rfl⟩:=Tz.mp I;have:=B x m;lia
   . rw[Tn,s];lia
abbrev PY:Str:="_law_rule.<locals>.<lambda>"
abbrev jo(K:Frag)(H:Hp):Prop:=TbOk 706 54 PY H (tabP K "_law_rule")
abbrev FD(K:Frag)(H H':Hp):Prop:=SameX (tabP K "_law_rule") H H'
structure LR.Ok55(x:LR)(h w g:Int):Prop where
 ha:allK x.k=false
 k0:x.k≠.Rule
 n9:x.n<=99
 m0:1<=(x.m:Int)
 m1:(x.m:Int)<=g
 Y:Cs58 h w x.ns
def  LR.rr55(x:LR):RR:=(x.k,if numK x.k then x.n else 0,if sgnK x.k then x.m else 0,x.ns,aU x.ns)
variable{x:LR}
def LR.rr55_ok(F:FlOk h w g)(O:x.Ok55 h w g):x.rr55.Ok h w g:=by
 unfold LR.rr55;show Iu F O.Y.ne O.Y.lt O.Y.nd O.Y.len O.ha O.k0 ?_ (λe=>by rw[e];rfl) (λe=>by rw[TZ e];show(O.m0,O.m1)) (λe=>by rw[e];rfl)
 split
 . show O.n9
 . decide
variable{xs:∅}
def LR.met55(O:x.Ok55 h w g):hoB x.k h w (aU x.ns) x.n x.m xs=hoB x.rr55.k h w x.rr55.cs x.rr55.n x.rr55.m xs:=by
 have a:=O.ha;have k0:=O.k0;unfold LR.rr55
 cases e:x.k <;> rw[e]at a k0 <;> first
  | rfl
  | show absurd rfl k0
  | (cases a;done)
def  wq(K:Frag)(Q:VK)(H:Hp)(h w g:Int):Prop:=∀(T C:Addr) (x:LR) (H':Hp),FD K H H'->jo K H'->H T=none->H C=none->x.Ok55 h w g->IsLR H' T C x->Q (.ref T) H'
def mC:d:=#[3,∃ f h w g y fl,vs=[.int g,.ref f,.int y]/\Rw53 H f h w g fl/\jo K H/\wq K Q H h w g]
def IH:a:=#[":npd[b~hdk16x&--1 ub5h#1 Ddk21*ObK~k5a6co"]
def eu:a:=#[":iNa4a9a8a3c"]
def gn:a:=#[":gnpdsb4evw`0lrzax&--7 ~sarza7cch#1 Ipdsb1ef#0 pd>dk21r'Ea~b~c2~p/1c1ch#9 o}zb",s!"seen"]
def gp:a:=#[":gnpdsb4evw`0lr~Ka7ch#9 o}Ab",s!"sum"]
def gq:a:=#[":glx&--1 ub3h#1 Ddk21h#7 gldAef#1 dTd^2ef#6 0h#8 glrzax&--8 ub7h#1 pdsb121ch#9 }Bb"]
def gr:a:=#[":gnpdsb4evw`0l}C}Db}E#706 #54 `13#1 h#3 o}Fb",s!"rising","_law_rule.<locals>.<lambda>"]
def gt:a:=#[":gnpd[bF4Naevw`0aevw`1cgltch#5 gGub3h#6 }Gbl5h#3 o}Hb",s!"unlike",s!"rising"]
def mD:a:=#[":gl~b~c,}Ibad^2ef#18 arza1cc~p/dAef#1 dTd^2ef#90 rza1ch#3 gldktaevw`0aevw`1aevw`2aevw`3aevw`4aevw`3cdT2ef#6 h#4 }Jb",s!"unlike",s!"sum",s!"rising",s!"count",s!"seen"]
section
variable{K:Frag}{H H0:Hp}{Q:VK}{f C S:Addr}{k:RK}{h w g m y:Int}{fl:∅}{cs:List Nat}{v5 v6:Option V}
def II{n:Nat}(s:FD K H0 H)(T:jo K H)(l:H0 C=none)(Y:Cs58 h w cs)(j:allK k=false)(k0:k≠.Rule)(m0:1<=m)(r:m<=g)(i:n<=99)(p:H C=↥((aU cs).map V.int))(q:wq K Q H0 h w g){v0 v1 v2 v7:Option V}:
  eu K (eD9 Q) [v0,v1,v2,↑C,some<|.str<|tx<|nmC k,v5,v6,v7,⇑m,⇑(n:Int)] H:=by
 unfold eu;exists(lnR rfl,λt a=>?_);have c:=(Tu H).laid (o:=.tup [.str<|tx<|nmC k,.int (n:Int),.int m,.ref C]) a
 have b:H0 t=none:=by
  cases e:H0 t with
  | none=>rfl
  | some o=>
   have f:t≠tabP K "_law_rule":=λz=>by
    rcases T with d | ⟨_,d,_⟩ <;> (rw[z,d]at a;cases a)
   rw[s t o f e]at a;cases a
 show q t C (k,n,m.toNat,cs) _ (s.trans<|.of c) (T.same c) b l (j,k0,i,by change(1:Int)<=((m.toNat:Nat):Int);lia,by change((m.toNat:Nat):Int)<=g;lia,Y) (?_,c _ _ p);rw[ah];change _=some (HO.tup [.str<|tx<|nmC k,.int (n:Int),.int ((m.toNat:Nat):Int),.ref C]);rw[show((m.toNat:Nat):Int)=m by lia]
def FE{n:Nat}(X:Rw53 H f h w g fl)(s:FD K H0 H)(T:jo K H)(p:H0 C=none)(Y:Cs58 h w cs)(B:allK k=false)(k0:k≠.Rule)(m0:1<=m)(r:m<=g)(J:n<=99)(o:H C=↥((aU cs).map V.int))(e:H S=↥((sgAt fl<|aU cs).map V.int))(q:wq K Q H0 h w g):
  gp K (eD9 Q) [⇑g,↑f,⇑y,↑C,some<|.str<|tx<|nmC k,v5,v6,↑S,⇑m,⇑(n:Int)] H:=by
 have F:=X.F;have g6:=F.g1;have cl:=Y.len;have sl:(sgAt fl<|aU cs).length=cs.length:=by unfold sgAt aU;rw[Tn,Tn]
 have v:∀ x∈sgAt fl (aU cs),1<=x/\x<=6:=λx b=>by
  unfold sgAt at b;obtain⟨c,L,rfl⟩:=Tz.mp b;have:=Lx Y X.fll X.sg L;lia
 unfold gp;rw[aC,aA];generalize a:gn K=W at*;symm;rw[PK];by_cases e1:k=.Sum
 . rw[Tp e1];show iteT ?_;symm;have sm:=EZ (sgAt fl<|aU cs) λx b=>by have:=v x b;lia
   show zl e (λx b=>by have:=v x b;lia) #[4] ?_;symm;subst a;unfold gn;rw[aC,aA];generalize a:eu K=W at*;symm;rw[Ki,e1,Tq (show ¬ RK.Sum=RK.Seen by decide)];show iteF ?_;symm;subst a;have z:=II (k:=.Sum) (n:=(sgAt fl<|aU cs).sum.toNat) (v5:=v5) (v6:=v6) (v0:=⇑g) (v1:=↑f) (v2:=⇑y) (v7:=↑S) s T p Y rfl #[1] m0 r #[4] o q;rw[show(((sgAt fl<|aU cs).sum.toNat:Nat):Int)=(sgAt fl<|aU cs).sum by lia]at z;show z
 . rw[Tq e1];show iteF ?_;symm;subst a;unfold gn;rw[aC,aA];generalize a:eu K=W at*;symm;rw[Ki];by_cases t:k=.Seen
   . rw[Tp t];show iteT ?_;symm;rw[bh e,Tn];show(_,rfl,by lia,by lia,?_);rw[Ui];show mO (λi=>lH (sgAt fl<|aU cs) i) (λ(i:Nat)=>(0:Int)+(i:Int)) #[4] ?_ ?_ ?_
     . intro i u U D j k5;change tOr _ _ [none,⇑(0+(i:Int)),↑S] u U;rw[WL];symm;unfold lH at k5;by_cases d:(i:Int)=0
       . show gE (Tp d) ?_;rw[Tp d,VM]at k5;show k5 _ (Tu _)
       . show iS (Tq d) ?_;rw[Tq d,UH]at k5;show ixI (j _ _ e) #[4] #[4] ?_;rw[Ui];exists qg (j _ _ e) λZ O=>?_;rw[Oz V.int];obtain⟨H6,E,I,G⟩:=bp (.lst<|((sgAt fl<|aU cs).take i).map V.int) O;rw[E];show JZ G (by rw[Uu];lia) ?_;exists k5 _ I
     . intro i u Q5 D M j k5;show oF rfl (k5 _<|Tu _)
     . intro A H3 hA l P;have R:=Ue (lH<|sgAt fl<|aU cs)<|List.range (sgAt fl<|aU cs).length;rw[UG]at R;rw[bh P,Tn,Tn];generalize ((List.range (sgAt fl<|aU cs).length).filter<|lH<|sgAt fl<|aU cs).length=N at*;symm;subst a;show II (s.trans<|.of l) (T.same l) p Y B k0 m0 r #[4] (l _ _ o) q
   . rw[Tq t];show iteF ?_;symm;subst a;show II s T p Y B k0 m0 r J o q
def vh{v7 B z:Option V}(X:Rw53 H f h w g fl)(s:FD K H0 H)(T:jo K H)(u:H0 C=none)(Y:Cs58 h w cs)(t:allK k=false)(k0:k≠.Rule)(j:H C=↥((aU cs).map V.int))(q:wq K Q H0 h w g):
  gq K (eD9 Q) [⇑g,↑f,⇑y,↑C,some<|.str<|tx<|nmC k,v5,v6,v7,B,z] H:=by
 have cl:=Y.len;have J:=X.F.g0;unfold gq;generalize v:gp K=W at*;exists((_,TW j),?_);show bE (λ_=>true) (λx=>fl.getD x.toNat 0) (by unfold aU;rw[Tn];lia) (TW j) ?_ ?_ ?_
 . intro x d n i c k4;show k4 _ (Tu _)
 . intro x d m i l c k4;change tOp cIx _ _ [none,⇑x,↑f] d m;symm;have b:=Lx Y X.fll X.sg i;show ixI (c _ _ X.f) b.1 b.2.1 (k4 _<|Tu _)
 . intro S r D p e;have e:r S=↥((sgAt fl<|aU cs).map V.int):=by rw[VG.mpr<|λ_ _=>rfl]at e;show e
   have G:(sgAt fl<|aU cs).length=cs.length:=by unfold sgAt aU;rw[Tn,Tn]
   symm;have I:=U5 (y/6) (show g≠0 by lia);have E:=US (y/6) (show 0<g by lia);show((by decide,by decide),by lia,?_);generalize y/6%g=sg at*;exists((_,TW e),?_);show bE (λx=>decide<|x=1+sg) (λx=>x) #[4] (TW e) ?_ ?_ ?_
   . intro x d n i c k4;change tTest _ [none,⇑x,⇑(1+sg)] d n;exists k4 _ (Tu _)
   . intro x d m i l c k4;change tVar 1 [none,⇑x,⇑(1+sg)] d m;exists k4 _ (Tu _)
   . intro A d M c o;rw[VO]at o;have L:=Ue (λx=>decide<|x=1+sg)<|sgAt fl<|aU cs;generalize (sgAt fl<|aU cs).filter (λx=>decide<|x=1+sg)=ds at*;symm;rw[bh o,Tn];symm;subst v;have a:=p.trans c;show FE (X.same a) (s.trans<|.of a) (T.same a) u Y t k0 #[4] #[4] #[4] (a _ _ j) (c _ _ e) q
def Pc(k:RK):decide (tx (nmC k)=tx s!"rising")=decide (k=.Rising):=by cases k <;> decide+kernel
def vi{v7 M L:Option V}(X:Rw53 H f h w g fl)(s:Same H0 H)(T:jo K H)(J:H0 C=none)(Y:Cs58 h w cs)(m:allK k=false)(k0:k≠.Rule)(o:H C=↥((aU cs).map V.int))(q:wq K Q H0 h w g):
  gr K (eD9 Q) [⇑g,↑f,⇑y,↑C,some<|.str<|tx<|nmC k,v5,v6,v7,M,L] H:=by
 have cl:=Y.len;have P:(aU cs).length=cs.length:=by unfold aU;rw[Tn]
 unfold gr;rw[aC,aA];generalize p:gq K=W at*;symm;rw[Pc];by_cases e:k=.Rising
 . rw[Tp e];show iteT ?_;unfold tw;show oF (v:=V.ref C) rfl ?_;show(C,f,aU cs,fl,rfl,o,rfl,X.f,λx i=>?_,by lia,T,λa r B I l R j u N=>?_)
   . have b:=Lx Y X.fll X.sg i;show(b.1,b.2.1)
   . have O:∀ z∈a,0<=z:=λz E=>(EY<|l.mem_iff.mp E).1
     have A:aU (a.map Int.toNat)=a:=by
      unfold aU;rw[Uq]
      conv=>rhs;rw[← W0 a]
      show Vd λx i=>by have:=O x i;change((x.toNat:Nat):Int)=x;lia
     have d:(a.map Int.toNat).Perm cs:=by
      have:=l.map Int.toNat;unfold aU at this;rw[Uq]at this
      have e2:cs.map (Int.toNat ∘ λ(n:Nat)=>(n:Int))=cs:=by
       conv=>rhs;rw[← W0 cs]
       show Vd λx _=>by change((x:Int)).toNat=x;lia
      rw[e2]at this;show this
     have G:Cs58 h w (a.map Int.toNat):=(λe=>Y.ne (List.Perm.nil_eq<|e ▸ d).symm,d.nodup_iff.mpr Y.nd,λc D=>Y.lt c<|d.mem_iff.mp D,by rw[d.length_eq];show Y.len);subst p;have t:Rw53 B f h w g fl:=(X.F,j _ _ (T.ne X.f) X.f,X.fll,X.sg,X.m1);show vh t ((SameX.of s).trans j) u (s.free I) G m k0 (by rw[A];show N) q
 . rw[Tq e];show iteF ?_;symm;subst p;show vh X (.of s) T J Y m k0 o q
def NB {D:Ends} {R:Addr} {a:List Nat} {n:Nat} {v0 v2 k h v7 j i:Option V} (p:H f=↥(fl.map V.int)) (c:H R=↥((aU a).map V.int)) (w:a.length<=16) (r:∀ x∈a,x<fl.length) (y:n<fl.length)
  (k1:∀ H',Same H H'->D.nx [v0,↑f,v2,k,h,↑R,⇑(n:Int),v7,j,i] (upd H' R<|.lst<|(aU<|a++[n]).map V.int))
  (k2:a≠[]->∀ H',Same H H'->D.nx [v0,↑f,v2,k,h,↑R,⇑(n:Int),v7,j,i] H'):
  IH K D [v0,↑f,v2,k,h,↑R,⇑(n:Int),v7,j,i] H:=by
 unfold IH;rw[aA];exists ixI p #[4] #[4] ?_;show((_,TW c),?_);show bE (λ_=>true) (λx=>fl.getD x.toNat 0) (by unfold aU;rw[Tn];lia) (TW c) ?_ ?_ ?_
 . intro x q u l o k4;show k4 _ (Tu _)
 . intro x q t l s o k4;change tOp cIx _ _ [none,⇑x,↑f] q t;symm;have m:=EY l;have:=r _ m.2;show ixI (o _ _ p) m.1 #[4] (k4 _<|Tu _)
 . intro S g v b d;have d:g S=↥((sgAt fl<|aU a).map V.int):=by rw[VG.mpr<|λ_ _=>rfl]at d;show d
   rw[HZ d,Ui];by_cases h1:fl.getD n 0∈sgAt fl (aU a)
   . rw[Tp h1];exists k2 (λe=>?_) g b;rw[e]at h1;cases h1
   . rw[Tq h1];exists(bB<|b _ _ c,?_);rw[gJ<|b _ _ c];show(by rw[Tn];unfold aU;rw[Tn];show aH #[4],?_);have:=k1 g b;unfold aU at this ⊢;rw[UJ,UJ]at this;show this
def FG(X:Rw53 H f h w g fl)(s:Same H0 H)(T:jo K H)(hC:H0 C=none)(Y:Cs58 h w cs)(I:allK k=false)(k0:k≠.Rule)(D:H C=↥((aU cs).map V.int))(q:wq K Q H0 h w g):
  gt K (eD9 Q) [⇑g,↑f,⇑y,↑C,some<|.str<|tx<|nmC k,none,none,none,none,none] H:=by
 have cl:=Y.len;have il:(aU cs).length=cs.length:=by unfold aU;rw[Tn]
 unfold gt;rw[aC,aA];generalize M:gr K=W at*;generalize N:IH K=U at*;exists(lnR rfl,λm E=>?_);have l:Same H (upd H m<|.tup<|[tx s!"unlike",tx s!"rising"].map V.str):=(Tu H).laid E;have z:(upd H m<|.tup<|[tx s!"unlike",tx s!"rising"].map V.str) m=some (.tup<|[tx s!"unlike",tx s!"rising"].map V.str):=ah;change cIn K false (V.str<|tx<|nmC k) (V.ref m) (upd H m<|.tup<|[tx s!"unlike",tx s!"rising"].map V.str) _;generalize upd H m (.tup<|[tx s!"unlike",tx s!"rising"].map V.str)=H1 at*;rw[OX z,PJ]
 cases hu:unrK k with
 | false=>
  show(false,rfl,iteF ?_);symm;subst M;show vi (X.same l) (s.trans l) (T.same l) hC Y I k0 (l _ _ D) q
 | true=>
  show(true,rfl,iteT ?_);exists(ba #[1],λR F=>?_);have s6:Same H1 (upd H1 R<|.lst []):=(Tu H1).laid F;have O:(upd H1 R<|.lst []) R=↥((aU []).map V.int):=ah;have J:H R=none:=l.free F;generalize upd H1 R (.lst [])=H2 at*;have p:=l.trans s6;show((_,TW<|p _ _ D),?_);subst N;have G:=λc o=>Y.lt c o;have ab:=X.fll;show bI (K:=K) (xs:=(aU cs).map V.int) (λi σ H'=>∃(j:Option V) (b:List Nat),σ=[⇑g,↑f,⇑y,↑C,some<|.str<|tx<|nmC k,↑R,j,none,none,none]/\Same H H'/\H' R=↥((aU b).map V.int)/\b.Sublist (cs.take i)/\(0<i->b≠[])) (_,[],rfl,p,O,List.nil_sublist _,(λh=>absurd h<|UY _)) (λi σ H' _ ⟨_,_,_,s,_⟩=>TW<|s _ _ D) ?_ ?_
  . rintro i v σ Z hv ⟨j,b,rfl,e,d,a,B⟩;obtain⟨c,o,rfl⟩:=aI hv
    have u:∃ n,cs[i]? =some n/\c=(n:Int):=by
     unfold aU at o;rw[Tw]at o;obtain⟨n,t,rfl⟩:=UL.mp o;show(n,t,rfl)
    obtain⟨n,t,rfl⟩:=u;have P:b.length<=16:=TU a.length_le (by rw[Uu];lia);have A:∀ x∈b,x<fl.length:=λx hx=>by have:=G x<|VU<|a.subset hx;lia
    have L:cs.take (i+1)=cs.take i++[n]:=by rw[VX,t];rfl
    rw[aZ];show NB (e _ _ X.f) d P A (by have:=G n<|Tv t;lia) (λH4 r=>?_) (λh0 H4 r=>?_)
    . show(_,b++[n],rfl,(e.trans r).own J,ah,by rw[L];show a.append<|List.Sublist.refl _,(λ_=>by simp))
    . show(_,b,rfl,e.trans r,r _ _ d,a.trans (by rw[L];show List.sublist_append_left _ _),(λ_=>h0))
  . rintro σ Z ⟨j,b,rfl,e,d,a,B⟩;rw[Tn,il]at a B;rw[UF]at a;have S:=Vl.mpr Y.ne;symm;subst M;show vi (X.same e) (s.trans e) (T.same e) (s.free J) (Y.sub a<|B S) I k0 d q
end
def  lin55:List RK:=[.Unlike,.Sum,.Rising,.Count,.Seen,.Count]
def LX{j:Int}(b:0<=j)(a:j<6):∃ k:RK,allK k=false/\k≠.Rule/\atI (lin55.map λk=>V.str<|tx<|nmC k) j=some (V.str<|tx<|nmC k):=by
 have e:j=0\/j=1\/j=2\/j=3\/j=4\/j=5:=by lia
 rcases e with rfl | rfl | rfl | rfl | rfl | rfl
 . show(.Unlike,rfl,by decide,rfl)
 . show(.Sum,rfl,by decide,rfl)
 . show(.Rising,rfl,by decide,rfl)
 . show(.Count,rfl,by decide,rfl)
 . show(.Seen,rfl,by decide,rfl)
 . show(.Count,rfl,by decide,rfl)
def BN:R "'signs 'filling 'cell 'order_here 'word 'some 'spot 'told 'sign 'number" mC mD K:=by
 obtain⟨f,h,w,g,y,fl,rfl,X,T,q⟩:=h;have u:=X.fll;have I:=X.F.m;have J:=X.m1;ac_nf;unfold mD;generalize G:gt K=W at*;symm;rw[bh X.f,Tn];show((by decide,by decide),?_);show(_,_,rfl,by lia,by lia,λO l cs d M C D A v=>?_);have N:=U5 (y/90) (show(fl.length:Int)≠0 by lia);have L:=US (y/90) (show 0 < (fl.length:Int) by lia);symm;rw[bh<|d _ _ X.f,Tn];show((by decide,by decide),?_);exists(by lia,?_);generalize y/90 % (fl.length:Int)=x at*;show qg C λn b=>?_;rw[yp _ #[4],LG];obtain⟨H4,z9,s4,e4⟩:∃ z,upd l n (.lst (nsV (cs.take (1+x).toNat)))=z/\Same l z/\z n=↥((aU (cs.take (1+x).toNat)).map V.int):=bp _ b;rw[z9];have o:(cs.take (1+x).toNat).length=(1+x).toNat:=by rw[Uu];lia
 have Y:Cs58 h w (cs.take (1+x).toNat):=(λe=>by rw[e]at o;simp at o;lia,D.sublist<|List.take_sublist _ _,λc t=>by have:=A c<|VU t;lia,by lia);generalize cs.take (1+x).toNat=ds at*;exists(lnR rfl,λU p=>?_);have i:Same H4 (upd H4 U<|.lst<|lin55.map λk=>V.str<|tx<|nmC k):=(Tu H4).laid p;have s:(upd H4 U<|.lst<|lin55.map λk=>V.str<|tx<|nmC k) U=↥(lin55.map λk=>V.str<|tx<|nmC k):=ah;show(by decide,?_);change cIx (V.ref U) (V.int<|y%6) (upd H4 U<|.lst<|lin55.map λk=>V.str<|tx<|nmC k) _;generalize upd H4 U (.lst<|lin55.map λk=>V.str<|tx<|nmC k)=H5 at*;obtain⟨k,B,k0,r⟩:=LX (j:=y%6) (U5 _ #[1])<|US _ #[1];show ixL s r ?_;have a:=(d.trans s4).trans i;subst G;show FG (X.same a) a (T.same a) (d.free b) Y B k0 (i _ _ e4) q
def mE:d:=#[3,∃ T C x h w g,vs=[.ref T]/\FlOk h w g/\IsLR H T C x/\x.Ok55 h w g/\∀ H',Same H H'->Q (.str x.rr55.txt) H']
def gu:a:=#[":iOb~Z}Kevw`0adAta1cx&-- ubdA54h#1 Dr}La1cc",[32]]
def gw:a:=#[":gl}M}N`01h#5 }Ob",[((tC<|.str<|tx s!"unlike") ,(tLst tNil)),((tC<|.str<|tx s!"rising") ,(tLst tNil)),((tC<|.str<|tx s!"sum") ,(tLst<|tCons (tVar 2) tNil)),((tC<|.str<|tx s!"seen") ,(tLst<|tCons (tVar 2) tNil)),((tC<|.str<|tx s!"count") ,(tLst<|tCons (tVar 2)<|tCons (tVar 3) tNil))]]
def mF:a:=#[":gl0Vb#4 Ch#1 Ch#2 Ch#3 Ch#4 W}Pb"]
variable{C:Addr}
def FH{g:Addr}{a:List Nat}{k:RK}{cs:List Nat}{v0 v2 A:Option V}(v:H C=↥((iN cs).map V.int))(y:H g=↥((iN a).map V.int))(r:∀ c∈cs,c<100)(B:∀ c∈a,c<100)(cl:cs.length<=16)(E:a.length<=2)(q:∀ H',Same H H'->Q (.str<|tx<|catL 32 (nmC k::(a++cs).map numC)) H'):
  gu K (eD9 Q) [v0,some<|.str<|tx<|nmC k,v2,A,↑C,↑g] H:=by
 unfold gu;exists(L8,lnR rfl,λe w=>?_);obtain⟨H1,z9,s1,eW⟩:∃ z,upd H e (.lst [V.str (tx (nmC k))])=z/\Same H z/\z e=↥((([nmC k]:List (List Nat)).map tx).map V.str):=bp _ w;rw[z9];show rJ (s1 _ _ y) (s1 _ _ v) (by unfold iN;simp;lia) λY D=>?_;have i:Same H1 (upd H1 Y<|.lst<|(iN a).map V.int++(iN cs).map V.int):=(Tu H1).laid D;have j:(upd H1 Y<|.lst<|(iN a).map V.int++(iN cs).map V.int) Y=↥(((a++cs).map λ(n:Nat)=>(n:Int)).map V.int):=by rw[ah];unfold iN;simp
 generalize upd H1 Y (.lst<|(iN a).map V.int++(iN cs).map V.int)=H2 at*;show(Y,rfl,(_,TW j),?_);show JS j (by simp;lia) (λc h=>(Ud.mp h).elim (B c)<|r c) λl b G f p=>?_;exists rJ ((i.trans f) _ _ eW) p (by simp;lia) λZ s=>?_;have u:Same b (upd b Z<|.lst<|(([nmC k]:List (List Nat)).map tx).map V.str++(((a++cs).map numC).map tx).map V.str):=(Tu b).laid s;have o:(upd b Z<|.lst<|(([nmC k]:List (List Nat)).map tx).map V.str++(((a++cs).map numC).map tx).map V.str) Z=↥(((nmC k::(a++cs).map numC).map tx).map V.str):=by rw[ah];rfl
 generalize upd b Z (.lst<|(([nmC k]:List (List Nat)).map tx).map V.str++(((a++cs).map numC).map tx).map V.str)=H4 at*;have F:=Nm k
 show MT o (Ep (by simp;lia) (λt m=>by
  obtain⟨z,d,rfl⟩:=Tz.mp m;rw[pb];rcases TN.mp d with rfl | d
  . lia
  . obtain⟨x,_,rfl⟩:=Tz.mp d;show TU Bc #[1]) (by rw[pb];decide)) ?_
 rw[Ld,Ba];show q _ (((s1.trans i).trans f).trans u)
def BO:R "'rule_here 'word 'number 'sign 'cells 'numbers" mE mF K:=by
 obtain⟨T,C,x,h,w,g,rfl,F,X,O,q⟩:=h;ac_nf;unfold mF;generalize M:gw K=W at*;exists uO X.T rfl<|Af ?_;subst M;ac_nf;unfold gw;generalize M:gu K=W at*;rw[aC,cO];unfold tDGet tDisp;intro p S;unfold kB kB kB kB kB kB;symm;have u:∀ l:List V,l.length<=2->l.length<=sizeLine:=λl hl=>ba #[4];show(u _ (by simp),λB h1=>(u _ (by simp),λG h2=>(u _ (by simp),λI h3=>(u _ (by simp),λJ h4=>(u _ (by simp),λD h5=>?_)))));obtain⟨H0,a,s0,N⟩:=bp (.dK []) S;rw[a]at h1 h2 h3 h4 h5⊢;obtain⟨H1,a,s1,e1⟩:∃ z,upd H0 B (.lst [])=z/\Same H0 z/\z B=↥((iN []).map V.int):=bp _ h1;rw[a]at h2 h3 h4 h5⊢;obtain⟨H2,a,s2,e2⟩:∃ z,upd H1 G (.lst [])=z/\Same H1 z/\z G=↥((iN []).map V.int):=bp _ h2;rw[a]at h3 h4 h5⊢;obtain⟨H3,a,s3,e3⟩:∃ z,upd H2 I (.lst [V.int (x.n:Int)])=z/\Same H2 z/\z I=↥((iN [x.n]).map V.int):=bp _ h3;rw[a]at h4 h5⊢;obtain⟨H4,a,s4,e4⟩:∃ z,upd H3 J (.lst [V.int (x.n:Int)])=z/\Same H3 z/\z J=↥((iN [x.n]).map V.int):=bp _ h4;rw[a]at h5⊢;obtain⟨H5,a,s5,e5⟩:∃ z,upd H4 D (.lst [V.int (x.n:Int),V.int (x.m:Int)])=z/\Same H4 z/\z D=↥((iN [x.n,x.m]).map V.int):=bp _ h5;rw[a];have y:=s4.trans s5;have s:=s3.trans y;have r:=s2.trans s;have i:=s1.trans r;let f:List (Key × V):=[(.inr<|tx s!"unlike" ,V.ref B),(.inr<|tx s!"rising" ,V.ref G),(.inr<|tx s!"sum" ,V.ref I),(.inr<|tx s!"seen" ,V.ref J),(.inr<|tx s!"count" ,V.ref D)];show(i _ _ N,f,rfl,by change(5:Nat)<=15;decide,p,?_);have L:∀{b o},H5 b=some o->b≠p->(upd H5 p<|.dK<|ie [] f) b=some o:=λe n=>by rw[ak n];show e
 have np:∀{b xs},H5 b=↥xs->b≠p:=λe z=>by rw[z,i _ _ N]at e;cases e
 have P:Same H (upd H5 p<|.dK<|ie [] f):=(s0.trans i).own S;have ed:(upd H5 p<|.dK<|ie [] f) p=some (.dK<|ie [] f):=ah
 have fin:∀(A:Addr) (j:List Nat),H5 A=↥((iN j).map V.int)->j.map numC=(if numK x.k then [numC x.n] else [])++(if sgnK x.k then [numC x.m] else [])->valV (ie [] f) (Sum.inr<|tx<|nmC x.k)=some (V.ref A)->(∀ c∈j,c<100)->j.length<=2->∃ v,p=p/\DGet (upd H5 p<|.dK<|ie [] f) p (V.str<|tx<|nmC x.k) (some v)/\W (eD9 Q) [↑T,some<|.str<|tx<|nmC x.k,⇑(x.n:Int),⇑(x.m:Int),↑C,some v] (upd H5 p<|.dK<|ie [] f):=λA j U en Z hn nl=>by
  show(V.ref A,rfl,by rw[← Z];show DGet.k (k:=Sum.inr (tx<|nmC x.k)) ed,?_);subst M;show FH (P _ _ X.C) (L U<|np U) (O.Y.lt100 F) hn O.Y.len nl λH' s'=>?_
  have e:tx (catL 32 (nmC x.k::(j++x.ns).map numC))=RR.txt x.rr55:=by
   change _=tx (catL 32<|rowW x.k (if numK x.k then x.n else 0) (if sgnK x.k then x.m else 0) x.ns);unfold rowW;rw[UJ,en];cases numK x.k <;> cases sgnK x.k <;> rfl
  rw[e];show q H' (P.trans s')
 have R:=O.ha;have k0:=O.k0;have on:=O.n9;have om:=O.m1;have g6:=F.g1
 have t:x.k=.Unlike\/x.k=.Rising\/x.k=.Sum\/x.k=.Seen\/x.k=.Count:=by
  cases e:x.k <;> rw[e]at R k0 <;> first | (show absurd rfl k0) | (cases R;done) | (simp;done)
 rcases t with e | e | e | e | e
 . rw[e]at fin ⊢;show fin B [] (r _ _ e1) rfl rfl (λc d=>nomatch d) (by simp)
 . rw[e]at fin ⊢;show fin G [] (s _ _ e2) rfl rfl (λc d=>nomatch d) (by simp)
 . rw[e]at fin ⊢;show fin I [x.n] (y _ _ e3) rfl rfl (λc d=>by rw[TH.mp d];lia) (by simp)
 . rw[e]at fin ⊢;show fin J [x.n] (s5 _ _ e4) rfl rfl (λc d=>by rw[TH.mp d];lia) (by simp)
 . rw[e]at fin ⊢
   show fin D [x.n,x.m] e5 rfl rfl (λc d=>by
    simp only[TN,UD,Vr]at d;rcases d with rfl | rfl <;> lia) (by simp)
structure ME55(H:Hp)(R C f:Addr)(k:RK)(h w n m:Int)(cs xs:∅):Prop where
 R:H R=some (.tup [.str<|tx<|nmC k,.int n,.int m,.ref C])
 C:H C=↥(cs.map V.int)
 f:H f=↥(xs.map V.int)
 l:(xs.length:Int)=h*w
 cn:cs.length<=16
 ci:∀ c∈cs,0<=c/\c<h*w
 ha:allK k=false
 k0:k≠.Rule
 s1:∀ y∈xs,1<=y/\y<=6
variable{cs:∅}{R:Addr}{n m:Int}
def  ME55.same{k:RK}(X:ME55 H R C f k h w n m cs xs)(s:Same H H'):ME55 H' R C f k h w n m cs xs:=(s _ _ X.R,s _ _ X.C,s _ _ X.f,X.l,X.cn,X.ci,X.ha,X.k0,X.s1)
def PQ(l:∅):decide (((((List.range<|l.length-1).filter λ(i:Nat)=>decide<|l.getD (i+1) 0<=l.getD i 0).length:Nat):Int)=0)=risB l:=by
 rw[Bm,Up,VP,Ty];constructor
 . intro h i a;have h0:((List.range<|l.length-1).filter λ(i:Nat)=>decide<|l.getD (i+1) 0<=l.getD i 0)=[]:=UC #[4];have:=Vn.mp h0 i a;simp only[Tt]at this;show Tp #[4]
 . intro h
   have h0:((List.range<|l.length-1).filter λ(i:Nat)=>decide<|l.getD (i+1) 0<=l.getD i 0)=[]:=Vn.mpr λi a=>by
    have:=TF<|h i a;simp only[Tt];lia
   rw[h0];rfl
def  ME55.sb{k:RK}(X:ME55 H R C f k h w n m cs xs):∀ y∈sgAt xs cs,1<=y/\y<=6:=λy a=>by
 unfold sgAt at a;obtain⟨c,d,rfl⟩:=Tz.mp a;have b:=X.ci c d;have l:=X.l;show X.s1 _ (aL (ms:=xs) (k:=c.toNat) #[0])
def oi:d:=#[3,∃ R C f k h w n m cs xs,vs=[.ref R,.ref f]/\ME55 H R C f k h w n m cs xs/\∀ H',Same H H'->Q (.bl<|hoB k h w cs n m xs) H']
def j5:a:=#[":idsbrzax&--6 ~sarza6cch#1 Ipdsb1ef#0 pd>dk21r'Ea~b~c2~p/1c1c3"]
def j6:a:=#[":gnpdsb2evw`0idsbrzax&--6 ~:aef#1 arza6cch#1 pd)dk2d~a1ef#1 dk211cef#0 o}Qb",s!"rising"]
def j7:a:=#[":gnpdsb2evw`0idsbrzax&--4 ub6h#1 pdsb121c3o}Rb",s!"count"]
def j8:a:=#[":gnpdsb2evw`0idsbr~Ka6c3o}Sb",s!"sum"]
def g7:a:=#[":gnpdsb2evw`0idsb~X6rza6co}Tb",s!"unlike"]
def g8:a:=#[":glx&--1 ub5h#1 Ddk21h#6 }Ub"]
def oj:a:=#[":gl0Vb#4 Ch#2 Ch#3 Ch#4 Ch#5 W}Vb"]
variable{S:Addr}
def GJ{k:RK}(A:k=.Seen)(X:ME55 H R C f k h w n m cs xs)(c:H S=↥((sgAt xs cs).map V.int))(q:∀ H',Same H H'->Q (.bl<|hoB k h w cs n m xs) H'):
  j5 K (eD9 Q) [↑R,↑f,some<|.str<|tx<|nmC k,⇑n,⇑m,↑C,↑S] H:=by
 have G:(sgAt xs cs).length<=16:=by unfold sgAt;rw[Tn];show X.cn
 subst A;unfold j5;symm;rw[bh c,Tn];exists(_,rfl,by lia,by lia,?_);have s1:=λy v=>(X.sb y v).1;generalize u:sgAt xs cs=l at*;show mO (lo:=0) (lH l) (λ(i:Nat)=>0+(i:Int)) #[4] ?_ ?_ ?_
 . intro i e o g b k8;have D:i < ((l.length:Int)).toNat:=g;change tOr _ _ [none,⇑(0+(i:Int)),↑S] e o;rw[WL];symm;by_cases h0:(i:Int)=0
   . rw[Tp h0,TZ rfl];have:lH l i=true:=by unfold lH;rw[Tp h0];rfl
     rw[this]at k8;show k8 _ (Tu _)
   . rw[Tq h0,TX TB];show ixI (b _ _ c) #[4] #[4] ?_;exists qg (b _ _ c) λZ z=>?_;rw[yp _ #[4],← VC,Ui];obtain⟨E,r,t,s⟩:=bp (.lst<|(l.take i).map V.int) z;rw[r];exists JZ s (by rw[Uu];lia) ?_;symm;have d:=k8 _ t;unfold lH at d;rw[Tq h0,UH]at d;show d
 . intro i e x g F b k8;change tVar 1 [none,⇑(0+(i:Int)),↑S] e x;exists k8 _ (Tu _)
 . intro N p I j B;symm;rw[bh B,Tn,Tn,Ui];symm;rw[KC s1 l.length<|TQ _,UF];have a:=q p j;unfold hoB at a;dsimp only at a;rw[u]at a;show a
def GK{k:RK}(b:k=.Rising\/k=.Seen)(X:ME55 H R C f k h w n m cs xs)(a:H S=↥((sgAt xs cs).map V.int))(q:∀ H',Same H H'->Q (.bl<|hoB k h w cs n m xs) H'):
  j6 K (eD9 Q) [↑R,↑f,some<|.str<|tx<|nmC k,⇑n,⇑m,↑C,↑S] H:=by
 have z:(sgAt xs cs).length<=16:=by unfold sgAt;rw[Tn];show X.cn
 unfold j6;rw[aC,aA];symm;rw[bN];rcases b with rfl | b
 . rw[Tp #[1]];show iteT ?_;symm;rw[bh a,Tn];exists(_,_,rfl,(by decide,by decide,by lia,by lia),?_);generalize v:sgAt xs cs=l at*;show mO (λ(i:Nat)=>decide<|l.getD (i+1) 0<=l.getD i 0) (λ(i:Nat)=>1+(i:Int)) #[4] ?_ ?_ ?_
   . intro i d o g e k8;have u:i < ((l.length:Int)-1).toNat:=g;change tTest _ [none,⇑(1+(i:Int)),↑S] d o;exists ixI (e _ _ a) #[4] #[4] ?_;exists ixI (e _ _ a) #[4] #[4] ?_;symm;rw[show(1+(i:Int)-1).toNat=i by lia,show(1+(i:Int)).toNat=i+1 by lia];show k8 _ (Tu _)
   . intro i d t g y e k8;change tVar 1 [none,⇑(1+(i:Int)),↑S] d t;exists k8 _ (Tu _)
   . intro N r x j s;symm;rw[bh s,Tn,Tn,show((l.length:Int)-1).toNat=l.length-1 by lia];symm;rw[PQ];have c:=q r j;unfold hoB at c;dsimp only at c;rw[v]at c;show c
 . have p:¬ nmC k=s!"rising":=by
    rw[b];decide
   rw[Tq p];show iteF ?_;show GJ b X a q
def GL{k:RK}(a:k=.Count\/k=.Rising\/k=.Seen)(X:ME55 H R C f k h w n m cs xs)(c:H S=↥((sgAt xs cs).map V.int))(q:∀ H',Same H H'->Q (.bl<|hoB k h w cs n m xs) H'):
  j7 K (eD9 Q) [↑R,↑f,some<|.str<|tx<|nmC k,⇑n,⇑m,↑C,↑S] H:=by
 have t:(sgAt xs cs).length<=16:=by unfold sgAt;rw[Tn];show X.cn
 unfold j7;rw[aC,aA];symm;rw[bN];rcases a with rfl | a
 . rw[Tp #[1]];show iteT ?_;exists((_,TW c),?_);show bE (xs:=sgAt xs cs) (λy=>decide<|y=m) (λy=>y) #[4] (TW c) ?_ ?_ ?_
   . intro y b i o g k8;change tTest _ [none,⇑y,⇑m] b i;exists k8 _ (Tu _)
   . intro y b l o r g k8;change tVar 1 [none,⇑y,⇑m] b l;exists k8 _ (Tu _)
   . intro N s p e d;rw[VO]at d;symm;rw[bh d,Tn];symm;rw[KA];show q _ e
 . have j:¬ nmC k=s!"count":=by
    rcases a with rfl | rfl <;> decide
   rw[Tq j];show iteF ?_;show GK a X c q
def GM{k:RK}(a:k=.Sum\/k=.Count\/k=.Rising\/k=.Seen)(X:ME55 H R C f k h w n m cs xs)(b:H S=↥((sgAt xs cs).map V.int))(q:∀ H',Same H H'->Q (.bl<|hoB k h w cs n m xs) H'):
  j8 K (eD9 Q) [↑R,↑f,some<|.str<|tx<|nmC k,⇑n,⇑m,↑C,↑S] H:=by
 have e:(sgAt xs cs).length<=16:=by unfold sgAt;rw[Tn];show X.cn
 unfold j8;rw[aC,aA];symm;rw[bN];rcases a with rfl | a
 . rw[Tp #[1]];show iteT ?_;exists zl b (λy d=>?_) #[4] ?_
   . have:=X.sb y d;lia
   . exists q H (Tu H)
 . have c:¬ nmC k=s!"sum":=by
    rcases a with rfl | rfl | rfl <;> decide
   rw[Tq c];show iteF ?_;show GL a X b q
def GN{k:RK}(a:k=.Unlike\/k=.Sum\/k=.Count\/k=.Rising\/k=.Seen)(X:ME55 H R C f k h w n m cs xs)(b:H S=↥((sgAt xs cs).map V.int))(q:∀ H',Same H H'->Q (.bl<|hoB k h w cs n m xs) H'):
  g7 K (eD9 Q) [↑R,↑f,some<|.str<|tx<|nmC k,⇑n,⇑m,↑C,↑S] H:=by
 have g:(sgAt xs cs).length<=16:=by unfold sgAt;rw[Tn];show X.cn
 unfold g7;rw[aC,aA];symm;rw[bN];rcases a with rfl | a
 . rw[Tp #[1]];show iteT ?_;exists(S,_,rfl,b,by lia,?_);symm;rw[bh b,Tn];symm;have c:=q H<|Tu H;unfold hoB at c;dsimp only at c
   have e:decide (((cntD (sgAt xs cs):Nat):Int)=((sgAt xs cs).length:Nat))=decide (cntD (sgAt xs cs)=(sgAt xs cs).length):=by
    rw[Up,Tt,Tt];lia
   rw[e];show c
 . have d:¬ nmC k=s!"unlike":=by
    rcases a with rfl | rfl | rfl | rfl <;> decide
   rw[Tq d];show iteF ?_;show GM a X b q
def Dh:R "'rule_here 'filling 'word 'number 'sign 'cells 'told" oi oj K:=by
 obtain⟨R,C,f,k,h,w,n,m,cs,xs,rfl,X,q⟩:=h;have v:=X.cn;have u:=X.l;ac_nf;unfold oj;generalize a:g8 K=W at*;exists uO X.R rfl<|Af ?_;subst a;ac_nf;unfold g8;generalize a:g7 K=W at*;exists((_,TW X.C),?_);show bE (xs:=cs) (λ_=>true) (λc=>xs.getD c.toNat 0) #[4] (TW X.C) ?_ ?_ ?_
 . intro y d s i e k8;show k8 _ (Tu _)
 . intro y d p i t e k8;have b:=X.ci y i;change tOp cIx _ _ [none,⇑y,↑f] d p;exists ixI (e _ _ X.f) #[4] #[4] ?_;show k8 _ (Tu _)
 . intro S H1 x s1 g;rw[bn]at g
   have o:k=.Unlike\/k=.Sum\/k=.Count\/k=.Rising\/k=.Seen:=by
    have j:=X.ha;have k0:=X.k0;cases k <;> first | (show absurd rfl k0) | (cases j;done) | (simp;done)
   symm;subst a;show GN o (X.same s1) g λH' r=>q H' (s1.trans r)
def  g9(g c:Int):∅:=if c=0 then rngL 1 (g+1) else [c]
def KD{s:Int}:s∈rngL 1 (g+1)↔1<=s/\s<=g:=by
 unfold rngL;constructor
 . intro h;obtain⟨k,a,rfl⟩:=Tz.mp h;have:=TC.mp a;lia
 . intro h;show Tz.mpr ((s-1).toNat,TC.mpr #[4],by lia)
def FI{c s:Int}(a:c<=g)(c0:0<=c):s∈g9 g c↔(1<=s/\s<=g)/\(c=0\/c=s):=by
 unfold g9
 split
 . rename_i e
   rw[KD];show(λh=>(h,.inl e),λh=>h.1)
 . rename_i e
   rw[TH];constructor
   . rintro rfl;show((by lia,a),.inr rfl)
   . rintro⟨_,h | h⟩
     . show absurd h e
     . show h.symm
def NC(g c:Int):(g9 g c).Nodup:=by
 unfold g9
 split
 . unfold rngL;rw[List.Nodup,W9];show List.pairwise_lt_range.imp λh=>by lia
 . simp
def FJ{c:Int}(a:1<=g):1<=(g9 g c).length/\(g9 g c).length<=g.toNat:=by
 unfold g9
 split
 . unfold rngL;rw[Tn,UG];lia
 . simp;lia
variable{cl:∅}
def CK{f:∅}(C:CluesOk h w g cl):f∈dQ (cl.map<|g9 g)↔filB 1 g (h*w).toNat f=true/\cluB cl f=true:=by
 have j:∀(i:Nat) (d:i<cl.length),0<=cl[i]/\cl[i]<=g:=λi d=>C.2 _<|T0 d;rw[every_mem,all2_iff,Tn];constructor
 . rintro⟨l,q⟩
   have e:∀(i:Nat) (d:i<f.length),(1<=f[i]/\f[i]<=g)/\(cl.getD i 0=0\/cl.getD i 0=f[i]):=λi d=>by
    have c:i<cl.length:=by lia
    have s:=q i _ _ (To d) (by rw[Tw,To c];rfl);have p:=(FI (j i c).2 (j i c).1).mp s;rw[mw c];show p
   show(?_,?_)
   . unfold filB;rw[Tx,Tt,Ty];show(by rw[l];show C.1,λx r=>?_);obtain⟨i,d,rfl⟩:=UP r;have a:=(e i d).1;rw[Tp a.1,Tp a.2];rfl
   . unfold cluB;rw[Ty];intro i d;have c:=TC.mp d;have a:=(e i #[4]).2;rw[Uw,Tt,Tt,mw (l:=f) (show i<f.length by lia)];show a
 . rintro⟨a,b⟩;obtain⟨u,t⟩:=jV a;have v:=C.1;show(by lia,λi x ss k n=>?_);have d:=(Tr.mp k).1;have c:i<cl.length:=by lia
   rw[Tw,To c]at n;cases n;have o:=t x<|Tv k;unfold cluB at b;have m:=Ty.mp b i<|TC.mpr c;rw[Uw,Tt,Tt,mw c,cC k]at m;show(FI (j i c).2 (j i c).1).mpr (o,m)
structure Rs55(H:Hp)(R:Addr)(Ts Cs:List Addr)(xs:List LR)(h w g:Int):Prop where
 R:H R=↥(Ts.map V.ref)
 tl:Ts.length=xs.length
 cl:Cs.length=xs.length
 at_:∀(i:Nat) T D x,Ts[i]? =some T->Cs[i]? =some D->xs[i]? =some x->IsLR H T D x
 ok:∀ x∈xs,x.Ok55 h w g
variable{Ts Cs:List Addr}
def  Rs55.same{xs:List LR}(X:Rs55 H R Ts Cs xs h w g)(s:Same H H'):Rs55 H' R Ts Cs xs h w g:=(s _ _ X.R,X.tl,X.cl,λi T D x e1 e2 a=>(X.at_ i T D x e1 e2 a).same s,X.ok)
def jp:d:=#[3,∃ C R Ts Cs h w g cl xs,vs=[.int g,.ref R,.ref C]/\FlOk h w g/\H C=↥(cl.map V.int)/\CluesOk h w g cl/\Rs55 H R Ts Cs xs h w g/\xs.length<=12/\prodL (cl.map<|g9 g)<=900/\
 ∀(l:Addr) (as:List Addr) (a:List ∅) (H':Hp),Same H H'->H l=none->IsLL H' l as a->a.Nodup->(∀ f,f∈a↔metB h w g (xs.map LR.rr55) cl f=true)->a.length<=900->Q (.ref l) H']
def bn1:a:=#[":Gub5h#8 *ObK~k6adA7ta8cc"]
def bn2:a:=#[":gGub3h#7 }Wbl6h#3 "]
def bn3:a:=#[":gltch#6 }Xb"]
def fw:a:=#[":ix&--1 ub3h#1 pdsbrzax&--1 ub2h#1 yq,}Yba1a2c1cef#0 1"]
def jq:a:=#[":gltatcch#3 gGub2h#4 gl}Zaef#1 adA0ef#1 ch#5 gnpdHb4ef#0 lta4ch#5 o}*b}+b"]
section
variable{K:Frag}{D:Ends}{H:Hp}{F M f S:Addr}{bs:List Addr}{Ti:List ∅}{fl ss:∅}{v0 v1 v2 v4:Option V}
def Pd {g:Option V} (t:H S=↥(ss.map V.int)) (L:H f=↥(fl.map V.int)) (G:IsLL H M bs Ti) (J:M∉bs) (w:f≠M) (B:S≠M) (Q:fl.length<=16) (O:Ti.length+ss.length<=900)
  (k:∀ a H' g,Own M H H'->M∉a->IsLL H' M a (Ti++ss.map λs=>fl++[s])->D.nx [v0,v1,v2,↑F,v4,↑S,↑M,↑f,g] H'):
  bn1 K D [v0,v1,v2,↑F,v4,↑S,↑M,↑f,g] H:=by
 unfold bn1;exists((_,TW t),?_)
 show bI (K:=K) (xs:=ss.map V.int) (λi σ H'=>∃(g:Option V) (a:List Addr),σ=[v0,v1,v2,↑F,v4,↑S,↑M,↑f,g]/\Own M H H'/\M∉a/\IsLL H' M a (Ti++(ss.take i).map λs=>fl++[s]))
  (g,bs,rfl,Own.refl H,J,by change IsLL H M bs (Ti++[]);rw[Wz];show G) (λi P H' _ ⟨_,_,_,o,_⟩=>TW<|o _ _ B t) ?_ ?_
 . rintro i x σ b z ⟨u,c,rfl,l,m,d⟩;obtain⟨s,q,rfl⟩:=aI z;have N:=(Tr.mp q).1;have C:=d.len;rw[TJ,Tn,Uu]at C;exists(bB d.top,?_);show(lnR rfl,λZ E=>?_);have n:Same b (upd b Z<|.lst<|([s]:∅).map V.int):=(Tu b).laid E;have y:(upd b Z<|.lst<|([s]:∅).map V.int) Z=↥(([s]:∅).map V.int):=ah;change cAdd (V.ref f) (V.ref Z) (upd b Z<|.lst<|([s]:∅).map V.int) _;generalize upd b Z (.lst<|([s]:∅).map V.int)=H3 at*;show rJ (n _ _<|l _ _ w L) y (by simp;lia) λA p=>?_;have v:Same H3 (upd H3 A<|.lst<|fl.map V.int++([s]:∅).map V.int):=(Tu H3).laid p;have I:(upd H3 A<|.lst<|fl.map V.int++([s]:∅).map V.int) A=↥((fl++[s]).map V.int):=by rw[ah,UJ]
   generalize upd H3 A (.lst<|fl.map V.int++([s]:∅).map V.int)=H4 at*;have h:=n.trans v;have j:=d.same h;have r:A≠M:=λe=>by rw[e,(n _ _ d.top)]at p;cases p
   symm;rw[gJ j.top];show(by rw[Tn];show aH #[4],?_);show(_,c++[A],rfl,l.trans<|Own.put h,by simp[m];show λe=>r e.symm,?_);rw[fD q,UJ,← UR];show j.snoc40 m r I
 . rintro σ b ⟨u,c,rfl,l,m,d⟩;rw[Tn,UF]at d;show k c b u l m d
end
variable{as:List Addr}{fss:List ∅}
def Pe {D:Ends} {F M:Addr} {ss:∅} {v0 v1 v2 m v7 c:Option V} (L:H S=↥(ss.map V.int)) (y:S≠M) (l:IsLL H F as fss) (O:H M=some (.lst [])) (B:F≠M) (C:M∉as) (R:∀ f∈fss,f.length<=16) (u:(extL fss ss).length<=900)
  (k:∀ bs H' v7 c,Own M H H'->M∉bs->IsLL H' M bs (extL fss ss)->D.nx [v0,v1,v2,↑M,m,↑S,↑M,v7,c] H'):
  bn2 K D [v0,v1,v2,↑F,m,↑S,↑M,v7,c] H:=by
 have fl:=l.len;unfold bn2;generalize Q:bn1 K=W at*;exists((_,TW l.top),?_)
 show bI (K:=K) (xs:=as.map V.ref) (λj σ H'=>∃(v7 c:Option V) (bs:List Addr),σ=[v0,v1,v2,↑F,m,↑S,↑M,v7,c]/\Own M H H'/\M∉bs/\IsLL H' M bs (extL (fss.take j) ss))
  (v7,c,[],rfl,Own.refl H,by simp,(O,rfl,λj a xs e=>by simp at e)) (λi X H' _ ⟨_,_,_,_,o,_⟩=>TW<|o _ _ B l.top) ?_ ?_
 . rintro j x σ v G ⟨w,p,d,rfl,g,r,h⟩;obtain⟨b,n,rfl⟩:=aY G;have U:j<as.length:=(Tr.mp n).1;have t:fss[j]? =some (fss[j]'#[4]):=To #[4];have I:=l.at_ j b _ n t;have nb:b≠M:=λe=>C<|e ▸ Tv n;have P:=R _ (T0 (show j<fss.length by lia))
   have z:extL (fss.take<|j+1) ss=extL (fss.take j) ss++ss.map λs=>(fss[j]'#[4])++[s]:=by
    rw[fD t,yy,tp]
   have A:(extL (fss.take<|j+1) ss).length<=900:=by
    rw[tm]at u ⊢;show TU (Vf _ ?_) u;rw[Uu];lia
   rw[z,TJ,Tn]at A;generalize (fss[j]'#[4])=fl at*;symm;subst Q;show Pd (g _ _ y L) (g _ _ nb I) h r nb y P A λq T p N J E=>?_;show(_,_,q,rfl,g.trans N,J,by rw[z];show E)
 . rintro σ v ⟨w,p,d,rfl,g,r,h⟩;rw[Tn,fl,UF]at h;exists k d v w p g r h
def tz {F:Addr} {xs:List LR} {v0 v2 N v5 v6 v7 v8:Option V} (Fl:FlOk h w g) (D:IsLL H F as fss) (hF:fss.length<=900) (fl:∀ f∈fss,(f.length:Int)=h*w/\∀ y∈f,1<=y/\y<=6) (X:Rs55 H R Ts Cs xs h w g) (I:xs.length<=12)
  (q:∀(l:Addr) (as:List Addr) (H':Hp),Same H H'->IsLL H' l as (fss.filter λf=>xs.all λx=>hoB x.k h w (aU x.ns) x.n x.m f)->H l=none->Q (.ref l) H'):
  fw K (eD9 Q) [v0,↑R,v2,↑F,N,v5,v6,v7,v8] H:=by
 have tl:=X.tl;have xc:=X.cl;unfold fw;exists((_,TW D.top),?_);show CH (λf=>xs.all λx=>hoB x.k h w (aU x.ns) x.n x.m f) D #[4] (by change(1:Nat)<3;decide) ?_ ?_
 . intro b f r J M Z e k3;have a:=fl f M;have u:=X.same e;change tTest _ [none,↑b,↑R] r J;exists((_,TW u.R),?_);show dM (xs:=Ts.map V.ref) (λi=>!((xs[i]?).map λx=>hoB x.k h w (aU x.ns) x.n x.m f).getD true) (λi=>((Ts[i]?).map V.ref).getD .non) (by rw[Tn];lia) (TW u.R) ?_ ?_ ?_
   . intro i y t G d p k8;obtain⟨T,j,rfl⟩:=aY d;have o:i<Ts.length:=(Tr.mp j).1;have hC:Cs[i]? =some (Cs[i]'#[4]):=To #[4];have B:xs[i]? =some (xs[i]'#[4]):=To #[4];have Y:=(u.at_ i T _ _ j hC B).same p;have O:=X.ok _ (T0 (show i<xs.length by lia));rw[B]at k8;generalize Cs[i]'#[4]=Cx at*;generalize xs[i]'#[4]=x at*;change tNot _ [none,↑T,↑b] t G;exists(T,Cx,b,x.k,h,w,x.n,x.m,aU x.ns,f,rfl,(Y.T,Y.C,p _ _<|e _ _ Z,a.1,by unfold aU;rw[Tn];show O.Y.len,λc U=>?_,O.ha,O.k0,a.2),λL s9=>(_,rfl,?_))
     . obtain⟨y,d,rfl⟩:=Tz.mp U;show(by lia,O.Y.lt y d)
     . have:=k8 L s9;show this
   . intro i y t Q8 d hb p k8;obtain⟨T,j,rfl⟩:=aY d;rw[j]at k8;change tVar 1 [none,↑T,↑b] t Q8;exists k8 _ (Tu _)
   . intro l H4 v s4 S;symm;rw[bh S,Tn];symm
     have P:decide (((((List.range (Ts.map V.ref).length).filter λi=>!((xs[i]?).map λx=>hoB x.k h w (aU x.ns) x.n x.m f).getD true).length:Nat):Int)=0)=xs.all λx=>hoB x.k h w (aU x.ns) x.n x.m f:=by
      rw[Up,VP,Ty];constructor
      . intro z x W;obtain⟨i,o,rfl⟩:=UP W;have z2:(List.range (Ts.map V.ref).length).filter (λi=>!((xs[i]?).map λx=>hoB x.k h w (aU x.ns) x.n x.m f).getD true)=[]:=UC #[4];have A:=Vn.mp z2 i (TC.mpr (by rw[Tn];lia));rw[To o]at A
        simpa using A
      . intro z
        rw[Vn.mpr λi o=>by
         have s:=TC.mp o;rw[Tn]at s;rw[To (show i<xs.length by lia)];simp[z _ (T0 (show i<xs.length by lia))]]
        rfl
     rw[P];show k3 _ s4
 . intro l cs r v e xl nl E;show q l cs r e xl v
def wL:R "'signs 'rules 'clues 'fillings 'clue 'some 'more 'filling 'sign" jp jq K:=by
 obtain⟨C,R,Ts,Cs,h,w,g,cl,xs,rfl,F,eC,Cc,X,T,pr,q⟩:=h;have g0:=F.g0;have g6:=F.g1;have am:=F.m;have cn:=Cc.1;have al:0<=h*w:=Vs (by have:=F.h0;lia) (by have:=F.w0;lia)
 have U:∀ ss∈cl.map (g9 g),1<=ss.length:=λss G=>by
  obtain⟨c,hc,rfl⟩:=Tz.mp G;show(FJ g0).1
 ac_nf;unfold jq;generalize hW:bn3 K=W at*;generalize hT:fw K=Wt at*;exists(ba #[1],λZ hZ=>?_);show(lnR rfl,λL O=>?_);have nZ:Z≠L:=λe=>by rw[← e,ah]at O;cases O
 have s1:Same H (upd (upd H Z<|.lst []) L<|.lst [V.ref Z]):=((Tu H).laid hZ).laid O
 have x1:IsLL (upd (upd H Z<|.lst []) L<|.lst [V.ref Z]) L [Z] [[]]:=(ah,rfl,λj a xs e1 e2=>by
  cases j with
  | zero=>cases e1;cases e2;rw[ak nZ,ah];rfl
  | succ j=>simp at e1)
 have aj:H L=none:=((Tu H).laid hZ).free O;generalize upd (upd H Z<|.lst []) L (.lst [V.ref Z])=H1 at*;show((_,TW<|s1 _ _ eC),?_)
 show bI (K:=K) (xs:=cl.map V.int) (λi σ H'=>∃(l:Addr) (as:List Addr) (p v k o n:Option V),σ=[⇑g,↑R,↑C,↑l,p,v,k,o,n]/\Same H H'/\H l=none/\IsLL H' l as (dQ<|(cl.map<|g9 g).take i))
  (L,[Z],none,none,none,none,none,rfl,s1,aj,x1) (λi σ' H' _ oh=>by obtain⟨_,_,_,_,_,_,_,_,s,_⟩:=oh;show TW<|s _ _ eC) ?_ ?_
 . rintro i x σ H2 t ⟨l,as,p,v,k,o,n,rfl,D,hl,N⟩;obtain⟨c,hc,rfl⟩:=aI t;have G:(cl.map<|g9 g)[i]? =some (g9 g c):=by rw[Tw,hc];rfl
   have ev:=Cw G
   have le:(dQ<|(cl.map<|g9 g).take<|i+1).length<=900:=by
    rw[iY];show TU (Cv (i+1) U) pr
   have fin:∀(S:Addr) (b:Hp),Same H2 b->b S=↥((g9 g c).map V.int)->W {nx:=λσ H'=>∃(l:Addr) (as:List Addr) (p v k o n:Option V),σ=[⇑g,↑R,↑C,↑l,p,v,k,o,n]/\Same H H'/\H l=none/\IsLL H' l as (dQ<|(cl.map<|g9 g).take<|i+1),rt:=Q,ct:=λσ H'=>∃(l:Addr) (as:List Addr) (p v k o n:Option V),σ=[⇑g,↑R,↑C,↑l,p,v,k,o,n]/\Same H H'/\H l=none/\IsLL H' l as (dQ<|(cl.map<|g9 g).take<|i+1),bk:=λσ H'=>Wt (eD9 Q) σ H'} [⇑g,↑R,↑C,↑l,⇑c,↑S,k,o,n] b:=λS b d eS=>by
    subst hW;unfold bn3;generalize ag:bn2 K=W2 at*;exists(ba #[1],λM u=>?_);have s4:Same b (upd b M<|.lst []):=(Tu b).laid u;have eM:(upd b M<|.lst []) M=some (.lst []):=ah;have z:=N.same d;have nl:l≠M:=λe=>by rw[← e,z.top]at u;cases u
    have nS:S≠M:=λe=>by rw[← e,eS]at u;cases u
    have xl:=z.len
    have ab:M∉as:=λhm=>by
     obtain⟨j,hj,e⟩:=UP hm;have a:=z.at_ j _ _ (To hj) (To (show j<_ by lia));rw[e,u]at a;cases a
    have I:H M=none:=(D.trans d).free u;generalize upd b M (.lst [])=H4 at*;subst ag;show Pe (s4 _ _ eS) nS (z.same s4) eM nl ab (λf Y=>?_) (by rw[← ev];show le) λaf H5 u7 u8 o5 n5 x5=>?_
    . have:=zQ Y;rw[Uu,Tn]at this;lia
    . show(M,af,_,_,_,_,_,rfl,o5.same ((D.trans d).trans s4) I,I,by rw[ev];show x5)
   exists(_,_,rfl,(by decide,by decide,by lia,by lia),λA hA=>?_);obtain⟨b,z9,d,eA⟩:=bp (.lst<|(rngL 1<|g+1).map V.int) hA;rw[z9];rw[aA];symm;by_cases J:c=0
   . rw[Tp J];exists fin A b d (by unfold g9;rw[TZ J];show eA)
   . rw[Tq J];exists(lnR rfl,λB hB=>?_);show fin B _ (d.laid hB) (by rw[ah];unfold g9;rw[TX J];rfl)
 . rintro σ H2 ⟨l,as,p,v,k,o,n,rfl,D,hl,N⟩;rw[Tn,Ut (by rw[Tn];show TQ _)]at N;subst hT;dsimp only;show tz F N (by rw[iY];show pr) (λf Y=>?_) (X.same D) T λl3 P b d z ae=>?_
   . have m:=(CK Cc).mp Y;have ft:=jV m.1;show(by have:=ft.1;lia,λy hy=>by have:=ft.2 y hy;lia)
   . show q l3 P _ b (D.trans d) (D.free ae) z (List.Pairwise.filter _<|xj λss G=>?_) (λf=>?_) (TU (Ue _ _) (by rw[iY];show pr))
     . obtain⟨c,_,rfl⟩:=Tz.mp G;show NC _ _
     . rw[TM,CK Cc];unfold metB rowsB;rw[Tx,Tx,and_assoc];show WD λ_=>WD λ_=>?_;rw[Ty,Ty];show(λa r hr=>?_,λa x t=>?_)
       . obtain⟨x,t,rfl⟩:=Tz.mp hr;rw[← LR.met55 (X.ok x t)];show a x t
       . rw[LR.met55<|X.ok x t];show a _ (List.mem_map_of_mem t)
def  IJ(H H':Hp)(T:Addr):Prop:=∃(t:V) (x:Addr) (a:List V),H' T=some (.tup (t::.ref x::a))/\H x=none
def iB:f:=#[3,∃ P L G A h w g Td cl m,vs=[.ref P,.ref A]/\Lk H c d P L G A h w g Td cl m/\0∉m/\prodW m<=900/\∀(l:Addr) (cs:List Addr) (H':Hp),Same H H'->H l=none->IsLL H' l cs (awL h w g Td cl m)->(∀ a∈cs,H a=none)->Q (.ref l) H']
def iC:c:=#[":ix&--0 ub,}-bax&-- ub1h#1 D,Qba1cch#1 qBmU}/}:bjm2a1c1"]
variable{c:XZ}{d:X8}
def uq:R "puzzle masks" iB iC K c d:=by
 obtain⟨P,L,G,A,h,w,g,Td,cl,m,rfl,X,nz,pr,q⟩:=h;have F:=X.P.R.F;have I:=F.g0;have t:=F.g1;have ab:=F.m;have xn:=X.n;have D:∀ x∈m,x≠0:=λx o e=>nz<|e ▸ o;exists iC;show((_,TW X.A),?_);show oJ (xs:=m.map V.int) (λ_=>true) (λi=>.lst<|(sgL<|m.getD i 0).map V.int) (by rw[Tn];lia) (TW X.A) ?_ ?_ ?_
 . intro i x H1 R o s1 k1;show k1 _ (Tu _)
 . intro i x H1 Q1 o hb s1 k1;obtain⟨y,O,rfl⟩:=aI o;rw[cC O]at k1;change tCall _ _ _ _ [none,⇑y] H1 Q1;exists(y,rfl,pQ I t<|X.mm y<|Tv O,λl N J z W=>k1 l N J z W)
 . intro B as H1 hB s1 Z T;rw[bn,Tn,yx<|λx=>HO.lst<|(sgL x).map V.int]at T;have xB:IsLL H1 B as (m.map sgL):=NewAt.ll (by rw[Uq];show T) Z;exists(B,as,m.map sgL,rfl,xB,by rw[Tn];lia,λss C=>?_,by rw[BF];lia,λE1 bs N J hE S nE fE=>?_)
   . obtain⟨x,o,rfl⟩:=Tz.mp C;have b:=X.mm x o;show(LO I t b<|D x o,TU (HA I t b) #[1])
   . show(E1,rfl,(_,TW S.top),?_);have j:=s1.trans J;show CH (metB h w g Td cl) S (by rw[iY,BF];lia) (by change(1:Nat)<3;decide) ?_ ?_
     . intro b f u R U Y r k3
       have fl:f.length=m.length:=by
        have:=(all2_iff.mp<|every_mem.mp U).1;rw[Tn]at this;show this
       have v:=j.trans r;have M:=X.P.same v;obtain⟨dx,p,rs,h1,h2,h3⟩:=M.ex;change tB _ [none,↑b,↑P] u R;exists methE (k:=.Puzzle) rfl M.ok h1 (by rfl) ?_;exists(P,L,G,b,h,w,g,Td,cl,f,rfl,M,r _ _ Y,by lia,λH4 s4=>(_,rfl,k3 H4 s4))
     . intro l cs u z r xl nl s;show q l cs u (j.trans r) (j.free z) xl λa ha=>s1.free (fE a<|s a ha)
def oQ:f:=#[3,∃ P L G h w g Td cl,vs=[.ref P]/\IsPz H c d P L G h w g Td cl/\∀(T:Addr) (H':Hp),Same H H'->H T=none->Sol57 H' h w g Td cl T->IJ H H' T->Q (.ref T) H']
def oo:c:=#[":iNaevw`0adk4ef#0 adk4ef#1 c",s!"two"]
def jE:c:=#[":gnpdsbrza4cef#1 iNaevw`0adk4ef#0 adA3,};bjma0a2adk4ef#0 cco}?bjm",s!"one"]
def jF:c:=#[":gnpdsb4tciNaevw`0adA3,}[bjma0a2cco}]bjm",s!"none"]
def oq:c:=#[":gl,}^bjma0a2ch#4 _abjm"]
def or:c:=#[":gnpd>,'yba2cef#32 iNaevw`0a2a3co_bbjm",s!"rests"]
def jG:c:=#[":gnq,Mba2ciNaevw`0a3co_cbjm",s!"none"]
def tD:c:=#[":gl,~fbjma0a,'DbaBmU~x~ybjm0cca]b:ch#1 gldk1ef#0 h#2 gldk1ef#1 h#3 _dbjm"]
section
variable{K:Frag}{c:XZ}{d:X8}{H0 H:Hp}{Q:VK}{P L G N B:Addr}{h w g:Int}{Td:List RR}{cl:∅}{bs:List Addr}
def Di{Lf:Addr}{cs:List Addr}{v1:Option V}(X:Sv57 H0 H c d P L G N B h w g Td cl bs)(nz:0∉stF h w g Td cl allT)(t:prodW (stF h w g Td cl allT)<=2^5)(j:IsLL H Lf cs (awL h w g Td cl<|stF h w g Td cl allT))(fc:∀ a∈cs,H0 a=none)(E:awL h w g Td cl (stF h w g Td cl allT)≠[])(q:∀(T:Addr) (H':Hp),Same H0 H'->H0 T=none->Sol57 H' h w g Td cl T->IJ H0 H' T->Q (.ref T) H'):
  jE K c d (eD9 Q) [↑P,v1,↑N,↑B,↑Lf] H:=by
 have mm:∀ x∈stF h w g Td cl allT,0<=x:=λx hx=>(X.M.mm x hx).1;have k:=λf=>Fj (h:=h) (w:=w) (g:=g) (Td:=Td) (cl:=cl) (f:=f) mm
 have s:(awL h w g Td cl<|stF h w g Td cl allT).Nodup:=List.Pairwise.filter _ (xj λss J=>by
  obtain⟨x,_,rfl⟩:=Tz.mp J;show jw x)
 have O:=j.len;have D:∀ f,metB h w g Td cl f=true->f∈awL h w g Td cl (stF h w g Td cl allT):=λf o=>(k f).mpr (o,X.inn f o)
 have U:(awL h w g Td cl<|stF h w g Td cl allT).length<=32:=by
  unfold awL;show TU (Ue _ _) ?_;rw[iY,BF];show t
 generalize ab:awL h w g Td cl (stF h w g Td cl allT)=al at*;unfold jE;rw[aC,aA];generalize hW:oo K c d=W at*;symm;rw[bh j.top,Tn];symm;have b:al[0]? =some (al[0]'(Vl.mpr E)):=To _;have lp:=Vl.mpr E;have u:cs[0]? =some (cs[0]'#[4]):=To #[4];have F:=j.at_ 0 _ _ u b;have Y:=fc _<|Tv u;have p:=(k _).mp<|Tv b;have I:atI (cs.map V.ref) ((0:Nat):Int)=some (V.ref<|cs[0]'#[4]):=fG (by rw[Tw,u];rfl);generalize cs[0]'#[4]=F1 at*;generalize al[0]'(Vl.mpr E)=f1 at*;by_cases l1:((cs.length:Nat):Int)=1
 . show gE (Tp l1) ?_;exists ixL j.top (v:=V.ref F1) I ?_;show ixL j.top (v:=V.ref F1) I ?_
   have only:∀ n,metB h w g Td cl n=true->n=f1:=λn o=>by
    have R:=D n o
    match al,O,b,R with
    | [],_,b,_=>cases b
    | [y],_,b,R=>cases b;show TH.mp R
    | _::_::_,O,_,_=>simp at O;lia
   show(P,L,G,N,F1,h,w,g,Td,cl,_,f1,rfl,X.lk,F,p.1,p.2,only,t,λl es xs now H1 s1 hl C A Wx Mx Ix sx=>?_);have ae:=C.len;show Ia (s1 _ _ X.eB) C.top (by have:=X.bl;rw[Tn,Tn];lia) λr hr=>?_;have s2:Same H1 (upd H1 r<|.lst<|bs.map V.ref++es.map V.ref):=(Tu H1).laid hr;have bt:=X.more s1 C A Wx hr;generalize upd H1 r (.lst<|bs.map V.ref++es.map V.ref)=H2 at*;show(lnR rfl,λT i=>?_);have m:=s1.trans s2;show q T _ ((X.s0.trans m).laid i) ((X.s0.trans m).free i) (.inr<|.inr<|.inl (F1,r,f1,now,ah,(m.laid i) _ _ F,p.1,only,.inr t,bt.same<|(Tu H2).laid i,Mx,Ix,sx)) (_,F1,_,ah,Y)
 . show iS (Tq l1) ?_;subst hW;unfold oo;symm;have e1:al[1]? =some (al[1]'#[4]):=To _;have Z:cs[1]? =some (cs[1]'#[4]):=To #[4];have x1:=j.at_ 1 _ _ Z e1;have a1:=(k _).mp<|Tv e1;have i1:atI (cs.map V.ref) ((1:Nat):Int)=some (V.ref<|cs[1]'#[4]):=fG (by rw[Tw,Z];rfl);generalize cs[1]'#[4]=F2 at*;generalize al[1]'#[4]=f2 at*
   have S:f1≠f2:=λe=>by
    match al,s,b,e1 with
    | [],_,b,_=>cases b
    | [_],_,_,e1=>cases e1
    | y::z::r,s,b,e1=>
     cases b;cases e1;rw[e]at s;simp at s
   show ixL j.top (v:=V.ref F1) I ?_;show ixL j.top (v:=V.ref F2) i1 ?_;show(lnR rfl,λT i=>?_);show q T _ (X.s0.laid i) (X.s0.free i) (.inr<|.inr<|.inr (F1,F2,f1,f2,ah,((Tu H).laid i) _ _ F,((Tu H).laid i) _ _ x1,p.1,a1.1,S,.inr t)) (_,F1,_,ah,Y)
def Dj{A:Addr}{cs:List Addr}{v1:Option V}(X:Sv57 H0 H c d P L G N B h w g Td cl bs)(S:0∉stF h w g Td cl allT)(y:prodW (stF h w g Td cl allT)<=2^5)(z:IsLL H A cs (awL h w g Td cl<|stF h w g Td cl allT))(D:∀ a∈cs,H0 a=none)(q:∀(T:Addr) (H':Hp),Same H0 H'->H0 T=none->Sol57 H' h w g Td cl T->IJ H0 H' T->Q (.ref T) H'):
  jF K c d (eD9 Q) [↑P,v1,↑N,↑B,↑A] H:=by
 have I:∀ x∈stF h w g Td cl allT,0<=x:=λx O=>(X.M.mm x O).1;have t:=λf=>Fj (h:=h) (w:=w) (g:=g) (Td:=Td) (cl:=cl) (f:=f) I;unfold jF;rw[aC,aA];generalize hW:jE K c d=W at*;exists(ba #[1],λU F=>?_);have s1:Same H (upd H U<|.lst []):=(Tu H).laid F;have Y:IsLL (upd H U<|.lst []) U [] []:=(ah,rfl,λj a xs e=>by simp at e);generalize upd H U (.lst [])=H1 at*;have i:=X.same s1;show Oh (z.same s1) Y ?_;by_cases e:awL h w g Td cl (stF h w g Td cl allT)=[]
 . show(_,rfl,?_);show gE (Tp e) ?_;symm
   have b:∀ f,metB h w g Td cl f≠true:=λf m=>by
    have:=(t f).mpr (m,X.inn f m);rw[e]at this;cases this
   show(P,L,G,N,h,w,g,Td,cl,_,rfl,i.lk,λf m=>absurd m<|b f,y,λl C xs now n o hl u s R J=>?_);have ab:=u.len;show Ia (o _ _ i.eB) u.top (by have:=X.bl;rw[Tn,Tn];lia) λr v=>?_;have E:Same n (upd n r<|.lst<|bs.map V.ref++C.map V.ref):=(Tu n).laid v;have Z:=i.more o u s R v;generalize upd n r (.lst<|bs.map V.ref++C.map V.ref)=H3 at*;show(lnR rfl,λT p=>?_);have k:=i.s0.trans<|o.trans E;show q T _ (k.laid p) (k.free p) (.inl (r,now,ah,b,.inr y,Z.same<|(Tu H3).laid p,J)) (_,r,_,ah,(i.s0.trans o).free v)
 . show(_,rfl,?_);show iS (Tq e) ?_;symm;subst hW;show Di i S y (z.same s1) D e q
def Dk{v1 r:Option V}(X:Sv57 H0 H c d P L G N B h w g Td cl bs)(j:H0 N=none)(k:H0 B=none)(q:∀(T:Addr) (H':Hp),Same H0 H'->H0 T=none->Sol57 H' h w g Td cl T->IJ H0 H' T->Q (.ref T) H'):
  jG K c d (eD9 Q) [↑P,v1,↑N,↑B,r] H:=by
 have F:=X.pz.R.F;have v:=F.g0;have p:=F.g1;unfold jG;rw[aC,aA];generalize i:or K c d=W at*;exists(N,_,rfl,X.eN,?_);by_cases z:0∈stF h w g Td cl allT
 . rw[Tp z];show(true,rfl,?_);exists(lnR rfl,λT b=>?_);show q T _ (X.s0.laid b) (X.s0.free b) (.inl (B,_,ah,λf o=>O8 (X.inn f o) z,.inl z,X.book.same<|(Tu H).laid b,z)) (_,B,_,ah,k)
 . rw[Tq z];show(false,rfl,?_);symm;subst i;unfold or;rw[aC,aA];generalize i:oq K c d=W at*;exists(N,_,rfl,X.eN,λx t=>pQ v p<|X.M.mm x t,λH1 s1=>?_);have e:=X.same s1;symm;by_cases l:(32:Int) < ((prodW (stF h w g Td cl allT):Nat):Int)
   . show gE (Tp l) ?_;exists(lnR rfl,λT b=>?_);show q T _ (e.s0.laid b) (e.s0.free b) (.inr<|.inl (N,B,ah,((Tu H1).laid b) _ _ e.eN,by lia,e.book.same<|(Tu H1).laid b)) (_,N,_,ah,j)
   . show iS (Tq l) ?_;symm;subst i;unfold oq;generalize i:jF K c d=W at*;symm;have m:prodW (stF h w g Td cl allT)<=2^5:=by change _<=32;lia
     show(P,L,G,N,h,w,g,Td,cl,_,rfl,e.lk,z,TU m #[1],λD cs A y C s n=>?_);symm;subst i;show Dj (e.same y) z m s (λa u=>e.s0.free<|n a u) q
end
def IK:R "puzzle found masks book left" oQ tD K c d:=by
 obtain⟨P,L,G,h,w,g,Td,cl,rfl,a,q⟩:=h;obtain⟨U,p,rs,h1,h2,h3⟩:=a.ex;have F:=a.R.F;have l:=F.g0;have i:=F.g1;ac_nf;unfold tD;generalize D:jG K c d=W at*;exists methE (k:=.Puzzle) rfl a.ok h1 (by rfl) ?_;exists(P,L,G,h,w,g,Td,cl,rfl,a,λp y=>?_);exists(p,h,w,g,rfl,y,F,λA H1 s1 hA u=>?_);have X:=IA (h:=h) (w:=w) l i;intro s o;rw[lF]at o;show(P,L,G,A,s,h,w,g,Td,cl,_,allT,rfl,(a.same s1,u,X.len,X.mm),.inr o,λT N B S Ms now Tj Y x O z J Z hM r I n t e en R=>?_);have M:=(e.okM l i X).1;have tl:=Mp F X e;have bl:=n.len;have m:∀ f,metB h w g Td cl f=true->InM now f:=λf A=>Fw a.R a.C X A (Kv l i A) e;have j:=Kk R;subst j;have b:=s1.trans x;exists ixT r (v:=V.ref N) rfl ?_;exists ixT r (v:=V.ref B) rfl ?_;symm;subst D;show Dk (b,a.same b,I,n.top,by lia,(Ms,Tj,n,e),M,m) (s1.free z) (s1.free J) q
def fz:d:=#[3,∃(A:Addr) (ns:∅),vs=[.ref A,.int (ns.length:Int)]/\H A=↥(ns.map V.int)/\ns.length<=900/\∀ H',Same H H'->Q (.bl true) H']
def hJ:a:=#[":gnIyqrYa0aeZKcpdHbrza0c1ieLFoidsbrzax&-- ub0h#1 IyqrYa1aeZ~OcqrYa1aeZ'lc1cef#0 "]
def tE:R "'found 'many" fz hJ K:=by
 obtain⟨A,ns,rfl,a,l,q⟩:=h;ac_nf;unfold hJ;rw[aC,aA];exists rH a ?_;symm;rw[bh a,Tn];exists((_,TW a),?_);show bE (λ_=>false) (λx=>x) #[4] (TW a) ?_ ?_ ?_
 . intro x c e g f k4;change tOr _ _ [none,⇑x] c e;exists k4 _ (Tu _)
 . intro x c j g b f k4;cases b
 . intro Z k m d i;symm;rw[bh i,Tn,Tn,Vn.mpr (λ_ _=>by simp)];exists q _ d
structure On55(H:Hp)(c:XZ)(d:X8)(P L G T A F B:Addr)(h w g:Int)(Td:List RR)(cl f now:∅):Prop where
 pz:IsPz H c d P L G h w g Td cl
 g3:g<=3
 e:H T=some (.tup [.str<|tx s!"one",.ref F,.ref B])
 e2:H F=↥(f.map V.int)
 eA:H A=↥(f.map V.int)
 met:metB h w g Td cl f=true
 bt:Bt57 H h w g Td cl B now
 M:MkP g (h*w).toNat now
 I:InM now f
 se:setB now=true
variable{T:Addr}{Td:List RR}
def  On55.same{L G A F B:Addr}{f now:∅}(X:On55 H c d P L G T A F B h w g Td cl f now)(s:Same H H'):On55 H' c d P L G T A F B h w g Td cl f now:=(X.pz.same s,X.g3,s _ _ X.e,s _ _ X.e2,s _ _ X.eA,X.met,X.bt.same s,X.M,X.I,X.se)
def ou:f:=#[3,∃ P L G T A F B h w g Td cl f now,vs=[.ref P,.ref T,.ref A]/\On55 H c d P L G T A F B h w g Td cl f now/\∀ H',Same H H'->Q (.bl true) H']
def hV:c:=#[":idsb,'cbjma0adk1ef#2 cx&-- ub2h#1 Ddktaef#1 aef#2 aef#4 cd~a1ef#1 "]
def ow:c:=#[":gnIpdHbrza1cef#3 Iyq,'Fbadk1ef#1 arza2ccpdHbdk1ef#1 2ieLFo_ebjm"]
def yN{L G A F B:Addr}{f now:∅}(X:On55 H c d P L G T A F B h w g Td cl f now)(q:∀ H',Same H H'->Q (.bl true) H'):
  hV K c d (eD9 Q) [↑P,↑T,↑A] H:=by
 have D:=X.pz.R.F.g0;have z:=X.g3;unfold hV;exists ixT X.e (v:=V.ref B) rfl ?_;obtain⟨r,xs,t,bl,x⟩:=X.bt;show(P,L,G,B,r,h,w,g,Td,cl,now,xs,_,rfl,X.pz,t,x,by lia,λl H1 s1 Y u=>?_);symm;have C:=X.same s1;have a:=C.eA;show((_,TW a),?_);have b:=yL X.met;have J:f.length<=16:=by have:=b.1;have:=X.pz.R.F.m;lia
 show bE (xs:=f) (λ_=>true) (λs=>([1,2,4]:∅).getD (s-1).toNat 0) #[4] (TW a) ?_ ?_ ?_
 . intro y i N n p k8;show k8 _ (Tu _)
 . intro y i E n W p k8;have S:=b.2 y n;change tOp cIx _ _ [none,⇑y] i E;exists(lnR rfl,λU o=>?_);show ixI (ns:=[1,2,4]) ah #[4] (by change y-1<3;lia) ?_;show k8 _ ((Tu i).laid o)
 . intro Z O hZ j k;rw[bn]at k;exists wa (j _ _ u) k ?_;rw[Tp<|Pa D z X.M X.I X.se b.2];show q _ (s1.trans j)
def Dl:R "'puzzle 'found 'answer" ou ow K c d:=by
 obtain⟨P,L,G,T,A,F,B,h,w,g,Td,cl,f,now,rfl,X,q⟩:=h;have j:=yL X.met;have l:f.length<=16:=by have:=j.1;have:=X.pz.R.F.m;lia
 ac_nf;unfold ow;rw[aC,aA];generalize i:hV K c d=W at*;symm;rw[o7 X.e];symm;rw[TX (by simp)];show ixT X.e (v:=V.ref F) rfl ?_;rw[bh X.eA,Tn];show(F,f,rfl,X.e2,by lia,λH1 s1=>?_);have a:=X.same s1;show(true,rfl,?_);exists ixT a.e (v:=V.ref F) rfl ?_;show zi a.e2 a.eA ?_;rw[Tp rfl];show(false,rfl,?_);symm;subst i;show yN a λb k=>q b (s1.trans k)
def  St55(H:Hp)(h w g:Int)(Td:List RR)(cl:∅)(v:V):Prop:=(v=.non/\prodW (stF h w g Td cl allT)<=32)\/∃ N,v=.ref N/\32<prodW (stF h w g Td cl allT)/\H N=↥((stF h w g Td cl allT).map V.int)
def  St55.same{v:V}(x:St55 H h w g Td cl v)(s:Same H H'):St55 H' h w g Td cl v:=x.imp id λ⟨N,e,l,e2⟩=>(N,e,l,s _ _ e2)
structure Hd55(H:Hp)(c:XZ)(d:X8)(P L G T Lf:Addr)(v:V)(as:List Addr)(h w g:Int)(Td:List RR)(cl:∅)(fs:List ∅):Prop where
 pz:IsPz H c d P L G h w g Td cl
 g3:g<=3
 so:Sol57 H h w g Td cl T
 xs:IsLL H Lf as fs
 nd:fs.Nodup
 mem:∀ f,f∈fs↔metB h w g Td cl f=true
 st:St55 H h w g Td cl v
 M:MkP g (h*w).toNat (stF h w g Td cl allT)
def  Hd55.same{L G a:Addr}{v:V}{fs:List ∅}(X:Hd55 H c d P L G T a v as h w g Td cl fs)(s:Same H H'):Hd55 H' c d P L G T a v as h w g Td cl fs:=(X.pz.same s,X.g3,X.so.same s,X.xs.same s,X.nd,X.mem,X.st.same s,X.M)
def i7:f:=#[3,∃ P L G T a v as h w g Td cl b,vs=[.ref P,.ref T,.ref a,v]/\Hd55 H c d P L G T a v as h w g Td cl b/\∀ H',Same H H'->Q (.bl true) H']
def gx:c:=#[":gnIpdHbdk1ef#0 evw`0IpdHbrza1cef#3 pdsbdk1ef#1 dk1ef#2 ieLFoiJd[bFdk1ef#1 2Jd[bFdk1ef#2 2rYadk1ef#1 aeZKc",s!"two"]
def gy:c:=#[":gnpdsbrza2cef#1 iJdsbdk1ef#0 evw`0,_fbjma0a1adk2ef#0 co_gbjm",s!"one"]
def gz:c:=#[":gnpdsbrza2cef#0 iJdsbdk1ef#0 evw`0Jdsbrza1cef#2 d[bFef#0 ,'cbjma0adk1ef#1 co_hbjm",s!"none"]
def gA:c:=#[":gnpd~d3eEgnIpdHbdk1ef#0 evw`0IpdHbrza1cef#3 yq,'Fbadk1ef#1 arza3ccieLFoiJdsbdk1ef#1 3dsb,'cbjma0adk1ef#2 c3o_ibjm",s!"rests"]
def mG:c:=#[":gnyqrYa1aeZ~QcieLFo_jbjm"]
def KF(S:Sol57 H h w g Td cl T):∃ xs,H T=some (.tup xs):=by
 rcases S with ⟨B,now,e,_⟩ | ⟨N,B,e,_⟩ | ⟨F,B,f,now,e,_⟩ | ⟨a,b,c,d,e,_⟩ <;> show⟨_,e⟩
section
variable{K:Frag}{c:XZ}{d:X8}{H:Hp}{Q:VK}{P L G T Lf:Addr}{v:V}{as:List Addr}{h w g:Int}{Td:List RR}{cl:∅}{fs:List ∅}
def wM(X:Hd55 H c d P L G T Lf v as h w g Td cl fs)(le:prodW (stF h w g Td cl allT)<=32)(j:fs≠[])(s:fs.length≠1)(q:∀ H',Same H H'->Q (.bl true) H'){N:Option V}:
  gx K c d (eD9 Q) [↑P,↑T,↑Lf,N] H:=by
 unfold gx;rw[aC,aA];rcases X.so with ⟨B,now,e,M,o,p,z⟩ | ⟨W,B,e,e2,n,p⟩ | ⟨F,B,f,now,e,e2,E,only,o,p,R,S,U⟩ | ⟨k,m,I,O,e,e2,l,J,x,t,o⟩
 . obtain⟨f,A⟩:=List.exists_mem_of_ne_nil fs j;show absurd ((X.mem f).mp A) (M f)
 . lia
 . show absurd ?_ s;have i:∀ y∈fs,y=f:=λy D=>only y ((X.mem y).mp D)
   match fs,j,X.nd,i with
   | [],j,_,_=>show absurd rfl j
   | [_],_,_,_=>rfl
   | a::b::r,_,nd,i=>
    have u:=i a<|.head _;have C:=i b<|.tail _<|.head _;rw[u,C]at nd;simp at nd
 . exists ixT e (v:=V.str (tx s!"two")) rfl ?_;symm;rw[o7 e];symm;rw[TX (by simp)];show ixT e (v:=V.ref k) rfl ?_;show ixT e (v:=V.ref m) rfl ?_;show wa e2 l ?_;rw[Tq t];show(false,rfl,?_);exists ixT e (v:=V.ref k) rfl ?_;show Km e2 X.xs ?_;rw[Tp<|(X.mem I).mpr J];show(true,rfl,iteT ?_);show ixT e (v:=V.ref m) rfl ?_;show Km l X.xs ?_;rw[Tp<|(X.mem O).mpr x];show(true,rfl,iteT ?_);show ixT e (v:=V.ref k) rfl ?_;show rH e2 ?_;show q _ (Tu _)
def wN(X:Hd55 H c d P L G T Lf v as h w g Td cl fs)(le:prodW (stF h w g Td cl allT)<=32)(x:fs≠[])(q:∀ H',Same H H'->Q (.bl true) H'){I:Option V}:
  gy K c d (eD9 Q) [↑P,↑T,↑Lf,I] H:=by
 have R:=X.xs.len;unfold gy;rw[aC,aA];generalize D:gx K c d=W at*;symm;rw[bh X.xs.top,Tn];symm;by_cases l:((as.length:Nat):Int)=1
 . show gE (Tp l) ?_;have j:fs.length=1:=by lia
   obtain⟨a,ef⟩:∃ a,fs=[a]:=by
    match fs,j with
    | [a],_=>show(a,rfl)
   have m0:=(X.mem a).mp (by rw[ef];show .head _)
   obtain⟨b,ea⟩:∃ b,as=[b]:=by
    match as,(show as.length=1 by lia) with
    | [b],_=>show(b,rfl)
   have A:H b=↥(a.map V.int):=X.xs.at_ 0 b a (by rw[ea];rfl) (by rw[ef];rfl);have y:atI (as.map V.ref) ((0:Nat):Int)=some (V.ref b):=fG (by rw[ea];rfl);rcases X.so with ⟨B,now,e,E,m,k,z⟩ | ⟨S,B,e,e2,n,k⟩ | ⟨F,B,f,now,e,e2,i,only,m,k,o,t,u⟩ | ⟨M,O,j,J,e,e2,N,C,s,p,m⟩
   . show absurd m0 (E a)
   . lia
   . have r:a=f:=only a m0;subst r;exists ixT e (v:=V.str (tx s!"one")) rfl ?_;exists ixL X.xs.top (v:=V.ref b) y ?_;show(P,L,G,T,b,F,B,h,w,g,Td,cl,a,now,rfl,(X.pz,X.g3,e,e2,A,i,k,o,t,u),q)
   . have h1:=(X.mem j).mpr C;have h2:=(X.mem J).mpr s;rw[ef,TH]at h1 h2;show absurd (h1.trans h2.symm) p
 . show iS (Tq l) ?_;symm;subst D;show wM X le x (λe=>l #[4]) q
def wO(X:Hd55 H c d P L G T Lf v as h w g Td cl fs)(le:prodW (stF h w g Td cl allT)<=32)(q:∀ H',Same H H'->Q (.bl true) H'){A:Option V}:
  gz K c d (eD9 Q) [↑P,↑T,↑Lf,A] H:=by
 have k:=X.xs.len;unfold gz;rw[aC,aA];generalize y:gy K c d=W at*;symm;rw[bh X.xs.top,Tn];symm;by_cases a:((as.length:Nat):Int)=0
 . show gE (Tp a) ?_;have j:fs=[]:=UC #[4];rcases X.so with ⟨B,now,e,Y,m,i,z⟩ | ⟨U,B,e,e2,n,i⟩ | ⟨F,B,f,now,e,e2,b,only,m,i,D,M,N⟩ | ⟨C,S,u,Z,e,e2,E,x,J,I,m⟩
   . exists ixT e (v:=V.str (tx s!"none")) rfl ?_;symm;rw[o7 e];symm;rw[TZ (by simp)];show ixT e (v:=V.ref B) rfl ?_;obtain⟨o,xs,r,bl,s⟩:=i;show(P,L,G,B,o,h,w,g,Td,cl,now,xs,_,rfl,X.pz,r,s,by lia,λl O t R p=>?_);symm;rw[HY p,Tp z];show q _ t
   . lia
   . have:=(X.mem f).mpr b;rw[j]at this;cases this
   . have:=(X.mem u).mpr x;rw[j]at this;cases this
 . show iS (Tq a) ?_;symm;subst y;show wN X le (λe=>a (by rw[e]at k;have:as.length=0:=k;lia)) q
def wP(X:Hd55 H c d P L G T Lf v as h w g Td cl fs)(q:∀ H',Same H H'->Q (.bl true) H'):
  gA K c d (eD9 Q) [↑P,↑T,↑Lf,some v] H:=by
 have C:=X.pz.R.F.m;have ml:=X.M.len;unfold gA;rw[aC,aA];generalize y:gz K c d=W at*;rcases X.st with ⟨rfl,A⟩ | ⟨N,rfl,l,k⟩
 . symm;subst y;show wO X A q
 . have a:¬ ID h w g Td cl:=λb=>by
    rcases b with z | z
    . rw[IF z]at l;lia
    . lia
   exists gE (by rw[Tq (λe=>by cases e)];rfl) ?_;rcases X.so with ⟨B,now,e,no,b,j,z⟩ | ⟨i,B,e,e2,n,j⟩ | ⟨F,B,f,now,e,e2,u,only,b,j,E,S,U⟩ | ⟨D,F2,f1,f2,e,e2,I,m1,O,J,b⟩
   . show absurd b a
   . symm;rw[aA];exists ixT e (v:=V.str (tx s!"rests")) rfl ?_;symm;rw[o7 e];symm;rw[TX (by simp)];show ixT e (v:=V.ref i) rfl ?_;rw[bh k,Tn];show(i,_,rfl,e2,by lia,λH1 s1=>?_);show(true,rfl,?_);have x:=X.same s1;exists ixT (s1 _ _ e) (v:=V.ref i) rfl ?_;show wa (s1 _ _ e2) (s1 _ _ k) ?_;rw[Tp rfl];show(true,rfl,iteT ?_);show ixT (s1 _ _ e) (v:=V.ref B) rfl ?_;obtain⟨p,xs,s,bl,t⟩:=j.same s1;show(P,L,G,B,p,h,w,g,Td,cl,_,xs,_,rfl,x.pz,s,t,by lia,λl Y o Z r=>?_);exists wa r (o _ _<|s1 _ _ k) ?_;rw[Tp rfl];show q _ (s1.trans o)
   . show absurd b a
   . show absurd b a
end
def BP:R "'puzzle 'found 'fillings 'stop_here" i7 mG K c d:=by
 obtain⟨P,L,G,T,f,v,as,h,w,g,Td,cl,e,rfl,X,q⟩:=h;obtain⟨i,a⟩:=KF X.so;ac_nf;unfold mG;generalize b:gA K c d=W at*;rw[aC,aA];exists zn a ?_;symm;subst b;show wP X q
def ND{σ:St}(q:∀(l:Addr) (H':Hp),Same H H'->H l=none->KdL H' l allT->Q (.ref l) H'):tGT K aX σ H λx H1=>E2 K [x] H1 Q:=by
 rw[OF];intro u b;rw[lF]at b;show(u,_,rfl,.inr b,λl a=>q l _ ((Tu H).laid a) a ah)
def mH:f:=#[3,∃ P L G h w g Td cl,vs=[.ref P,.int<|h*w,.int g]/\IsPz H c d P L G h w g Td cl/\2<=g/\g<=3/\∀ v H',Same H H'->St55 H' h w g Td cl v->MkP g (h*w).toNat (stF h w g Td cl allT)->Q v H']
def jr:c:=#[":gnpd>4ef#32 i3oieE"]
def gB:c:=#[":glef#1 h#4 gGub3h#5 ld-4dktaef#0 aef#1 aef#1 aef#2 aef#1 aef#2 aef#2 aef#3 c5h#4 _kbjm"]
def mI:c:=#[":gldk,~fbjma0ad~]tadktaef#3 aef#7 cd~a2ef#2 c1ar_lba]b:ccef#0 h#3 _mbjm"]
def wQ{L G N:Addr}{v0 v1 v2:Option V}(r:IsPz H c d P L G h w g Td cl)(u:g<=3)(j:H N=↥((stF h w g Td cl allT).map V.int))(M:MkP g (h*w).toNat (stF h w g Td cl allT))(q:∀ v H',Same H H'->St55 H' h w g Td cl v->MkP g (h*w).toNat (stF h w g Td cl allT)->Q v H'):
  gB K c d (eD9 Q) [v0,v1,v2,↑N,none,none] H:=by
 have z:=r.R.F.g0
 have p:∀ m∈stF h w g Td cl allT,0<=m/\m<8:=λm a=>by
  have b:=M.mm m a;have e:g=1\/g=2\/g=3:=by lia
  show(b.1,?_);rcases e with rfl | rfl | rfl
  . show Int.lt_trans b.2 #[1]
  . show Int.lt_trans b.2 #[1]
  . show b.2
 unfold gB;generalize n:jr K c d=W at*;exists((_,TW j),?_)
 show bI (K:=K) (xs:=(stF h w g Td cl allT).map V.int) (λi σ H'=>∃ f:Option V,σ=[v0,v1,v2,↑N,⇑((prodW ((stF h w g Td cl allT).take i):Nat):Int),f]/\Same H H')
  (none,rfl,Tu H) (λi y H' _ ⟨_,_,s⟩=>TW<|s _ _ j) ?_ ?_
 . rintro i x σ H1 o ⟨f,rfl,s1⟩;obtain⟨m,a,rfl⟩:=aI o;have b:=p m<|Tv a;have t:=O9 b.1 b.2;exists(lnR rfl,λU k=>?_);show ixI (ns:=tb8) ah b.1 (by change m<8;show b.2) ?_;rw[t.1];have A:=t.2;show(.inr (by lia,by lia),?_);show(⇑m,?_,s1.laid k);rw[Kw a,Int.natCast_mul]
 . rintro σ H1 ⟨f,rfl,s1⟩;rw[Tn,UF];subst n;unfold jr;dsimp only;rw[aC,aA];symm;by_cases l:(32:Int) < ((prodW (stF h w g Td cl allT):Nat):Int)
   . show gE (Tp l) ?_;show q _ _ s1 (.inr (N,rfl,by lia,s1 _ _ j)) M
   . show iS (Tq l) ?_;show q _ _ s1 (.inl (rfl,by lia)) M
def BQ:R "'puzzle 'many 'signs 'masks 'number 'mask" mH mI K c d:=by
 obtain⟨P,L,G,h,w,g,Td,cl,rfl,k,g2,D,q⟩:=h;obtain⟨h0,h1,w0,w1,ae,l,g1⟩:=id k.R.F;have f:0<=h*w:=Vs #[4] #[4];ac_nf;unfold mI;generalize hW:gB K c d=W at*;exists(lnR rfl,λU s=>?_);have s1:Same H (upd H U<|.lst<|([3,7]:∅).map V.int):=(Tu H).laid s;have u:(upd H U<|.lst<|([3,7]:∅).map V.int) U=↥(([3,7]:∅).map V.int):=ah;change cIx (V.ref U) (V.int<|g-2) (upd H U<|.lst<|([3,7]:∅).map V.int) _;generalize upd H U (.lst<|([3,7]:∅).map V.int)=H1 at*;show ixI u #[4] (by change g-2<2;lia) ?_
 have t:([3,7]:∅).getD (g-2).toNat 0=2^g.toNat-1:=by
  have e:g=2\/g=3:=by lia
  rcases e with rfl | rfl <;> rfl
 rw[t];show(lnR rfl,λp Z=>?_);have s2:Same H1 (upd H1 p<|.lst [V.int<|2^g.toNat-1]):=(Tu H1).laid Z;show Eh ah f #[4] (by change(1:Nat)<=1;decide) λA hA=>?_;rw[Fc];have r:Same (upd H1 p<|.lst [V.int<|2^g.toNat-1]) (upd (upd H1 p<|.lst [V.int<|2^g.toNat-1]) A<|.lst<|(fuL h w g).map V.int):=(Tu _).laid hA;have Y:(upd (upd H1 p<|.lst [V.int<|2^g.toNat-1]) A<|.lst<|(fuL h w g).map V.int) A=↥((fuL h w g).map V.int):=ah;have i:=(s1.trans s2).trans r;generalize hH:upd (upd H1 p<|.lst [V.int<|2^g.toNat-1]) A (.lst<|(fuL h w g).map V.int)=H3 at*;show ND λJ H4 m ab n=>?_;have X:=IA (h:=h) (w:=w) l (show g<=6 by lia);have a:=i.trans m;show(P,L,G,A,J,h,w,g,Td,cl,_,allT,rfl,(k.same a,m _ _ Y,X.len,X.mm),.inl n,λT N B bs Ms now Tj H5 o hT hN hB hb hM I eN Bk O S en Rr=>?_);have M:=(S.okM l (show g<=6 by lia) X).1;have j:=Kk Rr;subst j;show ixT I (v:=V.ref N) rfl ?_;symm;subst hW;have b:=a.trans o;show wQ (k.same b) D eN M λv z y x C=>q v z (b.trans y) x C
def KG:f:=#[3,∃(a:Addr) (ns:∅),vs=[.ref a]/\SqL K H a (ns.map V.int)/\ns.length<=63/\(∀ k,k≠.Rule->allK k=false->c.ok k=true)/\d.ok .Puzzle=true/\H (tabP K "_law_rule")=some (.tbl #[])/\∀ H',Q (.bl true) H']
def BR:d:=#[3,∃(a:Addr) (ns:∅),vs=[.ref a]/\SqL K H a (ns.map V.int)/\ns.length<=63/\H (tabP K "_law_rule")=some (.tbl #[])/\∀ H',Q (.bl true) H']
def IL:c:=#[":*ObK~k|aa,_nba5a|bad^9ef#4 cc"]
def tF:c:=#[":gnqrYadk|fef#1 aeZKc*~-bK_odk|fef#1 oi,'Gbjma|ca,'Hbjma|cca|da|ec"]
def oR:c:=#[":gl,'Hbjma|cch#15 gnyq,'Gbjma|ca|fa|da|ecieLFo_pbjm"]
def oS:c:=#[":gl,_qba5a|aa7ch#13 gl,_rbjma|ca4a5ch#14 _sbjm"]
def oT:c:=#[":gl~i_t_u_vbjm=~jaNa2a3a5cax&-- ub|ah#1 D,_wba1ca7ch#12 _xbjm"]
def qt:c:=#[":gltch#10 gG~sadTd^1ef#3000 ef#5 ch#8 gldTd-dA,'dba0adAef#1 8cd-ef#137 8ef#16807 ef#1000003 h#9 glr~ma6ch#11 gn'gpdsb8ef#1 pdsbdT9ef#4 ef#0 ldA~b~c|b/ef#1 ~p~b~c|b~p/ef#1 h#11 o_ybjm_zbjm"]
def qu:c:=#[":gnpdsbdTd^1ef#12 ef#6 ef#5 ldAef#1 dTd^1ef#500 5_A7dTd^1ef#72 4_Bo_Cbjm"]
def qv:c:=#[":gltch#6 gltch#7 gG~sa4ch#8 gldTd-dA,'dba0adAef#6 8cd-d-ef#113 88ef#48271 ef#65521 h#9 g*ObK~k6adAef#1 dT95c*ObK~k7adktaef#0 adk68aef#0 aef#0 cdTd^9ef#10 ef#4 c_Dbjm"]
def vj:c:=#[":gld-23h#4 gldAef#2 dTd^1ef#6 ef#2 h#5 gnpd>4ef#5 lef#2 h#5 o_Ebjm"]
def vk:c:=#[":gldktaNaef#1 aef#2 caNaef#2 aef#2 caNaef#1 aef#5 caNaef#2 aef#3 caNaef#3 aef#1 caNaef#2 aef#2 ccdT1ef#6 Vb#2 Ch#2 Ch#3 W_Fbjm"]
def FK:c:=#[":gldTd-,'dba0aef#0 cef#30011 ef#65537 h#1 _Gbjm"]
def TbOk.own55{l c:Nat}{xs:List V}{o:HO}(x:TbOk l c q H P)(e:H R=↥xs):TbOk l c q (upd H R o) P:=by
 rcases x with b | ⟨a,b,d⟩
 . show .inl (by rw[ak (λz=>by rw[z,e]at b;cases b)];show b)
 . show .inr (a,by rw[ak (λz=>by rw[z,e]at b;cases b)];show b,by rw[ak (λz=>by rw[z,e]at d;cases d)];show d)
variable{a:Addr}
def PR{xs:List V}{l c:Nat}(h:SqL K H a xs)(T:TbOk l c q H P)(s:SameX P H H'):SqL K H' a xs:=by
 rcases h with h | h
 . show .inl ?_
   have f:∀{u:HO},H a=some u->(∀ b,u≠.tbl b)->a≠P:=λe n z=>by
    rcases T with d | ⟨_,d,_⟩ <;> (rw[z,d]at e;cases e;show n _ rfl)
   rcases h with e | ⟨o,e⟩
   . show .inl (s _ _ (f e λb z=>by cases z) e)
   . show .inr (o,s _ _ (f e λb z=>by cases z) e)
 . show .inr h
def LY{b:Hp}{xs:List V}{o:HO}(d:SqL K H a xs)(f:H R=none)(h4:SqL K b a xs):SqL K (upd b R o) a xs:=by
 rcases d with h | h
 . have c:a≠R:=λz=>by rcases h with e | ⟨_,e⟩ <;> (rw[z,f]at e;cases e)
   rcases h4 with e | e
   . show .inl ?_;rcases e with e | ⟨u,e⟩
     . show .inl (by rw[ak c];show e)
     . show .inr (u,by rw[ak c];show e)
   . show .inr e
 . show .inr h
def IM{G:Nat}:∀{sss:List ∅},(∀ ss∈sss,ss.length<=G)->prodL sss<=G^sss.length:=by
 have b:∀(sss:List ∅) (n m:Nat),(∀ ss∈sss,ss.length<=G)->n<=m->sss.foldl (λn ss=>n*ss.length) n<=m*G^sss.length:=by
  intro sss
  induction sss with
  | nil=>intro n m _ h;simpa using h
  | cons ss r c=>
   intro n m a h;rw[Ul,T8,Nat.pow_succ];show TU (c (n*ss.length) (m*G) (λx d=>a x<|.tail _ d)<|Vg h<|a ss<|.head _) ?_;rw[Xg,XX G];show TQ _
 intro sss h;have:=b sss 1 1 h<|TQ _;rw[Nat.one_mul]at this;show this
def Rs55.sx{l c:Nat}{A:Addr}{xs:List LR}(X:Rs55 H R Ts Cs xs h w g)(T:TbOk l c q H A)(s:SameX A H H'):Rs55 H' R Ts Cs xs h w g:=by
 show(s _ _ (T.ne X.R) X.R,X.tl,X.cl,λi t D x e1 e2 b=>?_,X.ok);have Y:=X.at_ i t D x e1 e2 b;show(s _ _ (λz=>?_) Y.T,s _ _ (T.ne Y.C) Y.C);have y:=Y.T;rcases T with a | ⟨_,a,_⟩ <;> (rw[z,a]at y;cases y)
def Rs55.snoc{xs:List LR}(X:Rs55 H R Ts Cs xs h w g)(m:R∉Cs)(n:C≠R)(Y:IsLR H T C x)(O:x.Ok55 h w g):Rs55 (upd H R<|.lst<|Ts.map V.ref++[V.ref T]) R (Ts++[T]) (Cs++[C]) (xs++[x]) h w g:=by
 have k:=X.tl;have cl:=X.cl
 have f:∀{o:HO} {T C:Addr} {x:LR},IsLR H T C x->C≠R->IsLR (upd H R o) T C x:=λ{o T C x} Y n=>by
  have p:T≠R:=λe=>by have y:=Y.T;rw[e,X.R]at y;cases y
  show(by rw[ak p];show Y.T,by rw[ak n];show Y.C)
 show(by rw[ah,UJ];rfl,by simp[k],by simp[cl],λi j l q e1 e2 a=>?_,λy b=>?_)
 . rcases Vm i Ts.length with c | c
   . rw[Ub c]at e1;rw[Ub #[4]]at e2 a;show f (X.at_ i j l q e1 e2 a) (λe=>m<|e ▸ Tv e2)
   . rw[Uc c]at e1;rw[Uc #[4]]at e2 a;have d:i=Ts.length:=by have:=(Tr.mp e1).1;simp at this;lia
     rw[d,Xx]at e1;rw[d,show Ts.length-Cs.length=0 by lia]at e2;rw[d,show Ts.length-xs.length=0 by lia]at a;cases e1;cases e2;cases a;show f Y n
 . rcases Ud.mp b with b | b
   . show X.ok y b
   . rw[TH.mp b];show O
def KH{x:Addr}{t:V}{ys:List V}(S:Sol57 H h w g Td cl T)(a:H T=some (.tup (t::.ref x::ys))):∃ zs,H x=↥zs:=by
 rcases S with ⟨B,now,e,_,_,c,_⟩ | ⟨N,B,e,e2,_⟩ | ⟨F,B,f,now,e,e2,_⟩ | ⟨d,k,j,l,e,e2,_⟩
 . rw[e]at a;cases a;obtain⟨i,xs,b,_⟩:=c;show(_,b.top)
 . rw[e]at a;cases a;show(_,e2)
 . rw[e]at a;cases a;show(_,e2)
 . rw[e]at a;cases a;show(_,e2)
structure tG(h w g:Int):Prop where
 F:FlOk h w g
 m1:1<=h*w
 g2:2<=g
 g3:g<=3
 big:g.toNat^(h*w).toNat<=900
section
variable{K:Frag}{c:XZ}{d:X8}{H:Hp}{Q:VK}{P L G C R Lf a f:Addr}{v:V}{as Ts Cs:List Addr}{h w g:Int}{Td:List RR}{cl ns fl:∅}{fs:List ∅}{xs:List LR}{v0 v1 v2 v3 v4 v5 v6 v7 v8 v9 v10 v11:Option V}
def IN(i:IsPz H c d P L G h w g Td cl)(p:g<=3)(r:IsLL H Lf as fs)(s:fs.Nodup)(e:∀ f,f∈fs↔metB h w g Td cl f=true)(st:St55 H h w g Td cl v)(M:MkP g (h*w).toNat (stF h w g Td cl allT))(q:∀ H',Q (.bl true) H'):
  oR K c d (eD9 Q) [v0,v1,v2,v3,v4,v5,v6,v7,v8,v9,v10,v11,↑P,↑Lf,some v,none] H:=by
 unfold oR;generalize F:tF K c d=W at*;exists(P,L,G,h,w,g,Td,cl,rfl,i,λT H1 s1 J S u=>?_);exists(P,L,G,T,Lf,v,as,h,w,g,Td,cl,fs,rfl,(i.same s1,p,S,r.same s1,s,e,st.same s1,M),λo l=>?_);show(true,rfl,?_);symm;obtain⟨t,x,C,D,A⟩:=u;have b:=l _ _ D;have n:atI (t::V.ref x::C) 1=some (V.ref x):=fG (j:=1) rfl;obtain⟨O,k⟩:=KH (S.same l) b;subst F;unfold tF;rw[aC,aA];exists ixT b (v:=V.ref x) n ?_;show rH k ?_;exists ixT b (v:=V.ref x) n ?_;show(bB k,?_);show MM k ?_;have m:Same H (upd o x<|.lst []):=(s1.trans l).own A;generalize upd o x (.lst [])=H3 at*;exists(P,L,G,h,w,g,Td,cl,rfl,i.same m,λz R E y B _=>?_);have a:=m.trans E;show(P,L,G,z,Lf,v,as,h,w,g,Td,cl,fs,rfl,(i.same a,p,B,r.same a,s,e,st.same a,M),λN I=>q _)
def IO(a:IsPz H c d P L G h w g (xs.map LR.rr55) cl)(D:tG h w g)(r:H C=↥(cl.map V.int))(X:Rs55 H R Ts Cs xs h w g)(j:xs.length<=12)(q:∀ H',Q (.bl true) H'):
  oS K c d (eD9 Q) [v0,v1,v2,v3,⇑(h*w),⇑g,v6,↑C,v8,v9,↑R,v11,↑P,none,none,none] H:=by
 unfold oS;generalize n:oR K c d=W at*;symm;have s:=a.C.1;show(C,R,Ts,Cs,h,w,g,cl,xs,rfl,a.R.F,r,a.C,X,j,?_,λl as fs t i z o m b x=>?_)
 . show TU (IM (G:=g.toNat) λss p=>?_) ?_
   . obtain⟨y,_,rfl⟩:=Tz.mp p;show(FJ a.R.F.g0).2
   . rw[Tn,s];show D.big
 . exists(P,L,G,h,w,g,_,cl,rfl,a.same i,D.g2,D.g3,λv u f k M=>?_);symm;subst n;have e:=i.trans f;show IN (a.same e) D.g3 (o.same f) m b k M q
def IP(D:tG h w g)(hk:∀ k,k≠.Rule->allK k=false->c.ok k=true)(ok:d.ok .Puzzle=true)(u:H C=↥(cl.map V.int))(J:CluesOk h w g cl)(X:Rs55 H R Ts Cs xs h w g)(N:xs.length<=12)(q:∀ H',Q (.bl true) H'):
  oT K c d (eD9 Q) [v0,v1,⇑h,⇑w,⇑(h*w),⇑g,v6,↑C,v8,v9,↑R,v11,none,none,none,none] H:=by
 have F:=D.F;have tl:=X.tl;have xc:=X.cl
 have j:∀ r∈xs.map LR.rr55,r.Ok h w g:=λr a=>by
  obtain⟨x,n,rfl⟩:=Tz.mp a;show LR.rr55_ok F (X.ok x n)
 have z:∀ r∈xs.map LR.rr55,allK r.k=false:=λr a=>by
  obtain⟨x,n,rfl⟩:=Tz.mp a;show(X.ok x n).ha
 have Ro:bY c h w g (xs.map LR.rr55):=(F,by rw[Tn];lia,j,λr a=>hk _ (j r a).k0<|z r a,z);unfold oT;generalize hW:oS K c d=W at*;exists(lnR rfl,λp hp=>?_);have s1:Same H (upd H p<|.tup [V.int h,V.int w,V.int g]):=(Tu H).laid hp;have Z:IsFl (upd H p<|.tup [V.int h,V.int w,V.int g]) p h w g:=ah;generalize upd H p (.tup [V.int h,V.int w,V.int g])=H1 at*;have o:=X.same s1;show((_,TW o.R),?_);show dM (xs:=Ts.map V.ref) (λ_=>true) (λi=>((xs[i]?).map λx=>V.str x.rr55.txt).getD .non) (by rw[Tn];lia) (TW o.R) ?_ ?_ ?_
 . intro i y E R8 v t k8;show k8 _ (Tu _)
 . intro i y E Q8 v hb t k8;obtain⟨T,s,rfl⟩:=aY v;have b:i<Ts.length:=(Tr.mp s).1;have hC:Cs[i]? =some (Cs[i]'#[4]):=To #[4];have B:xs[i]? =some (xs[i]'#[4]):=To #[4];have Y:=(o.at_ i T _ _ s hC B).same t;have O:=X.ok _ (T0 (show i<xs.length by lia));rw[B]at k8;change tCall _ _ _ _ [none,↑T] E Q8;exists(T,_,_,h,w,g,rfl,F,Y,O,λM S=>k8 M S)
 . intro l H2 hl A m;rw[bn,Tn]at m
   have e2:(List.range Ts.length).map (λi=>((xs[i]?).map λx=>V.str x.rr55.txt).getD V.non)=((xs.map LR.rr55).map RR.txt).map V.str:=by
    show U0 λi=>?_;rw[Uq,Uq,Tw,Tw];rcases Vm i xs.length with b | b
    . rw[UE #[4],To b];change some (((xs[i]?).map λx=>V.str x.rr55.txt).getD V.non)=_;rw[To b];rfl
    . rw[TV (by rw[UG];lia),TV b];rfl
   rw[e2]at m;symm;have f:=s1.trans A;show Os ok (A _ _ Z) m (f _ _ u) Ro J λP L G H3 I hP hL hG U=>?_;symm;subst hW;have e:=f.trans I;show IO U D (e _ _ u) (X.same e) N q
def NE {D:Ends} {t:Addr} {f:∅} {z:Int} {j i l m:Option V} (X:Rs55 H R Ts Cs xs h w g) (s:R∉Cs) (E:xs.length<=9) (T:jo K H) (Y:Rw53 H t h w g f)
  (k:∀ a p b x,FD K H a->jo K a->a R=↥(Ts.map V.ref)->∀ n,Rs55 (upd a R<|.lst<|Ts.map V.ref++[V.ref n]) R p b (xs++[x]) h w g->R∉b->D.nx [v0,v1,v2,v3,v4,⇑g,v6,v7,v8,⇑z,↑R,↑t,j,i,l,m] (upd a R<|.lst<|Ts.map V.ref++[V.ref n])):
  IL K c d D [v0,v1,v2,v3,v4,⇑g,v6,v7,v8,⇑z,↑R,↑t,j,i,l,m] H:=by
 have C:=X.tl;unfold IL;exists(bB X.R,?_);show((by decide,by decide),?_);show(t,h,w,g,_,f,rfl,Y,T,λn v x a r y B u O A=>?_);dsimp only;have o:=X.sx T r;have q:v≠R:=λe=>by rw[e,X.R]at u;cases u
 rw[gJ o.R];show(by rw[Tn];show aH #[4],k a _ _ x r y o.R n (o.snoc s q A O) (by simp[s];show λe=>q e.symm))
def CL(hS:SqL K H a (ns.map V.int))(hn:ns.length<=63)(D:tG h w g)(hk:∀ k,k≠.Rule->allK k=false->c.ok k=true)(ok:d.ok .Puzzle=true)(T:jo K H)(ef:H f=↥(fl.map V.int))(E:fl.length=(h*w).toNat)(J:∀ x∈fl,1<=x/\x<=g)(Y:H C=↥(cl.map V.int))(co:CluesOk h w g cl){y:Int}(q:∀ H',Q (.bl true) H'):
  qt K c d (eD9 Q) [↑a,⇑y,⇑h,⇑w,⇑(h*w),⇑g,↑f,↑C,v8,v9,none,none,none,none,none,none] H:=by
 have n0:=U5 (y/3000) (show(5:Int)≠0 by decide);have n1:=US (y/3000) (show(0:Int)<5 by decide);have al:=D.F.m;unfold qt;generalize hU:IL K c d=U at*;generalize hW:oT K c d=W at*;exists(ba #[1],λR L=>?_);have s1:Same H (upd H R<|.lst []):=(Tu H).laid L;have X1:Rs55 (upd H R<|.lst []) R [] [] [] h w g:=(ah,rfl,rfl,λi T D x e=>by simp at e,λx u=>nomatch u);have nf:f≠R:=λe=>by rw[e,L]at ef;cases ef
 have ag:C≠R:=λe=>by rw[e,L]at Y;cases Y
 generalize upd H R (.lst [])=H1 at*;show((by decide,by decide),by decide,?_);generalize y/3000%5=n at*;show(n,rfl,by lia,by lia,?_);show qd (λi σ H'=>∃(v8 v9 v11:Option V) (Ts Cs:List Addr) (xs:List LR),σ=[↑a,⇑y,⇑h,⇑w,⇑(h*w),⇑g,↑f,↑C,v8,v9,↑R,v11,none,none,none,none]/\SqL K H' a (ns.map V.int)/\jo K H'/\H' f=↥(fl.map V.int)/\H' C=↥(cl.map V.int)/\Rs55 H' R Ts Cs xs h w g/\R∉Cs/\xs.length=i) (_,_,_,[],[],[],rfl,s1.seq hS,T.same s1,s1 _ _ ef,s1 _ _ Y,X1,by simp,rfl) ?_ ?_
 . rintro i σ H3 hi ⟨P,Z,I,Ts,Cs,xs,rfl,v,T3,s,l,O,nC,xl⟩;have tl:=O.tl;rw[WL];exists(a,ns,_,rfl,v,hn,by lia,by lia,?_);exists(.inl (by decide,by decide),.inr (by decide,by decide),by decide,?_);generalize (Fx ns (1+(i:Int))+137*(i:Int))*16807%1000003=z at*;show o8 s λt ht=>?_;obtain⟨H4,A,s4,M⟩:=bp (.lst<|fl.map V.int) ht;rw[A]
   have fin:∀{D:Ends} (t2:Addr) (j:∅) (B:Hp),Same H3 B->B t2=↥(j.map V.int)->j.length=(h*w).toNat->(∀ x∈j,1<=x/\x<=g)->(∀ σ H',(∃(v8 v9 v11:Option V) (Ts Cs:List Addr) (xs:List LR),σ=[↑a,⇑y,⇑h,⇑w,⇑(h*w),⇑g,↑f,↑C,v8,v9,↑R,v11,none,none,none,none]/\SqL K H' a (ns.map V.int)/\jo K H'/\H' f=↥(fl.map V.int)/\H' C=↥(cl.map V.int)/\Rs55 H' R Ts Cs xs h w g/\R∉Cs/\xs.length=i+1)->D.nx σ H')->U D [↑a,⇑y,⇑h,⇑w,⇑(h*w),⇑g,↑f,↑C,⇑(i:Int),⇑z,↑R,↑t2,none,none,none,none] B:=λ{D} t2 j B b e5 l5 b5 kk=>by
    subst hU;have N:=T3.same b;show NE (O.same b) nC #[4] N (‹tG h w g›.F,e5,l5,b5,‹tG h w g›.m1) λH6 ae S x X T6 aj T' X6 ab=>?_;show kk _ _ (_,_,_,ae,S,xs++[x],rfl,LY hS L<|PR (b.seq v) N X,T6.own55 aj,by rw[ak nf];show X _ _ (N.ne<|b _ _ s)<|b _ _ s,by rw[ak ag];show X _ _ (N.ne<|b _ _ l)<|b _ _ l,X6,ab,by simp[xl])
   rw[aA];symm;by_cases i1:(i:Int)=1
   . show gE (Tp i1) ?_;show(by decide,?_);by_cases z4:z%4=0
     . show gE (Tp z4) ?_;exists qg M λp hp=>?_;rw[EB];obtain⟨B,A,b,ep⟩:=bp (.lst<|(fl.map V.int).drop 1) hp;rw[A];exists qg (b _ _ M) λr hr=>?_;rw[yp _ #[1]];obtain⟨H6,A,s6,er⟩:=bp (.lst<|(fl.map V.int).take (1:Int).toNat) hr;rw[A];show rJ (s6 _ _ ep) er (by rw[Xi,Uu,Tn];lia) λo ho=>?_;symm;have af:=s4.trans<|b.trans s6;show fin o (fl.drop 1++fl.take 1) _ (af.laid ho) (by rw[ah,UJ,XN,VC];rfl) ?_ (λx u=>?_) λσ H' G=>G
       . rw[TJ,Xi,Uu];have:=‹tG h w g›.m1;lia
       . rcases Ud.mp u with u | u
         . show J x (Wu u)
         . show J x (VU u)
     . show iS (Tq z4) ?_;exists fin t fl _ s4 M E J λσ H' G=>G
   . show iS (Tq i1) ?_;exists fin t fl _ s4 M E J λσ H' G=>G
 . rintro σ H3 ⟨P,Z,I,Ts,Cs,xs,rfl,v,T3,s,l,O,nC,xl⟩;subst hW;show IP D hk ok l co O #[4] q
end
section
variable{K:Frag}{c:XZ}{d:X8}{H:Hp}{Q:VK}{C a f:Addr}{h w g y:Int}{cl ns fl:∅}{v8 v9:Option V}
def KI(p:SqL K H a (ns.map V.int))(z:ns.length<=63)(D:tG h w g)(v:∀ k,k≠.Rule->allK k=false->c.ok k=true)(A:d.ok .Puzzle=true)(T:jo K H){H1:Hp}(s1:Same H H1)(L:H C=none)(i:f≠C)(s:H1 f=↥(fl.map V.int))(b:fl.length=(h*w).toNat)(n:∀ x∈fl,1<=x/\x<=g)(r:H1 C=↥(cl.map V.int))(e:CluesOk h w g cl)(q:∀ H',Q (.bl true) H'):
  qu K c d (eD9 Q) [↑a,⇑y,⇑h,⇑w,⇑(h*w),⇑g,↑f,↑C,v8,v9,none,none,none,none,none,none] H1:=by
 have M:=D.g2;have P:=D.m1;unfold qu;rw[aC,aA];generalize t:qt K c d=W at*;exists((by decide,by decide),by decide,?_);by_cases o:y/12%6=5
 . show gE (Tp o) ?_;show((by decide,by decide),by lia,?_);have O:=U5 (y/500) (show g≠0 by lia);have N:=US (y/500) (show 0<g by lia);have J:0<=1+y/500%g:=by lia
   have F:1+y/500%g<=g:=by lia
   generalize 1+y/500%g=x at*;show((by decide,by decide),by lia,?_);have B:=U5 (y/72) (show h*w≠0 by lia);have R:=US (y/72) (show 0<h*w by lia);generalize y/72 % (h*w)=j at*;have I:=e.1;show Pw r B (by rw[Tn];lia) ?_;have E:(upd H1 C<|.lst<|(cl.map V.int).set j.toNat<|.int x) C=↥((cl.set j.toNat x).map V.int):=by rw[ah,List.map_set]
   have m:Same H (upd H1 C<|.lst<|(cl.map V.int).set j.toNat<|.int x):=s1.own L;have G:(upd H1 C<|.lst<|(cl.map V.int).set j.toNat<|.int x) f=↥(fl.map V.int):=by rw[ak i];show s
   generalize upd H1 C (.lst<|(cl.map V.int).set j.toNat<|.int x)=H3 at*;subst t;show CL (m.seq p) z D v A (T.same m) G b n E (by rw[XD];show I,λu l=>?_) q;rcases V2 l with l | rfl
   . show e.2 u l
   . show(J,F)
 . show iS (Tq o) ?_;subst t;show CL (s1.seq p) z D v A (T.same s1) s b n r e q
def CM(J:SqL K H a (ns.map V.int))(O:ns.length<=63)(D:tG h w g)(hk:∀ k,k≠.Rule->allK k=false->c.ok k=true)(ok:d.ok .Puzzle=true)(T:jo K H)(q:∀ H',Q (.bl true) H'):
  qv K c d (eD9 Q) [↑a,⇑y,⇑h,⇑w,⇑(h*w),⇑g,none,none,none,none,none,none,none,none,none,none] H:=by
 have g2:=D.g2;have m1:=D.m1;have ab:=D.F.m;unfold qv;generalize hW:qu K c d=W at*;exists(ba #[1],λf L=>?_);obtain⟨H0,z9,s0,ef⟩:∃ z,upd H f (.lst [])=z/\Same H z/\z f=↥(([]:∅).map V.int):=bp _ L;rw[z9];show(ba #[1],λC s=>?_);have s1:Same H0 (upd H0 C<|.lst []):=(Tu H0).laid s;have Y:(upd H0 C<|.lst []) C=↥(([]:∅).map V.int):=ah;have I:(upd H0 C<|.lst []) f=↥(([]:∅).map V.int):=s1 _ _ ef;have j:f≠C:=λe=>by rw[← e,ef]at s;cases s
 generalize upd H0 C (.lst [])=H1 at*;have n:=s0.free s;show(_,rfl,by lia,by lia,?_);show qd (λi σ H'=>∃(v8 v9:Option V) (fl cl:∅),σ=[↑a,⇑y,⇑h,⇑w,⇑(h*w),⇑g,↑f,↑C,v8,v9,none,none,none,none,none,none]/\Same H H'/\H' f=↥(fl.map V.int)/\H' C=↥(cl.map V.int)/\fl.length=i/\cl.length=i/\(∀ x∈fl,1<=x/\x<=g)/\(∀ x∈cl,0<=x/\x<=g)) (_,_,[],[],rfl,s0.trans s1,I,Y,rfl,rfl,λx B=>(by cases B),λx B=>(by cases B)) ?_ ?_
 . rintro i σ l S ⟨v8,v9,fl,cl,rfl,o,p,t,r,E,A,G⟩;have ae:i < (h*w).toNat:=S;rw[WL];exists(a,ns,_,rfl,o.seq J,O,by lia,by lia,?_);exists(.inl (by decide,by decide),.inl (by lia,by lia),.inr (by decide,by decide),by decide,?_);generalize (Fx ns (6+(i:Int))+113*(i:Int)*(i:Int))*48271%65521=z at*;show(bB p,by lia,?_);have b0:=U5 z (show g≠0 by lia);have b1:=US z (show 0<g by lia);have x0:1<=1+z%g:=by lia
   have X:1+z%g<=g:=by lia
   generalize 1+z%g=x at*;rw[gJ p];show(by rw[Tn];show aH #[4],?_);have s4:Same H (upd l f<|.lst<|fl.map V.int++[V.int x]):=o.own L;have M:(upd l f<|.lst<|fl.map V.int++[V.int x]) f=↥((fl++[x]).map V.int):=by rw[ah];simp
   have N:(upd l f<|.lst<|fl.map V.int++[V.int x]) C=↥(cl.map V.int):=by rw[ak<|Wa j];show t
   generalize upd l f (.lst<|fl.map V.int++[V.int x])=H4 at*;exists(bB N,?_);show ixI M #[4] (by rw[TJ];change(i:Int) < ((fl.length+1:Nat):Int);lia) ?_
   have ex:(fl++[x]).getD ((i:Int)).toNat 0=x:=by
    rw[Ui,List.getD,Uc #[4],r,Xx];rfl
   rw[ex];show(lnR rfl,λU P=>?_);obtain⟨H5,z9,s5,eU⟩:∃ z,upd H4 U (.lst [V.int 0,V.int x,V.int 0,V.int 0])=z/\Same H4 z/\z U=↥(([0,x,0,0]:∅).map V.int):=bp _ P;rw[z9];have R:=U5 (z/10) (show(4:Int)≠0 by decide);have d1:=US (z/10) (show(0:Int)<4 by decide);show((by decide,by decide),by decide,?_);show ixI eU R (by change _ < (4:Int);lia) ?_
   have Z:0<=([0,x,0,0]:∅).getD (z/10%4).toNat 0/\([0,x,0,0]:∅).getD (z/10%4).toNat 0<=g:=by
    have e:(z/10%4).toNat=0\/(z/10%4).toNat=1\/(z/10%4).toNat=2\/(z/10%4).toNat=3:=by lia
    rcases e with e | e | e | e <;> rw[e]
    . show(by change(0:Int)<=0;decide,by change(0:Int)<=g;lia)
    . show(by change(0:Int)<=x;lia,by change x<=g;lia)
    . show(by change(0:Int)<=0;decide,by change(0:Int)<=g;lia)
    . show(by change(0:Int)<=0;decide,by change(0:Int)<=g;lia)
   generalize ([0,x,0,0]:∅).getD (z/10%4).toNat 0=v at*;rw[gJ<|s5 _ _ N];show(by rw[Tn];show aH #[4],_,_,fl++[x],cl++[v],rfl,(s4.trans s5).own n,by rw[ak j];show s5 _ _ M,by rw[ah];simp,by simp[r],by simp[E],λu b=>?_,λu b=>?_)
   . rcases Ud.mp b with b | b
     . show A u b
     . rw[TH.mp b];show(x0,X)
   . rcases Ud.mp b with b | b
     . show G u b
     . rw[TH.mp b];show Z
 . rintro σ l ⟨v8,v9,fl,cl,rfl,o,p,t,r,E,A,G⟩;subst hW;show KI J O D hk ok T o n j p r A t (E,G) q
def KJ(o:SqL K H a (ns.map V.int))(m:ns.length<=63)(h0:1<=h)(h6:h<=6)(r:1<=w)(p:w<=6)(s:1<=h*w)(v:h*w<=6)(l:∀ k,k≠.Rule->allK k=false->c.ok k=true)(n:d.ok .Puzzle=true)(T:jo K H)(q:∀ H',Q (.bl true) H'):
  vj K c d (eD9 Q) [↑a,⇑y,⇑h,⇑w,none,none,none,none,none,none,none,none,none,none,none,none] H:=by
 have b:∀ g:Int,2<=g->g<=3->tG h w g:=λg i f=>((h0,h6,r,p,by lia,by lia,by lia),s,i,f,by
  have e:g=2\/g=3:=by lia
  rcases e with rfl | rfl
  . show TU (Wv #[1] (show(h*w).toNat<=6 by lia)) #[1]
  . show TU (Wv #[1] (show(h*w).toNat<=6 by lia)) #[1])
 unfold vj;generalize j:qv K c d=W at*;exists(uN h0 h6,?_);show((by decide,by decide),by decide,?_);have t:=U5 (y/6) (show(2:Int)≠0 by decide);have u:=US (y/6) (show(0:Int)<2 by decide);have i:2<=2+y/6%2:=by lia
 have f:2+y/6%2<=3:=by lia
 generalize 2+y/6%2=g at*;rw[aA];symm;by_cases h5:5<h*w
 . show gE (Tp h5) ?_;symm;subst j;show CM o m (b 2 #[1] #[1]) l n T q
 . show iS (Tq h5) ?_;symm;subst j;show CM o m (b g i f) l n T q
end
def  fl55:List (Int × Int):=[(1 ,2),(2 ,2),(1 ,5),(2 ,3),(3 ,1),(2 ,2)]
def NF:∀ p∈fl55,1<=p.1/\p.1<=6/\1<=p.2/\p.2<=6/\1<=p.1*p.2/\p.1*p.2<=6:=by decide
def KK{ns:∅}(p:SqL K H a (ns.map V.int))(y:ns.length<=63)(x:∀ k,k≠.Rule->allK k=false->c.ok k=true)(f:d.ok .Puzzle=true)(T:jo K H)(k:∀ H',Q (.bl true) H'):
  vk K c d (eD9 Q) [↑a,⇑n,none,none,none,none,none,none,none,none,none,none,none,none,none,none] H:=by
 unfold vk;rw[aC,cO,gf,dU];show Fz fl55 H _ λas H1 s1 r w=>?_;have q:as.length=6:=r;show(by rw[Tn];show ba #[4],λU l=>?_);obtain⟨A,o,i,m⟩:=bp (.lst<|as.map V.ref) l;rw[o];exists(by decide,?_);have z:=U5 n (show(6:Int)≠0 by decide);have B:=US n (show(0:Int)<6 by decide);have t:n%6=(((n%6).toNat:Nat):Int):=by lia
 have h:(n%6).toNat<fl55.length:=by change _<6;lia
 rw[t];generalize (n%6).toNat=j at*;have g:as[j]? =some (as[j]'#[4]):=To #[4];have s:fl55[j]? =some fl55[j]:=To h;have u:=w j _ _ g s;have b:=NF _<|T0 h;generalize fl55[j]=pr at*;show ixL m (v:=V.ref (as[j]'#[4])) (fG (by rw[Tw,g];rfl)) ?_;show uO (i _ _ u) rfl ?_;rw[yd];symm;have e:=s1.trans i;show KJ (e.seq p) y b.1 b.2.1 b.2.2.1 b.2.2.2.1 b.2.2.2.2.1 b.2.2.2.2.2 x f (T.same e) k
def Pf:R "'script 'cell 'high 'wide 'many 'signs 'filling 'clues 'k 'more 'rules 'told 'puzzle 'fillings 'stop_here 'found" KG FK K c d:=by
 obtain⟨a,ns,rfl,b,e,g,f,T,k⟩:=h;exists FK;show(a,ns,0,rfl,b,e,by decide,by decide,?_);exists(.inr (by decide,by decide),by decide,?_);generalize Fx ns 0*30011%65537=n at*;show KK b e g f (.inl T) k
section
variable{X:Cx}{e:Expr}{es rs:List Expr}{te:TE}{t:TA}
def  mJ{k}{p:Pos}(a:PE X (.Tuple rs k p) te)(b:PA X es t):PA X (.Tuple rs k p::es) (tCons te t):=aa a b
def  dY{c:Const}{k}{p:Pos}(a:PE X (.Constant c k p) te)(b:PA X es t):PA X (.Constant c k p::es) (tCons te t):=aa a b
end
local macro_rules | `(tactic| walk_at "l")=>`(tactic| (intro vs H Q E h; (repeat obtain ⟨_,h⟩:=h); subst_vars; rfl))
local macro_rules | `(tactic| ac_rfl)=>`(tactic| exact ⟨rfl,rfl,rfl,by decide+kernel,rfl,by decide+kernel,by decide+kernel⟩)
def  top(i:Nat):Stmt:=PySem.Challenge.pw_cluemaker_k55_whole_solved.main.body.getD i (.Pass (0,0,0,0))
def  mtop(i j:Nat):Stmt:=match top i with
 | .ClassDef _ _ _ a _ _ _ _ _ _ _=>a.getD j (.Pass (0,0,0,0))
 | s=>s
abbrev h9 Z:=Ca9 Z 1 "is_whole" ["value"] (fA Z.K)
abbrev fT Z:=Ca9 Z 1 "many_cells" ["floor"] (du Z.K)
abbrev tH Z:=Ca9 Z 1 "bit_of" ["sign"] (mY Z.K)
abbrev mK Z:=Ca9 Z 1 "stands" ["mask","sign"] (iK Z.K)
abbrev bD Z:=Ca9 Z 1 "clashes" ["masks"] (aP Z.K)
abbrev lK Z:=Ca9 Z 1 "masks_at" ["masks","cells"] (im Z.K)
abbrev rR Z:=Ca9 Z 1 "clue_strikes" ["clues","cell","sign","more"] (kT Z.K)
abbrev lP Z:=Ca9 Z 1 "are_told_in_order" ["cells","more"] (gY Z.K)
abbrev rq Z:=Ca9 Z 1 "with_sign" ["filling","cell","sign"] (lq Z.K)
abbrev rz Z:=Ca9 Z 1 "has_parts" ["thought"] (iZ Z.K)
abbrev xo Z:=Ca9 Z 1 "with_each" ["fillings","signs"] (pH Z.K)
abbrev tQ Z:=Ca9 Z 1 "place_mores" ["floor","sign"] (l9 Z.K)
abbrev xp Z:=Ca9 Z 1 "number_in" ["word"] (pk Z.K)
abbrev rS Z:=Ca9 Z 1 "_law_cell_at" ["_law_script","_law_k"] (iT Z.K)
abbrev vm Z:=Ca9 Z 1 "_law_order" ["_law_number","_law_many"] (lI Z.K)
abbrev xq Z:=Ca9 Z 1 "_law_line" ["_law_rule_here"] (mE Z.K)
abbrev Ai Z:=Ca9 Z 1 "_law_met" ["_law_rule_here","_law_filling"] (oi Z.K)
abbrev jt Z:=Ca9 Z 1 "_law_whole_list" ["_law_found","_law_many"] (fz Z.K)
abbrev j9 Z:=Ca9 Z 2 "is_from_one_to" ["value","most"] (dt Z.K)
abbrev xt Z:=Ca9 Z 2 "full_mask" ["floor"] (pN Z.K)
abbrev vn Z:=Ca9 Z 2 "without" ["mask","sign"] (oM Z.K)
abbrev bi Z:=Ca9 Z 2 "signs_in" ["mask"] (aS Z.K)
abbrev vo Z:=Ca9 Z 2 "is_cell" ["floor","value"] (oN Z.K)
abbrev vp Z c:=Ca9 Z 2 "goes_by" ["kind","rule"] (oO Z.K c)
abbrev ic Z c:=Ca9 Z 2 "others" ["rule","cell"] (fC Z.K c)
abbrev tI Z:=Ca9 Z 2 "many_may" ["some","sign"] (mQ Z.K)
abbrev Aj Z c:=Ca9 Z 2 "ahead_of" ["rule","cell"] (ra Z.K c)
abbrev FL Z c:=Ca9 Z 2 "behind" ["rule","cell"] (u6 Z.K c)
abbrev pX Z:=Ca9 Z 2 "with_each_sign" ["fillings","cell","signs"] (jd Z.K)
abbrev dI Z:=Ca9 Z 2 "is_supposing" ["thought"] (bq Z.K)
abbrev dh Z:=Ca9 Z 2 "supposed" ["masks","cell","sign"] (bH Z.K)
abbrev qw Z:=Ca9 Z 2 "every_filling" ["signs_by_cell"] (jW Z.K)
abbrev rT Z c d:=Ca9 Z 2 "cells_to_try" ["puzzle","kind","number"] (lC Z.K c d)
abbrev lL Z:=Ca9 Z 2 "number_within" ["word","least","most"] (gU Z.K)
abbrev pY Z:=Ca9 Z 2 "is_filling" ["floor","filling","least"] (jC Z.K)
abbrev xu Z:=Ca9 Z 2 "_law_rule" ["_law_signs","_law_filling","_law_cell"] (mC Z.K)
abbrev rV Z:=Ca9 Z 2 "_law_answers" ["_law_signs","_law_rules","_law_clues"] (jp Z.K)
abbrev Ak Z:=Ca9 Z 3 "floor_of" ["high","wide","signs"] (qV Z.K)
abbrev FM Z:=Ca9 Z 3 "full" ["floor"] (wm Z.K)
abbrev oU Z:=Ca9 Z 3 "has_only" ["mask","sign"] (jv Z.K)
abbrev gj Z:=Ca9 Z 3 "struck" ["masks","cell","sign"] (dA Z.K)
abbrev vq Z:=Ca9 Z 3 "is_settled" ["masks"] (nY Z.K)
abbrev FN Z:=Ca9 Z 3 "ways" ["masks"] (wj Z.K)
abbrev qx Z:=Ca9 Z 3 "is_sign" ["floor","value"] (kP Z.K)
abbrev rW Z c d:=Ca9 Z 3 "has_its_rule" ["puzzle","kind","number","cell"] (kQ Z.K c d)
abbrev qy Z:=Ca9 Z 3 "is_no_greater" ["sign","mask"] (jT Z.K)
abbrev vt Z:=Ca9 Z 3 "is_no_less" ["sign","mask"] (nN Z.K)
abbrev rX Z c:=Ca9 Z 3 "pair_strikes" ["rule","masks","cell","sign","more"] (kZ Z.K c)
abbrev tR Z c:=Ca9 Z 3 "sum_strikes" ["rule","masks","cell","sign","more"] (lZ Z.K c)
abbrev vv Z c:=Ca9 Z 3 "pair_mores" ["rule","masks","cell"] (nV Z.K c)
abbrev rY Z c d:=Ca9 Z 3 "rule_numbers" ["puzzle","kind"] (lA Z.K c d)
abbrev dR Z:=Ca9 Z 3 "first_open" ["masks"] (bZ Z.K)
abbrev rZ Z:=Ca9 Z 3 "first_within" ["words","least","most"] (ga Z.K)
abbrev vw Z:=Ca9 Z 3 "told_cells" ["floor","words"] (nv Z.K)
abbrev CN Z c:=Ca9 Z 3 "rule_by" ["floor","words","cells","amount","mark"] (sR Z.K c)
abbrev qz Z:=Ca9 Z 3 "checked_clues" ["floor","clues"] (jN Z.K)
abbrev xv Z c d:=Ca9 Z 4 "is_formed" ["puzzle","thought"] (pB Z.K c d)
abbrev xw Z:=Ca9 Z 4 "many_only" ["some","sign"] (pD Z.K)
abbrev r8 Z c:=Ca9 Z 4 "only_strikes" ["rule","masks","cell","sign","more"] (kW Z.K c)
abbrev qA Z c:=Ca9 Z 4 "place_strikes" ["floor","rule","masks","cell","sign","more"] (jP Z.K c)
abbrev sd Z c:=Ca9 Z 4 "step_strikes" ["rule","masks","cell","sign","more"] (ld Z.K c)
abbrev gd Z c d:=Ca9 Z 4 "strikes_on_floor" ["puzzle","thought"] (cN Z.K c d)
abbrev vx Z c:=Ca9 Z 4 "only_mores" ["rule","masks","cell","sign"] (nR Z.K c)
abbrev Al Z:=Ca9 Z 4 "cells_of" ["floor","name","words"] (qS Z.K)
abbrev qB Z:=Ca9 Z 4 "checked_floor" ["floor"] (jL Z.K)
abbrev oz Z c d:=Ca9 Z 5 "strikes_by_line" ["puzzle","masks","thought"] (iw Z.K c d)
abbrev qC Z c:=Ca9 Z 5 "count_strikes" ["rule","masks","cell","sign","more"] (jR Z.K c)
abbrev bS Z c d:=Ca9 Z 5 "is_formed_supposing" ["puzzle","thought"] (a9 Z.K c d)
abbrev dJ Z c d:=Ca9 Z 5 "is_passed_over" ["puzzle","masks","thought"] (bC Z.K c d)
abbrev kn Z c d:=Ca9 Z 5 "strikes_what_stands" ["puzzle","masks","thought"] (fQ Z.K c d)
abbrev sh Z c d:=Ca9 Z 5 "mores_to_try" ["puzzle","masks","kind","number","cell","sign"] (ly Z.K c d)
abbrev xy Z c:=Ca9 Z 5 "read_rule" ["floor","line"] (pq Z.K c)
abbrev si Z c:=Ca9 Z 6 "ways_strikes" ["rule","masks","cell","sign","more"] (lr Z.K c)
abbrev vy Z c:=Ca9 Z 6 "read_rules" ["floor","lines"] (nI Z.K c)
abbrev lQ Z c d:=Ca9 Z 7 "strikes_by_number" ["puzzle","masks","thought"] (gh Z.K c d)
abbrev pZ Z c d:=Ca9 Z 7 "answers_within" ["puzzle","masks"] (iB Z.K c d)
abbrev vz Z c d:=Ca9 Z 8 "strikes" ["puzzle","masks","thought"] (mS Z.K c d)
abbrev iU Z c d:=Ca9 Z 9 "allowed" ["puzzle","masks","thought"] (cP Z.K c d)
abbrev Am Z c d:=Ca9 Z 9 "first_at" ["puzzle","masks","kind","number","cell","sign"] (rh Z.K c d)
abbrev An Z c d:=Ca9 Z 10 "fault_in" ["puzzle","masks","thought"] (mn Z.K c d)
abbrev qD Z c d:=Ca9 Z 10 "found_by_rule" ["puzzle","masks","kind","number"] (jZ Z.K c d)
abbrev tS Z c d:=Ca9 Z 11 "fault_in" ["puzzle","masks","thought"] (mq Z.K c d)
abbrev tU Z c d:=Ca9 Z 11 "first_found" ["puzzle","masks","kinds"] (me Z.K c d)
abbrev tV Z c d:=Ca9 Z 12 "fault_in" ["puzzle","masks","thought"] (mr Z.K c d)
abbrev io Z c d:=Ca9 Z 12 "think" ["puzzle","masks","kinds"] (dX Z.K c d)
abbrev tW Z c d:=Ca9 Z 13 "fault_in" ["puzzle","masks","thought"] (mx Z.K c d)
abbrev qE Z c d:=Ca9 Z 13 "book_to_clash" ["puzzle","masks"] (jg Z.K c d)
abbrev xA Z c d:=Ca9 Z 13 "_law_stop" ["_law_puzzle","_law_many","_law_signs"] (mH Z.K c d)
abbrev tX Z c d:=Ca9 Z 14 "fault_in" ["puzzle","masks","thought"] (my Z.K c d)
abbrev Ao Z c d:=Ca9 Z 14 "refuting" ["puzzle","masks","cell","sign"] (pR Z.K c d)
abbrev tY Z c d:=Ca9 Z 15 "fault_in" ["puzzle","masks","thought"] (mB Z.K c d)
abbrev m5 Z c d:=Ca9 Z 15 "book_to_clash" ["puzzle","masks"] (jh Z.K c d)
abbrev tZ Z c d:=Ca9 Z 16 "follow_from" ["puzzle","masks","book"] (j3 Z.K c d)
abbrev t9 Z c d:=Ca9 Z 16 "refuting" ["puzzle","masks","cell","sign"] (pS Z.K c d)
abbrev yO Z c d:=Ca9 Z 17 "follow" ["puzzle","book"] (jz Z.K c d)
abbrev m7 Z c d:=Ca9 Z 17 "book_to_clash" ["puzzle","masks"] (ji Z.K c d)
abbrev ua Z c d:=Ca9 Z 18 "refuting" ["puzzle","masks","cell","sign"] (pT Z.K c d)
abbrev Ap Z c d:=Ca9 Z 18 "_law_one" ["_law_puzzle","_law_found","_law_answer"] (ou Z.K c d)
abbrev m9 Z c d:=Ca9 Z 19 "book_to_clash" ["puzzle","masks"] (jj Z.K c d)
abbrev xC Z c d:=Ca9 Z 19 "_law_held" ["_law_puzzle","_law_found","_law_fillings","_law_stop_here"] (i7 Z.K c d)
abbrev ub Z c d:=Ca9 Z 20 "refuting" ["puzzle","masks","cell","sign"] (pU Z.K c d)
abbrev nc Z c d:=Ca9 Z 21 "book_to_clash" ["puzzle","masks"] (jk Z.K c d)
abbrev ox Z c d:=Ca9 Z 22 "refuting" ["puzzle","masks","cell","sign"] (lG Z.K c d)
abbrev ng Z c d:=Ca9 Z 23 "book_to_clash" ["puzzle","masks"] (jl Z.K c d)
abbrev p6 Z c d:=Ca9 Z 23 "book_to_answer" ["puzzle","masks","answer"] (jm Z.K c d)
abbrev HF Z c d:=Ca9 Z 24 "solve" ["puzzle"] (oQ Z.K c d)
abbrev HG(Z:Z5)(c:XZ)(d:X8):Prop:=MCal Z.P Z.w Z.K Z.mg Z.base d d.ok 1 "clues" ["self"] (yo Z.K c d)
abbrev xD(Z:Z5)(c:XZ)(d:X8):Prop:=MCal Z.P Z.w Z.K Z.mg Z.base d d.ok 1 "has_clues" ["self","filling"] (pG Z.K c d)
abbrev BS(Z:Z5)(c:XZ):Prop:=MCal Z.P Z.w Z.K Z.mg Z.base c c.ok 2 "holds" ["self","filling"] (gS Z.K c)
abbrev FO(Z:Z5)(c:XZ):Prop:=MCal Z.P Z.w Z.K Z.mg Z.base c c.ok 1 "marked" ["self","filling"] (uR Z.K c)
abbrev HH(Z:Z5)(c:XZ)(d:X8):Prop:=MCal Z.P Z.w Z.K Z.mg Z.base d d.ok 6 "meets" ["self","filling"] (yw Z.K c d)
abbrev KL(Z:Z5)(c:XZ):Prop:=MCal Z.P Z.w Z.K Z.mg Z.base c c.ok 1 "name" ["self"] (Be Z.K c)
abbrev yP(Z:Z5)(c:XZ):Prop:=MCal Z.P Z.w Z.K Z.mg Z.base c c.ok 1 "number" ["self"] (km Z.K c)
abbrev kr(Z:Z5)(c:XZ)(d:X8):Prop:=MCal Z.P Z.w Z.K Z.mg Z.base d d.ok 1 "place" ["self"] (gW Z.K c d)
abbrev mL(Z:Z5)(c:XZ)(d:X8):Prop:=MCal Z.P Z.w Z.K Z.mg Z.base d d.ok 1 "rules" ["self"] (gX Z.K c d)
abbrev KM(Z:Z5)(c:XZ):Prop:=MCal Z.P Z.w Z.K Z.mg Z.base c c.ok 1 "sign" ["self"] (wd Z.K c)
abbrev lM(Z:Z5)(c:XZ):Prop:=MCal Z.P Z.w Z.K Z.mg Z.base c c.ok 1 "signs_at" ["self","filling"] (ik Z.K c)
abbrev ku(Z:Z5)(c:XZ):Prop:=MCal Z.P Z.w Z.K Z.mg Z.base c c.ok 1 "spots" ["self"] (gR Z.K c)
abbrev oA(Z:Z5)(x:Str)(C:Addr)(c:XZ)(d:X8):Prop:=KCal Z.P Z.w Z.K Z.mg Z.base 7 x C ["self","floor","lines","clues"] (dP Z.K c d)
abbrev aR(Z:Z5)(x:Str)(C:Addr)(c:XZ):Prop:=KCal Z.P Z.w Z.K Z.mg Z.base 1 x C ["self","floor","words","cells","amount","mark"] (aW Z.K c)
section
variable{Z:Z5}(Bz:Bt3 Z)
include Bz
set_option maxHeartbeats 4000000
abbrev Aq:=top 11
def GO:J "is_whole" Aq h9:=Gm bd1 #[";fjMv[b]^a0a~a.v~b'Fb'l'mbcT'Gv[b]^a0a~a.v~b'Hb'I'Jbc"]
abbrev vA:=top 14
def Dm:J "many_cells" vA fT:=C0 bd1 #[";fjB~Vkd0hkd0h"]
abbrev FP:=top 22
def KN:J "bit_of" FP tH:=JU bd1 #[";gq#1 lhgQNb~;b~kaB~n0hcs.i#2 lbtbfq#1 lB~V1hfj1"]
abbrev FQ:=top 25
def KO:J "stands" FQ mK:=JT bd2 #[";fjMy~oh1mnMy~o1'K'L'M'N'O0mnTywdB'PB{f0B~n1hhhmn"]
abbrev CO:=top 30
def IQ:J "clashes" CO bD:=Il bd1 #[";fjy~Edh0`0",(by with_unfolding_all rfl)]
abbrev Ar:=top 42
def GP:J "masks_at" Ar lK:=Gr bd2 #[";fjC.x&--0 `0Ab%bbbbz1$s.i#1 @`0btb$J$kd21",[".0","cell","masks"]]
abbrev sj:=top 47
def As:J "clue_strikes" sj rR:=zF bd4 #[";fjMywd3xcmnMyKdkd01hmnTyKdkd012mn"]
abbrev lR:=top 55
def tJ:J "are_told_in_order" lR lP:=sY bd2 #[";goVPrKdvGbDFa1chmnPr'Qdkd1h0`0Yr'Qdkd1h0`0fjSpfjy~r+:~K~L~Md0akd1hc+:~K~L~Md0akd1hcmn",(by with_unfolding_all rfl)]
abbrev xG:=top 63
def FR:J "with_sign" xG rq:=EK bd3 #[";fjC.x&---12 `0Ab%bbbb~gb~ha0c$~cbLs.i#1 @`0btbLs.i#2 @`0btb~d$J$-rwd13mn42",[".0","place","other","cell","sign"]]
abbrev xH:=top 80
def FS:J "has_parts" xH rz:=By bd1 #[";fjMv[b]^a0a~a.v~b~?b~N~ObcTywdvGbDFa0chmn"]
abbrev xI:=top 91
def FT:J "with_each" xI xo:=EJ bd2 #[";gq#2 lxcgQNbz0s.i#3 lbWbf~s+:~[~]~^2aC.x&--3 `0Ab%bbbbz1$s.i#1 @`0btb$J$BR2xa1ccfj2",[".0","sign","filling"]]
abbrev uc:=top 95
def BT:J "place_mores" uc tQ:=Bq bd2 #[";fjC.x&--1 `0Ab%bbbb'nb~kahaBRkd0hhc$s.i#1 @`0btb$XrKd12mn$xa1c",[".0","other","sign"]]
abbrev qF:=mtop 118 0
def yQ{c:XZ}(Qf:FldK Z.K c "amount")(Qm:FldK Z.K c "cells")(Sl:FldK Z.K c "floor")(Qw:FldK Z.K c "mark")(QN:FldK Z.K c "words"){f:Addr}(D:Me Z.K "__init__" "Rule.__init__" qF f):Mo Z 1 f ["self","floor","words","cells","amount","mark"] (aW Z.K c):=okm D yf bd6 #[";g~A01{gg~A0~l'Rb~N~Oa2c'Sg~A0~l'Rb~N~Oa3c'ag~A04~Wf~A05'o"]
abbrev xJ:=mtop 118 1
def FU{c:XZ}(QN:FldK Z.K c "words"){f:Addr}(D:Me Z.K "name" "Rule.name" xJ f):Mo Z 1 f ["self"] (uS Z.K c):=okm D Ev bd1 #[";fjkd*0'Sh"]
abbrev vC:=mtop 118 2
def Dn{c:XZ}(Qm:FldK Z.K c "cells"){f:Addr}(D:Me Z.K "spots" "Rule.spots" vC f):Mo Z 1 f ["self"] (tN Z.K c):=okm D C2 bd1 #[";fj~l~Fb/~fa*0'ac"]
abbrev ud:=mtop 118 3
def BU{c:XZ}(Qf:FldK Z.K c "amount"){f:Addr}(D:Me Z.K "number" "Rule.number" ud f):Mo Z 1 f ["self"] (rL Z.K c):=okm D Bf bd1 #[";fj*0~W"]
abbrev xK:=mtop 118 4
def FV{c:XZ}(Qw:FldK Z.K c "mark"){f:Addr}(D:Me Z.K "sign" "Rule.sign" xK f):Mo Z 1 f ["self"] (uT Z.K c):=okm D Ew bd1 #[";fj*0'o"]
abbrev qG:=mtop 118 8
def yR{c:XZ}(Qm:FldK Z.K c "cells"){f:Addr}(D:Me Z.K "signs_at" "Rule.signs_at" qG f):Mo Z 1 f ["self","filling"] (pj Z.K c):=okm D yg bd2 #[";fjC.x&--1 `0Ab%bbbb'p*0'a$s.i#1 @`0btb$J$kd21",[".0","cell","filling"]]
abbrev ue:=mtop 118 9
def BV{c:XZ}(Qm:FldK Z.K c "cells")(Qw:FldK Z.K c "mark"){f:Addr}(D:Me Z.K "marked" "Rule.marked" ue f):Mo Z 1 f ["self","filling"] (rM Z.K c):=okm D Bn bd2 #[";fjC.x&--10 `0Ab%bbbb'p*0'a$s.i#1 @`0btb$Xrwdkd21*3'omn$1",[".0","cell","filling","self"]]
abbrev xM:=top 134
def FW{t_FIGURES:Tok}(Sx:Z.mg "FIGURES"=some (.str (tx s!"0123456789") t_FIGURES)){t_MOST_FIGURES:Tok}(Rh:Z.mg "MOST_FIGURES"=some (.int 9 t_MOST_FIGURES)):J "number_in" xM xp:=Ex bd1 #[";goVPrwd0HmnPr~ivGbDFa0c`0mnYV{hrwdkd0hHmn{irKd0HmnfjIpgoEuv~tbb~u~vaC.x&-- `1Ab%bbbb{j0$s.i#1 @`1btb$J$y~Ed1`2`3cfjIpfj~l{kb'l'ma0c",(bQ rfl Rh (t_MOST_FIGURES,rfl)),[".0","figure"],(bQ rfl Sx (t_FIGURES,rfl)),(by with_unfolding_all rfl)]
abbrev sk:=mtop 147 1
def At{c:XZ}{d:X8}(Qq:FldK Z.K d "floor"){f:Addr}(D:Me Z.K "place" "Puzzle.place" sk f):Mo Z 1 f ["self"] (qj Z.K c d):=okm D zA bd1 #[";fj*0~X"]
abbrev sn:=mtop 147 3
def Au{c:XZ}{d:X8}(Qt:FldK Z.K d "given"){f:Addr}(D:Me Z.K "clues" "Puzzle.clues" sn f):Mo Z 1 f ["self"] (qk Z.K c d):=okm D zB bd1 #[";fj~l~Fb/~fa*0'qc"]
abbrev sr:=mtop 147 4
def Av{c:XZ}{d:X8}(Qx:FldK Z.K d "laws"){f:Addr}(D:Me Z.K "rules" "Puzzle.rules" sr f):Mo Z 1 f ["self"] (ql Z.K c d):=okm D zC bd1 #[";fj~l~Fb/~fa*0'rc"]
abbrev nh:=mtop 147 5
def ur{c:XZ}{d:X8}(Qt:FldK Z.K d "given"){f:Addr}(D:Me Z.K "has_clues" "Puzzle.has_clues" nh f):Mo Z 1 f ["self","filling"] (lO Z.K c d):=okm D ul bd2 #[";fjv~tbb~u~vaC.x&--- `0Ab%bbbb{lb{ma*0'qa1c$~cbLs.i#1 @`0btbLs.i#2 @`0btb~d$J$'sywd1hmnTywd12mnc",[".0","clue","sign"]]
abbrev sw:=top 149
def Aw:J "_law_cell_at" sw rS:=Fy bd2 #[";gor~r1v{nbDFa0cmnfj{o{p01`0pfjh",(λ_ _=>rfl)]
abbrev vD:=top 150
def Do:J "_law_order" vD vm:=Ah bd2 #[";gq#2 l'tbbb/~ka1cgq#3 lxcgQNb~;b~ka1cs.i#4 lbtbf~s+:~Y~Z~*3a+:{q{r{s2aB'PB{t0BR4hvGbDFa2cccfj3"]
abbrev xN:=top 152
def FX:J "_law_line" xN xq:=BO bd1 λj h f=>by
 show ac ?_ ?_
 . show(y4 (pv 0)<|dZ rfl<|aK (ap (i:=1) f rfl<|Or.inl rfl)<|aK (ap (i:=2) f rfl<|Or.inl rfl)<|aK (ap (i:=3) f rfl<|Or.inl rfl)<|aK (ap (i:=4) f rfl<|Or.inl rfl) dj)
 show ac ?_ ?_
 . show cH (i:=5) ?n ?a ?b ?e ?c ?d
   case n=>show f
   case a=>show rfl
   case b=>show Or.inl rfl
   case d=>show .inl rfl
   case c=>rfl
   case e=>
    show MH (UW (VZ _ 63) h) ?o ?i ?s
    case s=>show(λ_ _=>rfl)
    case i=>show(pv 1)
    case o=>
     show MJ ?p ?r1 ?r2 ?r3 ?r4
     case r1=>show rfl
     case r2=>show rfl
     case r3=>show List.cons_ne_nil _ _
     case r4=>show UI rfl
     case p=>
      show oX aG (aw ab) ?_;show oX aG (aw ab) ?_;show oX aG (aw<|aa (pv 2) ab) ?_;show oX aG (aw<|aa (pv 2) ab) ?_;show oX aG (aw<|aa (pv 2)<|aa (pv 3) ab) ?_;show MI
 show(ad<|af<|dB Xz PySem.F.slot_str_join PySem.F.type_str_join JM aG<|aa (ax aO (aw<|aa (pv 1) ab)<|aE (ix:=[none,none]) [".0","_law_one_here"] (aB rfl (by decide+kernel) rfl rfl rfl) rfl (ay<|ax aO (pv 5)<|pv 4) (λcl s H g=>(ap (i:=1) (show([".0","_law_one_here"]:List Str).Nodup by decide+kernel) rfl<|Or.inl rfl)) (λcl s H g=>aT)<|λcl s H g=>(cI JL rfl Bz.str_ JA<|aa (pv 1) ab)) ab)
abbrev Ax:=top 153
def GQ:J "_law_met" Ax Ai:=Dh bd2 #[";g{u0~cbLs.i#2 lbtbLs.i#3 lbtbLs.i#4 lbWbLs.i#5 lbtb~dg;.i#6 lbWbC.x&--1 `0Ab%bbbbz5$s.i#1 @`0btb$J$kd21gorwd2Hmnfjywd'ubbbD'v6vGbDFa6cmnpgorwd2Hmnfjywdv'bbb'c'da6c3mnpgorwd2HmnfjywdvGbDFaC.x&--4 `1Ab%bbbbz6$s.i#1 @`1btb$Xrwd12mn$1c3mnpgorwd2HmnfjywdvGbDFaC.x&--6 `2Ab%bbbb'nb~kahavGbDFa6cc$s.i#1 @`2btb$Xr'ekd2B~n1hkd21mn$1chmnpfjywdvGbDFaC.x&--6 `2Ab%bbbb~;b~kavGbDFa6cc$s.i#1 @`2btb$XVPrwd1hmnYr~ikd21v{vbb{w{xa~P~Q2'f~B1cmn$1c3mn",[".0","_law_spot","_law_filling"],[".0","_law_one_here","_law_sign"],[".0","_law_k","_law_told"]]
abbrev oB:=top 155
def vE:J "_law_whole_list" oB jt:=tE bd2 #[";goVPEuv[b]^a0a~a.v~b~+b/~fbcYrKdvGbDFa0c1mnfjSpfjywdvGbDFaC.x&-- `0Ab%bbbbz0$s.i#1 @`0btb$XVPEuv[b]^a1a~a.v~b'Fb'l'mbcYuv[b]^a1a~a.v~b'Hb'I'Jbc$1chmn",[".0","_law_one_here"]]
abbrev p7:=top 12
def wR(Qd:h9 Z):J "is_from_one_to" p7 j9:=wr bd2 #[";fjMi~Rea0cMy~oh0mnTy~o01mn"]
abbrev xO:=top 23
def FY(QC:tH Z):J "full_mask" xO xt:=E3 bd1 #[";fjB~ni'weaBRkd0hhch"]
abbrev CP:=top 26
def IR(QC:tH Z)(Qp:mK Z):J "without" CP vn:=Ie bd2 #[";fj-ui~-ea0a1cB~n0i'wea1c0"]
abbrev Ay:=top 28
def GR(Qp:mK Z):J "signs_in" Ay bi:=Gq bd1 #[";fjC.x&--0 `0Ab%bbbb'nb~kahaBR'K'L'M'N'O0hc$s.i#1 @`0btb$Xui~-ea2a1c$1",[".0","sign","mask"]]
abbrev CQ:=top 36
def IS(Qd:h9 Z)(P9:fT Z):J "is_cell" CQ vo:=Ig bd2 #[";fjMi~Rea1cMy~oh1mnTy~r1i~Sea0cmn"]
abbrev CS:=top 38
def IT{c:XZ}(SS:KL Z c)(Q0:GDict Z.w Z.K Z.mg "RULES_OF_KIND" gd_RULES_OF_KIND):J "goes_by" CS vp c:=Ii bd2 #[";fj'sywd0HmnTy{yO{ze!1{A{B0b`0`1",(λ_ _=>rfl),(by with_unfolding_all rfl)]
abbrev FZ:=top 41
def KP{c:XZ}(Qi:ku Z c):J "others" FZ ic c:=JV bd2 #[";fjC.x&--1 `0Ab%bbbbzO~Ge!0$s.i#1 @`0btb$XrKd12mn$1",[".0","spot","cell"]]
abbrev Az:=top 44
def GS(Qp:mK Z):J "many_may" Az tI:=Gs bd2 #[";fjvGbDFaC.x&--1 `0Ab%bbbbz0$s.i#1 @`0btb$Xui~-ea1a2c$1c",[".0","mask","sign"]]
abbrev AB:=top 50
def GT{c:XZ}(Qi:ku Z c):J "ahead_of" AB Aj c:=Gu bd2 #[";gq#2 lO~Ge!0gq#3 l+:~K~L~Md2a1cfj-r~i3hmn~P~Q2~BB~n3h~B3xc"]
abbrev F0:=top 51
def KQ{c:XZ}(Qi:ku Z c):J "behind" F0 FL c:=JY bd2 #[";gq#2 lO~Ge!0gq#3 l+:~K~L~Md2a1cfj~P~Q2~BBR3h~BBR3h"]
abbrev p8:=top 64
def wS(QD:rq Z):J "with_each_sign" p8 pX:=wv bd3 #[";gq#3 lxcgQNbz0s.i#4 lbWbf~s+:~[~]~^3aC.x&--14 `0Ab%bbbbz2$s.i#1 @`0btb$J$i'Tea3a2a1ccfj3",[".0","sign","cell","filling"]]
abbrev sA:=top 81
def AC(QE:rz Z){t_SUPPOSE:Tok}(Qg:Z.mg "SUPPOSE"=some (.str (tx s!"suppose") t_SUPPOSE)):J "is_supposing" sA dI:=ww bd1 #[";fjMi'Uea0cTywdkd0h`0mn",(bQ rfl Qg (t_SUPPOSE,rfl))]
abbrev AD:=top 84
def GU(QC:tH Z):J "supposed" AD dh:=GF bd3 #[";fjC.x&---12 `0Ab%bbbb~gb~ha0c$~cbLs.i#1 @`0btbLs.i#2 @`0btb~d$J$-rwd13mni'wea4c2",[".0","place","mask","cell","sign"]]
abbrev qH:=top 92
def yS(R6:xo Z):J "every_filling" qH qw:=yz bd1 #[";gq#1 lxaxccgQNbz0s.i#2 lbtbfq#1 li{Cea1a2cfj1"]
abbrev sB:=top 103
def AE{c:XZ}{d:X8}(P9:fT Z)(Qj:kr Z c d)(Ql:mL Z c d)(Qi:ku Z c):J "cells_to_try" sB rT c d:=zX bd3 #[";gorwd1Hmnfj'tbbb/~kai~SeaO~He!0ccpfjv'xb'y'zaO~Ge!kdO~Ie!02c"]
abbrev sC:=mtop 119 0
def AF{c:XZ}(Qn:lM Z c){f:Addr}(D:Me Z.K "holds" "Unlike.holds" sC f):Mo Z 2 f ["self","filling"] (qi Z.K c):=okm D zw bd2 #[";gq#2 l~w'ge!0a1cfjywd'ubbbD'v2vGbDFa2cmn"]
abbrev xP:=mtop 120 1
def F3{c:XZ}(Qf:FldK Z.K c "amount")(Qn:lM Z c){f:Addr}(D:Me Z.K "holds" "Sum.holds" xP f):Mo Z 2 f ["self","filling"] (vc Z.K c):=okm D EH bd2 #[";fjywdv'bbb'c'da~w'ge!0a1cc*0~Wmn"]
abbrev sD:=mtop 121 1
def AG{c:XZ}(Qn:lM Z c){f:Addr}(D:Me Z.K "holds" "Rising.holds" sD f):Mo Z 2 f ["self","filling"] (qm Z.K c):=okm D zN bd2 #[";g;.i#2 lbWb~w'ge!0a1cfjv~tbb~u~vaC.x&--2 `0Ab%bbbb~;b~kaB~nvGbDFa2chc$s.i#1 @`0btb$J$y~rkd21kd2BR1hmnc",[".0","place","signs"]]
abbrev vF:=mtop 122 1
def Dp{c:XZ}(Qf:FldK Z.K c "amount")(Qn:lM Z c){f:Addr}(D:Me Z.K "holds" "Seen.holds" vF f):Mo Z 2 f ["self","filling"] (tP Z.K c):=okm D Da bd2 #[";gq#2 lhgq#3 lhgQNbz~w'ge!0a1cs.i#4 lbtbfor~i42mngq#2 l4fq#3 lBR3hpfjywd3*0~Wmn"]
abbrev uf:=mtop 123 0
def BW{c:XZ}(Qf:FldK Z.K c "amount")(SB:FO Z c){f:Addr}(D:Me Z.K "holds" "Count.holds" uf f):Mo Z 2 f ["self","filling"] (rN Z.K c):=okm D Bo bd2 #[";fjywdvGbDFa~w{De!0a1cc*0~Wmn"]
abbrev qI:=top 135
def yT(R7:xp Z):J "number_within" qI lL:=yh bd3 #[";gq#3 li{Eea0cgoVPr{F3ImnPr~r31mnYr~i32mnf?pfj3"]
abbrev vG:=top 145
def Dq(Qd:h9 Z)(P9:fT Z):J "is_filling" vG pY:=C7 bd3 #[";goVPEuv[b]^a1a~a.v~b~+b/~fbcYrKdvGbDFa1ci~Sea0cmnfjSpfjv~tbb~u~vaC.x&--02 `0Ab%bbbbz1$s.i#1 @`0btb$J$Mi~Rea1cMy~o31mnTy~o1kd2hmnc",[".0","sign","floor","least"]]
abbrev xQ:=top 151
def  F4(j:vm Z){c0 d:Addr}(e:PySem.W.tabIn Z.K "_law_rule"=some (c0 ,d))(h:PySem.W.CodeHd Z.base c0 d)(k:Z.base.BuiltinsAt Z.mg d)(g:mainGlobals≠d)(D:De Z.K "_law_rule" xQ):xu Z:=okcT Bz D BN bd3 e λf a b=>(ac (kset 3 b<|ge mN (kcal j f<|aa (ax gD (pv 2) ae)<|aa (ar az rfl Bz.len_ aJ<|aa (pv 1) ab) ab) kd<|fV<|ax aO ae<|ax cJ (ax gD (pv 2) ae)<|ar az rfl Bz.len_ aJ<|aa (pv 1) ab)
   (ac (kset 4 b<|kix a (aw<|aa aG<|aa aG<|aa aG<|aa aG<|aa aG<|aa aG ab)<|ax cJ (pv 2) ae)
   (ac (aq (ao (mU a) (pv 4) (bW<|aa aG<|aa aG ab) (by with_unfolding_all rfl)) (ac (kset 5 b<|aw ab)
   (ac (br Uf rfl (ay<|pv 3) (ap (i:=6) b rfl<|Or.inl rfl)
   (ad<|aq (ao (uJ a) (kix a (pv 1)<|pv 6) (aE (ix:=[none,none,some 1]) [".0","_law_other","_law_filling"] (aB rfl (by decide+kernel) rfl rfl rfl) rfl (ay<|pv 5) (λcl s H c=>(ap (i:=1) (show([".0","_law_other","_law_filling"]:List Str).Nodup by decide+kernel) rfl<|Or.inl rfl)) (λcl s H c=>aT)<|λcl s H c=>(kix a (pv 2)<|pv 1)) (by with_unfolding_all rfl)) (ad<|dS<|dB Ua UM UN eD (pv 5)<|aa (pv 6) ab) ai))
   (ad<|kset 3 b<|pv 5))) ai)
   (ac (aq (ao (av a) (pv 4) aG<|aj _) (ad<|kset 3 b<|GI (x:="_law_rule") (i:=1) e rfl Bz.sorted_ f.depth rfl h k g (pv 3) rfl rfl rfl rfl rfl rfl (λ_ _ _ _ _ _=>rfl) rfl rfl rfl rfl rfl) ai)
   (ac (cH (i:=7) b rfl (Or.inr rfl)<|aE (ix:=[none,none,some 1]) [".0","_law_spot","_law_filling"] (aB rfl (by decide+kernel) rfl rfl rfl) rfl (ay<|pv 3) (λcl s H c=>(ap (i:=1) (show([".0","_law_spot","_law_filling"]:List Str).Nodup by decide+kernel) rfl<|Or.inl rfl)) (λcl s H c=>aT)<|λcl s H c=>(kix a (pv 2)<|pv 1))
   (ac (cH (i:=8) b rfl (Or.inr rfl)<|ax aO ae<|ax cJ (ax gD (pv 2) ae)<|pv 0)
   (ac (kset 9 b<|ar az rfl Bz.len_ aJ<|aa (aE (ix:=[none,none,some 8]) [".0","_law_one_here","_law_sign"] (aB rfl (by decide+kernel) rfl rfl rfl) rfl (ay<|pv 7) (λcl s H c=>(ap (i:=1) (show([".0","_law_one_here","_law_sign"]:List Str).Nodup by decide+kernel) rfl<|Or.inl rfl)) (λcl s H c=>(bF<|ao (av a) (pv 1) (pv 2)<|aj _))<|λcl s H c=>(pv 1)) ab)
   (ac (aq (ao (av a) (pv 4) aG<|aj _) (ad<|kset 9 b<|ar (mW rfl) rfl Bz.sum_ uL<|aa (pv 7) ab) ai)
   (ac (aq (ao (av a) (pv 4) aG<|aj _) (ad<|kset 9 b<|ar az rfl Bz.len_ aJ<|aa (aE (ix:=[none,none,some 7]) [".0","_law_k","_law_told"] (aB rfl (by decide+kernel) rfl rfl rfl) rfl (iG rfl Bz.range_<|aa (ar az rfl Bz.len_ aJ<|aa (pv 7) ab) ab) (λcl s H c=>(ap (i:=1) (show([".0","_law_k","_law_told"]:List Str).Nodup by decide+kernel) rfl<|Or.inl rfl)) (λcl s H c=>(bF<|V3<|bP (ao (av a) (pv 1) ae<|aj _)<|cE<|ao fZ (kix a (pv 2)<|pv 1) (ar (zM rfl) rfl Bz.max_ Jy<|aa (ge mN (pv 2) kd<|fV<|pv 1) ab)<|aj _))<|λcl s H c=>(pv 1)) ab) ai)
   (ad<|af<|bW<|aa (pv 4)<|aa (pv 9)<|aa (pv 8)<|aa (pv 3) ab))))))))))
abbrev sE:=top 154
def AH(Sm:Ai Z):J "_law_answers" sE rV:=wL bd3 #[";gq#3 lxaxccgQNbz2s.i#4 lbtbgq#5 l{Gbbb/~kahaBR0hcgorKd4hmnfq#5 lxa4cpgq#6 lxcgQNbz3s.i#7 lbtbfQNbz5s.i#8 lbtbf~s+:~Y~Z~*6aBR7xa8ccfq#3 l6fjC.x&--1 `0Ab%bbbbz3$s.i#1 @`0bWb$XrwdvGbDFaC.x&--1 `1Ab%bbbbz2$s.i#1 @`1btb$XEui{Hea1a2c$1chmn$1",[".0","_law_one_here","_law_rules"],[".0","_law_rule_here","_law_one_here"]]
abbrev AI:=top 13
def GV(Qk:j9 Z){t_MOST_CELLS:Tok}(RS:Z.mg "MOST_CELLS"=some (.int 16 t_MOST_CELLS)){t_MOST_SIDE:Tok}(Rx:Z.mg "MOST_SIDE"=some (.int 6 t_MOST_SIDE)){t_MOST_SIGNS:Tok}(RT:Z.mg "MOST_SIGNS"=some (.int 6 t_MOST_SIGNS)):J "floor_of" AI Ak:=Gn bd3 #[";goEui'hea0a`0cf?pgoEui'hea1a`0cf?pgor~iB~V01`1mnf?pgoEui'hea2a`2cf?pfj~ea0a1a2c",(bQ rfl Rx (t_MOST_SIDE,rfl)),(bQ rfl RS (t_MOST_CELLS,rfl)),(bQ rfl RT (t_MOST_SIGNS,rfl))]
abbrev KR:=top 24
def NG(R9:xt Z)(P9:fT Z):J "full" KR FM:=Nl bd1 #[";fjB'Axai{Iea0cci~Sea0c"]
abbrev AJ:=top 27
def GW(QW:vn Z):J "has_only" AJ oU:=Gp bd2 #[";fjywdi'Vea0a1chmn"]
abbrev F5:=top 29
def KS(QW:vn Z):J "struck" F5 gj:=Ka bd3 #[";fjC.x&---12 `0Ab%bbbb~gb~ha0c$~cbLs.i#1 @`0btbLs.i#2 @`0btb~d$J$-rwd13mni'Vea2a4c2",[".0","place","mask","cell","sign"]]
abbrev vH:=top 31
def Dr(P1:bi Z):J "is_settled" vH vq:=Dd bd1 #[";fjv~tbb~u~vaC.x&-- `0Ab%bbbbz0$s.i#1 @`0btb$J$ywdvGbDFaiZea1cchmnc",[".0","mask"]]
abbrev KU:=top 32
def NH(P1:bi Z):J "ways" KU FN:=M7 bd1 #[";gq#1 lhgQNbz0s.i#2 lbtbfq#1 lB~V1vGbDFaiZea2ccfj1"]
abbrev CT:=top 37
def IU(Qk:j9 Z):J "is_sign" CT qx:=Ih bd2 #[";fji'hea1akd0hc"]
abbrev sF:=top 39
def AK{c:XZ}{d:X8}(QX:vp Z c)(Qd:h9 Z)(Ql:mL Z c d)(Qi:ku Z c):J "has_its_rule" sF rW c d:=zD bd4 #[";goVPEui~Rea2cYr~r2hmnfjSpgorwd1Hmnfjywd2hmnpgq#4 lO~Ie!0gor'e2vGbDFa4cmnfjSpfjMi'Wea1akd42cTy~Ed3O~Ge!kd42`0",(by with_unfolding_all rfl)]
abbrev qJ:=top 52
def yU(P1:bi Z):J "is_no_greater" qJ qy:=yt bd2 #[";fjv~tbb~u~vaC.x&--0 `0Ab%bbbbziZea1c$s.i#1 @`0btb$J$y~o21mnc",[".0","other","sign"]]
abbrev vI:=top 53
def Ds(P1:bi Z):J "is_no_less" vI vt:=C9 bd2 #[";fjv~tbb~u~vaC.x&--0 `0Ab%bbbbziZea1c$s.i#1 @`0btb$J$y'e21mnc",[".0","other","sign"]]
abbrev sG:=top 56
def AL{c:XZ}(QF:lP Z)(Qb:ic Z c)(P1:bi Z):J "pair_strikes" sG rX c:=zJ bd5 #[";goEui{Jeai~Cea0a2ca4cfjSpgq#5 liZeaB{Kkd1kd4hkd1kd4hcfjy~ovGbDFaC.x&--3 `0Ab%bbbbz5$s.i#1 @`0btb$XrKd12mn$1chmn",[".0","other","sign"]]
abbrev ug:=top 62
def BX{c:XZ}(P2:bD Z)(Qo:lK Z)(Qb:ic Z c)(P1:bi Z)(QH:yP Z c):J "sum_strikes" ug tR c:=Bl bd5 #[";gorKd4xcmnfjSpgq#5 li'iea1ai~Cea0a2ccgouiUea5cfjSpgq#6 lBR3v'bbb'c'daC.x&-- `0Ab%bbbbz5$s.i#1 @`0btb$J$kdiZea1chcgq#7 lBR3v'bbb'c'daC.x&-- `0Ab%bbbbz5$s.i#1 @`0btb$J$kdiZea1c{L{Mhcfj'sy~i6O'je!0mnTy~r7O'je!0mn",[".0","mask"]]
abbrev vJ:=top 99
def Dt{c:XZ}(Qb:ic Z c)(P1:bi Z)(Qi:ku Z c):J "pair_mores" vJ vv c:=Dc bd3 #[";g;.i#3 lbWbO~Ge!0g'X.k#4 lbtbb.x&--1 `0Ab%bbbbzv'xb'y'zai~Cea0a2cc$s.i#1 @`0btb$Xr~ovGbDFaiZeakd21cchmn$1gq#5 lxcgQNbz4s.i#6 lbWbf~s+:~[~]~^5aC.x&--63 `1Ab%bbbbz4$s.i#1 @`1btb$Xr~r+:~K~L~Md3a2c+:~K~L~Md3a1cmn$xa2a1ccfj5",[".0","other","masks"],[".0","second","first","spots"]]
abbrev sH:=top 102
def AM{c:XZ}{d:X8}(QX:vp Z c)(Ql:mL Z c d):J "rule_numbers" sH rY c d:=zW bd2 #[";gorwd1HmnfjxahcpfjC.x&---1 `0Ab%bbbb~gb~haO~Ie!0c$~cbLs.i#1 @`0btbLs.i#2 @`0btb~d$Xui'Wea3a2c$1",[".0","number","rule","kind"]]
abbrev vK:=top 111
def Du(P1:bi Z):J "first_open" vK dR:=Df bd1 #[";fjkdC.x&--- `0Ab%bbbb~gb~ha0c$~cbLs.i#1 @`0btbLs.i#2 @`0btb~d$Xr~ivGbDFaiZea2cchmn$1h",[".0","cell","mask"]]
abbrev sI:=top 136
def AN(Qs:lL Z):J "first_within" sI rZ:=zq bd3 #[";gorwd0xcmnf?pfji'Yeakd0ha1a2c"]
abbrev vL:=top 137
def Dv(P9:fT Z)(Qs:lL Z):J "told_cells" vL vw:=C5 bd2 #[";g'X.k#2 lbtbb.x&--0 `0Ab%bbbbz1$s.i#1 @`0btb$J$i'Yea1ahaB~ni~Sea2chcgorwd2xcmnf?pgorKd'ubbbD'v2vGbDFa2cmnf?pfj2",[".0","word","floor"]]
abbrev CU:=top 139
def IV{c:XZ}(SK:aR Z "Count" (c.A .Count) c)(SD:aR Z "Joined" (c.A .Joined) c)(Sn:aR Z "NoSquare" (c.A .NoSquare) c)(ST:aR Z "Ring" (c.A .Ring) c)(SE:aR Z "Rising" (c.A .Rising) c)(SU:aR Z "Seen" (c.A .Seen) c)(K_Sum:aR Z "Sum" (c.A .Sum) c)(SF:aR Z "Unlike" (c.A .Unlike) c):J "rule_by" CU CN c:=Id bd5 #[";gq#5 lkd1hgorwd5Hmnfj~D{Ne!ba0a1a2a3a4cpgorwd5Hmnfj~D{Oe!ba0a1a2a3a4cpgorwd5Hmnfj~D{Pe!ba0a1a2a3a4cpgorwd5Hmnfj~D{Qe!ba0a1a2a3a4cpgorwd5Hmnfj~D{Re!ba0a1a2a3a4cpgorwd5Hmnfj~D{Se!ba0a1a2a3a4cpgorwd5Hmnfj~D{Te!ba0a1a2a3a4cpgorwd5Hmnfj~D{Ue!ba0a1a2a3a4cpf?"]
abbrev qK:=top 146
def yV(Qz:pY Z):J "checked_clues" qK qz:=yn bd2 #[";goEui'Zea0a1ahcf?pfj~l~Fb/~fa1c"]
abbrev xR:=top 40
def F6{c:XZ}{d:X8}(Ri:rW Z c d)(QY:vo Z)(Qy:qx Z)(Qd:h9 Z)(Qj:kr Z c d)(P8:GTup Z.K Z.mg "KINDS" aX):J "is_formed" xR xv c d:=ED bd2 #[";goVPEuv[b]^a1a~a.v~b~?b~N~ObcPrKdvGbDFa1chmnY'*~mkd1hbfjSpgq#2 lO~He!0goVPEui'+ea2akd1hcYEui'Bea2akd1hcfjSpgoEui{Vea0akd1hakd1hakd1hcfjSpfjMv[b]^akd1ha~a.v~b~+b/~fbcTv~tbb~u~vaC.x&-- `0Ab%bbbbzkd1h$s.i#1 @`0btb$J$i~Rea1cc",[".0","part"]]
abbrev xS:=top 43
def F7(Qu:oU Z):J "many_only" xS xw:=EF bd2 #[";fjvGbDFaC.x&--1 `0Ab%bbbbz0$s.i#1 @`0btb$Xui'Cea1a2c$1c",[".0","mask","sign"]]
abbrev sJ:=top 48
def AO{c:XZ}(Qu:oU Z)(Qb:ic Z c):J "only_strikes" sJ r8 c:=zG bd5 #[";fjMywdvGbDFa4chmnMy~Edkd4hi~Cea0a2c`0Ti'Ceakd1kd4ha3c",(by with_unfolding_all rfl)]
abbrev qL:=top 49
def yW{c:XZ}(Qy:qx Z)(QO:tI Z)(Qo:lK Z)(Qb:ic Z c)(Qi:ku Z c):J "place_strikes" qL qA c:=yq bd6 #[";goVPrKdvGbDFaO~Ge!1ckd0hmnYrKdvGbDFa5chmnfjSpgoVPrwdkd5h4mnYEui'Bea0akd5hcfjSpfjywdi'-eai'iea2ai~Cea1a3ccakd5hchmn"]
abbrev sK:=top 54
def AQ{c:XZ}(So:Aj Z c)(SG:FL Z c)(Q6:qy Z)(RU:vt Z):J "step_strikes" sK sd c:=zK bd5 #[";gorKd4xcmnfjSpgouv'/bb':';aC.x&--13 `0Ab%bbbbzi{Wea0a2c$s.i#1 @`0btb$J$i{Xea3akd21ccfjSpfjv'/bb':';aC.x&--13 `0Ab%bbbbzi{Yea0a2c$s.i#1 @`0btb$J$i{Zea3akd21cc",[".0","other","masks","sign"]]
abbrev ni:=top 82
def ut{c:XZ}{d:X8}(QE:rz Z)(QY:vo Z)(Qy:qx Z)(Qj:kr Z c d):J "strikes_on_floor" ni gd c d:=rP bd2 #[";gq#2 lO~He!0fjMi'Uea1cMi'+ea2akd1hcTi'Bea2akd1hc"]
abbrev vM:=top 94
def Dw{c:XZ}(Qu:oU Z)(Qb:ic Z c):J "only_mores" vM vx c:=Db bd4 #[";fjC.x&--13 `0Ab%bbbbzv'xb'y'zai~Cea0a2cc$s.i#1 @`0btb$Xui'Ceakd21a3c$xa1c",[".0","other","masks","sign"]]
abbrev AR:=top 138
def GX(P9:fT Z)(RV:vw Z)(Rj:GTup Z.K Z.mg "OF_ALL_CELLS" iD):J "cells_of" AR Al:=Gj bd3 #[";go'*{*1bfji{+ea0a2cpgorKd2xcmnf?pfj'tbbb/~kai~Sea0cc"]
abbrev qM:=top 143
def yX(Sq:Ak Z):J "checked_floor" qM qB:=yj bd1 #[";goVPEuv[b]^a0a~a.v~b~?b~N~ObcYrKdvGbDFa0chmnf?pfji{-eakd0hakd0hakd0hc"]
abbrev oC:=top 57
def vN{c:XZ}{d:X8}(Rl:rR Z)(Rm:r8 Z c)(Rn:rX Z c)(Q9:qA Z c)(Rp:sd Z c)(SL:HG Z c d)(Qj:kr Z c d)(Ql:mL Z c d):J "strikes_by_line" oC oz c d:=um bd3 #[";gq#3 lkd2hgq#4 lkd2hgq#5 lkd2hgq#6 lkd2hgorwd3Hmnfji{/eaO{:e!0a4a5a6cpgq#7 lkdO~Ie!0kd2hgorwd3Hmnfji{;ea7a1a4a5a6cpgorwd3Hmnfji{?eaO~He!0a7a1a4a5a6cpgorwd3Hmnfji{[ea7a1a4a5a6cpfji{]ea7a1a4a5a6c"]
abbrev qN:=top 61
def yY{c:XZ}(QO:tI Z)(Sa:xw Z)(Qo:lK Z)(Qb:ic Z c)(QH:yP Z c)(SI:KM Z c):J "count_strikes" qN qC c:=yr bd5 #[";gorKd4xcmnfjSpgq#5 li'iea1ai~Cea0a2ccgorwd3O'?e!0mnfjy'ei{^ea5a3cO'je!0mnpfjy~ri'-ea5aO'?e!0cO'je!0mn"]
abbrev kx:=top 83
def rA{c:XZ}{d:X8}(Qd:h9 Z)(Qe:gd Z c d):J "is_formed_supposing" kx bS c d:=pP bd2 #[";goVPEui~Reakd1hcPrKdkd1hhmnYEui'Dea0a1cfjSpfjMv[b]^akd1ha~a.v~b~+b/~fbcTyKdkd1hxcmn"]
abbrev p9:=top 85
def wT{c:XZ}{d:X8}(Qp:mK Z)(Qe:gd Z c d):J "is_passed_over" p9 dJ c d:=uo bd3 #[";fjMi'Dea0a2cT'Gi~-eakd1kd2hakd2hc"]
abbrev ky:=top 87
def rB{c:XZ}{d:X8}(Qp:mK Z)(Qe:gd Z c d):J "strikes_what_stands" ky kn c d:=pV bd3 #[";fjMi'Dea0a2cTi~-eakd1kd2hakd2hc"]
abbrev sL:=top 100
def AS{c:XZ}{d:X8}(RW:vx Z c)(RX:vv Z c)(Rz:tQ Z)(Qj:kr Z c d)(Ql:mL Z c d):J "mores_to_try" sL sh c d:=zV bd6 #[";gq#6 lO~He!0gorwd2Hmnfji}aea6a5cpgorwd2Hmnfj~jpgorwd2Hmnfj~jpgorwd2Hmnfji}beakdO~Ie!03a1a4a5cpgorwd2Hmnfj~jpgorwd2Hmnfji}ceakdO~Ie!03a1a4cpfjxaxcc"]
abbrev xT:=top 140
def F8{c:XZ}(Sr:Al Z)(QP:rZ Z)(Sy:CN Z c){t_MOST_NUMBER:Tok}(RA:Z.mg "MOST_NUMBER"=some (.int 99 t_MOST_NUMBER))(RB:GTup Z.K Z.mg "WITH_NUMBER" iW)(Sb:GTup Z.K Z.mg "WITH_SIGN" iI):J "read_rule" xT xy c:=EC bd2 #[";goEuv[b]^a1a~a.v~b}db}e}fbcf?pgq#2 l+}g}h}i}j1aHcgq#3 lkd2hgq#4 l~P~Q2~Bh'fgq#5 lhgq#6 lhgo'k}k3bgq#5 li'[ea4aha`0cfq#4 l~P~Q4~Bh'fpgo'k}l3bgq#6 li'[ea4ahakd0hcfq#4 l~P~Q4~Bh'fpfji}mea0a2ai}nea0a3a4ca5a6c",(bQ rfl RA (t_MOST_NUMBER,rfl))]
abbrev sM:=top 65
def AT{c:XZ}(P2:bD Z)(Qo:lK Z)(Qb:ic Z c)(P1:bi Z)(Sj:FN Z)(QR:pX Z)(QD:rq Z){t_MOST_WAYS:Tok}(Sc:Z.mg "MOST_WAYS"=some (.int 32 t_MOST_WAYS))(RP:BS Z c):J "ways_strikes" sM si c:=zS bd5 #[";gq#5 li~Cea0a2cgq#6 li'iea1a5cgoVPrKd4xcmnYr~ii']ea6c`0mnfjSpgouiUea6cfjSpgq#7 lxai'TeaB'AxahcvGbDFa1ca2a3ccgQNbz5s.i#8 lbtbfq#7 li}oea7a8aiZeakd18ccgQNbz7s.i#9 lbtbfou~w'^e!0a9cfjSpfjS",(bQ rfl Sc (t_MOST_WAYS,rfl))]
abbrev vO:=top 144
def Dx{c:XZ}(Sd:xy Z c){t_MOST_RULES:Tok}(RY:Z.mg "MOST_RULES"=some (.int 12 t_MOST_RULES)):J "read_rules" vO vy c:=C6 bd2 #[";gor~ivGbDFa1c`0mnf?pfjC.x&--0 `1Ab%bbbbz1$s.i#1 @`1btb$J$i}pea2a1c",(bQ rfl RY (t_MOST_RULES,rfl)),[".0","line","floor"]]
abbrev sN:=mtop 147 6
def AU{c:XZ}{d:X8}(Qz:pY Z)(Qq:FldK Z.K d "floor")(Qx:FldK Z.K d "laws")(Se:xD Z c d)(RP:BS Z c){f:Addr}(D:Me Z.K "meets" "Puzzle.meets" sN f):Mo Z 6 f ["self","filling"] (qo Z.K c d):=okm D zP bd2 #[";goVPEui'Zea*0~Xa1ahcYEu~w}qe!0a1cfjSpfjv~tbb~u~vaC.x&--1 `0Ab%bbbbz*0'r$s.i#1 @`0btb$J$~w'^e!1a2cc",[".0","rule","filling"]]
abbrev lS:=top 66
def tK{c:XZ}{d:X8}(Ra:qC Z c)(RD:tR Z c)(Rq:si Z c)(Ql:mL Z c d):J "strikes_by_number" lS lQ c d:=rd bd3 #[";gq#3 lkdO~Ie!0kd2hgorwdkd2hHmnfji}rea3a1akd2hakd2hakd2hcpgorwdkd2hHmnfji}sea3a1akd2hakd2hakd2hcpfji}tea3a1akd2hakd2hakd2hc"]
abbrev qb:=top 110
def wU{c:XZ}{d:X8}(Rb:qw Z)(P1:bi Z)(SM:HH Z c d):J "answers_within" qb pZ c d:=uq bd2 #[";fjC.x&--0 `0Ab%bbbbzi}ueaC.x&-- `1Ab%bbbbz1$s.i#1 @`1btb$J$iZea1cc$s.i#1 @`0btb$Xu~w}ve!2a1c$1",[".0","filling","puzzle"],[".0","mask"]]
abbrev oE:=mtop 147 0
def vP{c:XZ}{d:X8}(Rc:qz Z)(Re:qB Z)(RZ:vy Z c)(Qq:FldK Z.K d "floor")(Qt:FldK Z.K d "given")(Qx:FldK Z.K d "laws"){f:Addr}(D:Me Z.K "__init__" "Puzzle.__init__" oE f):Mo Z 7 f ["self","floor","lines","clues"] (dP Z.K c d):=okm D uV bd4 #[";g~A0i}wea1c~Xg~A0i}xea*0~Xa2c'rf~A0i}yea*0~Xa3c'q"]
abbrev CV:=top 76
def IW{c:XZ}{d:X8}(QQ:oz Z c d)(QG:lQ Z c d)(R0:GTup Z.K Z.mg "LINE_KINDS" jD)(Rs:GTup Z.K Z.mg "NUMBER_KINDS" iF):J "strikes" CV vz c d:=Gw bd3 #[";go'k}zkd2hbfji}Aea0a1a2cpgo'k}Bkd2hbfji}Cea0a1a2cpfj~j"]
abbrev CW:=top 77
def IX{c:XZ}{d:X8}(Sf:xv Z c d)(QZ:vz Z c d):J "allowed" CW iU c d:=Gx bd3 #[";fjMi}Dea0a2cTi{aea0a1a2c"]
abbrev AV:=top 101
def GY{c:XZ}{d:X8}(Rt:sh Z c d)(QZ:vz Z c d):J "first_at" AV Am c d:=Gz bd6 #[";gQNbzi}Eea0a1a2a3a4a5cs.i#6 lbtbgq#7 l~ea2a3a4a5a6cfoui{aea0a1a7cfj7pfjI"]
abbrev AW:=top 86
def GZ{c:XZ}{d:X8}(Qh:iU Z c d)(P5:dI Z):J "fault_in" AW An c d:=BC bd3 #[";goEui~Tea2cfj-ui~Uea0a1a2cIxcpgoEu~jfjxcpgq#3 l~jgQNb~gb~hakd2hc~cbLs.i#4 lbtbLs.i#5 lbtb~dgou~jfjIpfoEu~jgq#6 l~jgor~x6ImnfjBRxa4c6pfq#3 l~jpfj-u~jIxc"]
abbrev qO:=top 104
def yZ{c:XZ}{d:X8}(Ru:rT Z c d)(P2:bD Z)(Ss:Am Z c d)(P1:bi Z)(Qa:gj Z):J "found_by_rule" qO qD c d:=yD bd4 #[";gq#4 l~l~Fb/~fa1cgq#5 lxcgQNbzi}Fea0a2a3cs.i#6 lbtbgQNbziZeakd46cs.i#7 lbtbgq#8 li}Gea0a4a2a3a6a7cfor~x8Imng~s+:~Y~Z~*5a8cfq#4 li~yea4a6a7cpfouiUea4cfj5pfj5"]
abbrev Dy:=top 86
def BY{c:XZ}{d:X8}(Qh:iU Z c d)(P2:bD Z)(Su:An Z c d)(P3:bS Z c d)(P7:dJ Z c d)(P5:dI Z)(Qa:gj Z)(P4:dh Z):J "fault_in" Dy tS c d:=BD bd3 #[";goEui~Tea2cfj-ui~Uea0a1a2cIxcpgoEui~/ea0a2cfjxcpgq#3 li~pea1akd2hakd2hcgQNb~gb~hakd2hc~cbLs.i#4 lbtbLs.i#5 lbtb~dgouiUea3cfjIpfoEui~:ea0a3a5cgq#6 li}Hea0a3a5cgor~x6ImnfjBRxa4c6pfq#3 li~yea3akd5hakd5hcpfj-uiUea3cIxc"]
abbrev uh:=top 106
def BZ{c:XZ}{d:X8}(Rf:qD Z c d)(Rv:rY Z c d)(P8:GTup Z.K Z.mg "KINDS" aX):J "first_found" uh tU c d:=Br bd3 #[";gQNbzC.x&--2 `0Ab%bbbb'p~q~mb$s.i#1 @`0btb$Xr}I12`1$1s.i#3 lbtbfQNbzi}Jea0a3cs.i#4 lbtbgq#5 li}Kea0a1a3a4cforKd5xcmnfj5pfjxc",[".0","word","kinds"],(by with_unfolding_all rfl)]
abbrev Dz:=top 86
def B0{c:XZ}{d:X8}(Qh:iU Z c d)(P2:bD Z)(RE:tS Z c d)(P3:bS Z c d)(P7:dJ Z c d)(P5:dI Z)(Qa:gj Z)(P4:dh Z):J "fault_in" Dz tV c d:=BE bd3 #[";goEui~Tea2cfj-ui~Uea0a1a2cIxcpgoEui~/ea0a2cfjxcpgq#3 li~pea1akd2hakd2hcgQNb~gb~hakd2hc~cbLs.i#4 lbtbLs.i#5 lbtb~dgouiUea3cfjIpfoEui~:ea0a3a5cgq#6 li}Lea0a3a5cgor~x6ImnfjBRxa4c6pfq#3 li~yea3akd5hakd5hcpfj-uiUea3cIxc"]
abbrev HI:=top 107
def LZ{c:XZ}{d:X8}(P2:bD Z)(RF:tU Z c d)(Qa:gj Z):J "think" HI io c d:=Lw bd3 #[";gq#3 l~l~Fb/~fa1cgq#4 lxcg{bNEuiUea3cgq#5 li}Mea0a3a2cgorwd5xcmnfj~ea3a4cpfQNbz5s.i#6 lbtbg~s+:~Y~Z~*4a6cfq#3 li~yea3akd6hakd6hcfj~ea3a4c"]
abbrev DA:=top 86
def B1{c:XZ}{d:X8}(Qh:iU Z c d)(P2:bD Z)(RG:tV Z c d)(P3:bS Z c d)(P7:dJ Z c d)(P5:dI Z)(Qa:gj Z)(P4:dh Z):J "fault_in" DA tW c d:=BJ bd3 #[";goEui~Tea2cfj-ui~Uea0a1a2cIxcpgoEui~/ea0a2cfjxcpgq#3 li~pea1akd2hakd2hcgQNb~gb~hakd2hc~cbLs.i#4 lbtbLs.i#5 lbtb~dgouiUea3cfjIpfoEui~:ea0a3a5cgq#6 li}Nea0a3a5cgor~x6ImnfjBRxa4c6pfq#3 li~yea3akd5hakd5hcpfj-uiUea3cIxc"]
abbrev qP:=top 113
def y0{c:XZ}{d:X8}(P2:bD Z)(P6:dR Z)(P1:bi Z)(Qc:io Z c d)(P8:GTup Z.K Z.mg "KINDS" aX):J "book_to_clash" qP qE c d:=wz bd2 #[";gq#2 li~zea0a1a~q~mbcg;.i#3 lbWbkd2hgouiUea3cfjkd2hpg;.i#4 lbWbi~Jea3cfjBRkd2hC.x&--430 `0Ab%bbbbziZeakd34c$s.i#1 @`0btb$J$~j",[".0","sign","cell","now","puzzle"]]
abbrev xV:=top 158
def F9{c:XZ}{d:X8}(Qc:io Z c d)(P8:GTup Z.K Z.mg "KINDS" aX):J "_law_stop" xV xA c d:=BQ bd3 #[";gq#3 lkdi~zea0aB'AxakdxahahcB~n2hc1a~l}Ob/~fa~q~mbcchgq#4 lhgQNbz3s.i#5 lbtbfq#4 lB~V4kdxahahahahahahahahc5gor~i4hmnfj3pfjI"]
abbrev DB:=top 86
def B4{c:XZ}{d:X8}(Qh:iU Z c d)(P2:bD Z)(RH:tW Z c d)(P3:bS Z c d)(P7:dJ Z c d)(P5:dI Z)(Qa:gj Z)(P4:dh Z):J "fault_in" DB tX c d:=BK bd3 #[";goEui~Tea2cfj-ui~Uea0a1a2cIxcpgoEui~/ea0a2cfjxcpgq#3 li~pea1akd2hakd2hcgQNb~gb~hakd2hc~cbLs.i#4 lbtbLs.i#5 lbtb~dgouiUea3cfjIpfoEui~:ea0a3a5cgq#6 li}Pea0a3a5cgor~x6ImnfjBRxa4c6pfq#3 li~yea3akd5hakd5hcpfj-uiUea3cIxc"]
abbrev AX:=top 112
def G0{c:XZ}{d:X8}(Rg:qE Z c d)(P4:dh Z){t_SUPPOSE:Tok}(Qg:Z.mg "SUPPOSE"=some (.str (tx s!"suppose") t_SUPPOSE)):J "refuting" AX Ao c d:=Fm bd4 #[";fj~ea`0aha2a3ai}Qea0ai~pea1a2a3ccc",(bQ rfl Qg (t_SUPPOSE,rfl))]
abbrev DC:=top 86
def B5{c:XZ}{d:X8}(Qh:iU Z c d)(P2:bD Z)(RI:tX Z c d)(P3:bS Z c d)(P7:dJ Z c d)(P5:dI Z)(Qa:gj Z)(P4:dh Z):J "fault_in" DC tY c d:=BL bd3 #[";goEui~Tea2cfj-ui~Uea0a1a2cIxcpgoEui~/ea0a2cfjxcpgq#3 li~pea1akd2hakd2hcgQNb~gb~hakd2hc~cbLs.i#4 lbtbLs.i#5 lbtb~dgouiUea3cfjIpfoEui~:ea0a3a5cgq#6 li}Rea0a3a5cgor~x6ImnfjBRxa4c6pfq#3 li~yea3akd5hakd5hcpfj-uiUea3cIxc"]
abbrev vQ:=top 113
def uu{c:XZ}{d:X8}(P2:bD Z)(P6:dR Z)(Sv:Ao Z c d)(P1:bi Z)(Qc:io Z c d)(P8:GTup Z.K Z.mg "KINDS" aX):J "book_to_clash" vQ m5 c d:=wB bd2 #[";gq#2 li~zea0a1a~q~mbcg;.i#3 lbWbkd2hgouiUea3cfjkd2hpg;.i#4 lbWbi~Jea3cfjBRkd2hC.x&--430 `0Ab%bbbbziZeakd34c$s.i#1 @`0btb$J$i}Sea4a3a2a1c",[".0","sign","cell","now","puzzle"]]
abbrev ui:=top 88
def B6{c:XZ}{d:X8}(P2:bD Z)(RJ:tY Z c d)(QA:kn Z c d)(Qa:gj Z):J "follow_from" ui tZ c d:=yM bd3 #[";gq#3 l~l~Fb/~fa1cgQNb~gb~ha2c~cbLs.i#4 lbtbLs.i#5 lbtb~dgoVPuiUea3cYEui}Tea0a3a5cf?pgq#6 li}Uea0a3a5cgor~x6Imnf?pfq#3 li~yea3akd5hakd5hcfj3"]
abbrev DD:=top 112
def B7{c:XZ}{d:X8}(QI:m5 Z c d)(P4:dh Z){t_SUPPOSE:Tok}(Qg:Z.mg "SUPPOSE"=some (.str (tx s!"suppose") t_SUPPOSE)):J "refuting" DD t9 c d:=Fo bd4 #[";fj~ea`0aha2a3ai}Vea0ai~pea1a2a3ccc",(bQ rfl Qg (t_SUPPOSE,rfl))]
abbrev Ga:=top 89
def KW{c:XZ}{d:X8}(RL:tZ Z c d)(Sk:FM Z)(Qj:kr Z c d):J "follow" Ga yO c d:=GG bd2 #[";fji}Wea0ai{ceaO~He!0ca1c"]
abbrev vR:=top 113
def uv{c:XZ}{d:X8}(P2:bD Z)(P6:dR Z)(RM:t9 Z c d)(P1:bi Z)(Qc:io Z c d)(P8:GTup Z.K Z.mg "KINDS" aX):J "book_to_clash" vR m7 c d:=wD bd2 #[";gq#2 li~zea0a1a~q~mbcg;.i#3 lbWbkd2hgouiUea3cfjkd2hpg;.i#4 lbWbi~Jea3cfjBRkd2hC.x&--430 `0Ab%bbbbziZeakd34c$s.i#1 @`0btb$J$i}Xea4a3a2a1c",[".0","sign","cell","now","puzzle"]]
abbrev DE:=top 112
def B8{c:XZ}{d:X8}(QJ:m7 Z c d)(P4:dh Z){t_SUPPOSE:Tok}(Qg:Z.mg "SUPPOSE"=some (.str (tx s!"suppose") t_SUPPOSE)):J "refuting" DE ua c d:=Fq bd4 #[";fj~ea`0aha2a3ai}Yea0ai~pea1a2a3ccc",(bQ rfl Qg (t_SUPPOSE,rfl))]
abbrev AY:=top 156
def G1{c:XZ}{d:X8}(Qr:jt Z)(QS:yO Z c d):J "_law_one" AY Ap c d:=Dl bd3 #[";goVPrKdvGbDFa1chmnPEui{deakd1havGbDFa2ccYrKdkd1h2mnfjSpfjywdi'Eea0akd1hcC.x&-- `0Ab%bbbbz2$s.i#1 @`0btb$J$kdxahahahcB~n1hmn",[".0","_law_sign"]]
abbrev vS:=top 113
def uw{c:XZ}{d:X8}(P2:bD Z)(P6:dR Z)(RN:ua Z c d)(P1:bi Z)(Qc:io Z c d)(P8:GTup Z.K Z.mg "KINDS" aX):J "book_to_clash" vS m9 c d:=wF bd2 #[";gq#2 li~zea0a1a~q~mbcg;.i#3 lbWbkd2hgouiUea3cfjkd2hpg;.i#4 lbWbi~Jea3cfjBRkd2hC.x&--430 `0Ab%bbbbziZeakd34c$s.i#1 @`0btb$J$i}Zea4a3a2a1c",[".0","sign","cell","now","puzzle"]]
abbrev xW:=top 157
def Gb{c:XZ}{d:X8}(Sw:Ap Z c d)(Qr:jt Z)(QS:yO Z c d):J "_law_held" xW xC c d:=BP bd4 #[";goEuv[b]^a1a~a.v~b~?b~N~ObcfjSpgor~x3ImngoVPrKdkd1hHmnPrKdvGbDFa1chmnYEui{deakd1havGbDFa3ccfjSpfjMywdkd1h3mnTywdi'Eea0akd1hc3mnpgorwdvGbDFa2chmnfjMywdkd1hHmnMywdvGbDFa1chmnTy~Edhi'Eea0akd1hc`0pgorwdvGbDFa2chmnfjMywdkd1hHmnTi}*ea0a1akd2hcpgoVPrKdkd1hHmnPrKdvGbDFa1chmnYrwdkd1hkd1hmnfjSpfjMy~Edkd1h2`0My~Edkd1h2`0Tv[b]^akd1ha~a.v~b~+b/~fbc",(by with_unfolding_all rfl)]
abbrev DF:=top 112
def B9{c:XZ}{d:X8}(QK:m9 Z c d)(P4:dh Z){t_SUPPOSE:Tok}(Qg:Z.mg "SUPPOSE"=some (.str (tx s!"suppose") t_SUPPOSE)):J "refuting" DF ub c d:=Ft bd4 #[";fj~ea`0aha2a3ai}+ea0ai~pea1a2a3ccc",(bQ rfl Qg (t_SUPPOSE,rfl))]
abbrev vT:=top 113
def ux{c:XZ}{d:X8}(P2:bD Z)(P6:dR Z)(RO:ub Z c d)(P1:bi Z)(Qc:io Z c d)(P8:GTup Z.K Z.mg "KINDS" aX):J "book_to_clash" vT nc c d:=wH bd2 #[";gq#2 li~zea0a1a~q~mbcg;.i#3 lbWbkd2hgouiUea3cfjkd2hpg;.i#4 lbWbi~Jea3cfjBRkd2hC.x&--430 `0Ab%bbbbziZeakd34c$s.i#1 @`0btb$J$i}-ea4a3a2a1c",[".0","sign","cell","now","puzzle"]]
abbrev DG:=top 112
def Ca{c:XZ}{d:X8}(QL:nc Z c d)(P4:dh Z){t_SUPPOSE:Tok}(Qg:Z.mg "SUPPOSE"=some (.str (tx s!"suppose") t_SUPPOSE)):J "refuting" DG ox c d:=Fv bd4 #[";fj~ea`0aha2a3ai}/ea0ai~pea1a2a3ccc",(bQ rfl Qg (t_SUPPOSE,rfl))]
abbrev vU:=top 113
def uy{c:XZ}{d:X8}(P2:bD Z)(P6:dR Z)(Qv:ox Z c d)(P1:bi Z)(Qc:io Z c d)(P8:GTup Z.K Z.mg "KINDS" aX):J "book_to_clash" vU ng c d:=wJ bd2 #[";gq#2 li~zea0a1a~q~mbcg;.i#3 lbWbkd2hgouiUea3cfjkd2hpg;.i#4 lbWbi~Jea3cfjBRkd2hC.x&--430 `0Ab%bbbbziZeakd34c$s.i#1 @`0btb$J$i{eea4a3a2a1c",[".0","sign","cell","now","puzzle"]]
abbrev qc:=top 114
def wV{c:XZ}{d:X8}(P6:dR Z)(R1:vq Z)(Qv:ox Z c d)(P1:bi Z)(Qa:gj Z)(Qc:io Z c d)(P8:GTup Z.K Z.mg "KINDS" aX):J "book_to_answer" qc p6 c d:=wK bd3 #[";gq#3 l1gq#4 lxcg{bNEui}:ea3cg;.i#5 lbWbi~Jea3cgq#6 lkdC.x&--25 `0Ab%bbbbziZeakd35c$s.i#1 @`0btb$XrKd1kd23mn$1hg~s+:~Y~Z~*4ai{eea0a3a5a6ccgq#7 li~zea0ai~yea3a5a6ca~q~mbcgq#3 lkd7hf~s+:~[~]~^4akd7hcfj4",[".0","other","answer","cell"]]
abbrev HJ:=top 115
def L0{c:XZ}{d:X8}(QT:pZ Z c d)(QU:p6 Z c d)(QM:ng Z c d)(P2:bD Z)(Sk:FM Z)(Qc:io Z c d)(Sj:FN Z){t_MOST_WAYS_LEFT:Tok}(QV:Z.mg "MOST_WAYS_LEFT"=some (.int 32 t_MOST_WAYS_LEFT))(Qj:kr Z c d)(P8:GTup Z.K Z.mg "KINDS" aX):J "solve" HJ HF c d:=IK bd1 #[";gq#1 li~zea0ai{ceaO~He!0ca~q~mbcgq#2 lkd1hgq#3 lkd1hgouiUea2cfj~eaHa3cpgor~ii']ea2c`0mnfj~eaHa2a3cpgq#4 li};ea0a2cgorwd4xcmnfj~eaHaBR3i}?ea0a2ccpgorwdvGbDFa4chmnfj~eaHakd4haBR3i}[ea0a2akd4hccpfj~eaHakd4hakd4hc",(bQ rfl QV (t_MOST_WAYS_LEFT,rfl))]
abbrev AZ:=top 159
def  Pg{c:XZ}{d:X8}(t:rV Z)(h:rS Z)(o:xC Z c d)(y:xq Z)(q:xu Z)(r:xA Z c d)(k:HF Z c d)(u:oA Z "Puzzle" (d.A .Puzzle) c d){f:Addr}{m:FuncData}(F:Fun Z.K "law" "law" AZ f m):FnOk Z.P Z.w Z.K Z.mg Z.base CX0 25 f m ["_law_script"] (KG Z.K c d):=okf F (by ac_rfl) Pf (λb e a=>by
 show ac ?s0 ?r0
 case s0=>show(kset 1 a<|ax cJ (ax fW (kcal h b<|aa (pv 0)<|aa ae ab) ae) ae)
 case r0=>
  show ac ?s1 ?r1
  case s1=>
   show y4 (te:=?te) (g:=gTup Z.K 2 (gCons (gName 2)<|gCons (gName 3) gNil)) ?h1 ?h2 ?h4 ?h5 ?h6
   case h2=>show(dZ rfl<|aK (ap (i:=2) a rfl<|Or.inl rfl)<|aK (ap (i:=3) a rfl<|Or.inl rfl) dj)
   case h4=>rfl
   case h5=>rfl
   case h6=>rfl
   case h1=>
    show DI ?x ?l ?j ?p
    case x=>show(N9 e)
    case p=>show(λ_ _=>rfl)
    case j=>show(ax cJ (pv 1) ae)
    case l=>
     show aw ?_;show mJ ?_ ?_
     . show bW (dY ae<|dY ae ab)
     show mJ ?_ ?_
     . show bW (dY ae<|dY ae ab)
     show mJ ?_ ?_
     . show bW (dY ae<|dY ae ab)
     show mJ ?_ ?_
     . show bW (dY ae<|dY ae ab)
     show mJ ?_ ?_
     . show bW (dY ae<|dY ae ab)
     show mJ ?_ ?_
     . show bW (dY ae<|dY ae ab)
     show ab
  case r1=>
   show(ac (kset 4 a<|ax fW (pv 2)<|pv 3)
   (ac (kset 5 a<|ax aO ae<|ax cJ (ax gD (pv 1) ae) ae)
   (ac (aq (ao fZ (pv 4) ae<|aj _) (ad<|kset 5 a ae) ai)
   (ac (kset 6 a<|aw ab)
   (ac (kset 7 a<|aw ab)
   (ac (br Uf rfl (iG rfl Bz.range_<|aa (pv 4) ab) (ap (i:=8) a rfl<|Or.inl rfl)
   (ac (kset 9 a<|ax cJ (ax fW (ax aO (kcal h b<|aa (pv 0)<|aa (ax aO ae<|pv 8) ab)<|ax fW (ax fW ae<|pv 8)<|pv 8) ae) ae)
   (ac (dS<|dB Ua UM UN eD (pv 6)<|aa (ax aO ae<|ax cJ (pv 9)<|pv 5) ab)
   (ad<|dS<|dB Ua UM UN eD (pv 7)<|aa (kix e (aw<|aa ae<|aa (kix e (pv 6)<|pv 8)<|aa ae<|aa ae ab)<|ax cJ (ax gD (pv 9) ae) ae) ab))))
   (ac (aq (ao (av e) (ax cJ (ax gD (pv 1) ae) ae) ae<|aj _) (ad<|y4 (ax aO ae<|ax cJ (ax gD (pv 1) ae)<|pv 5)<|NN (pv 7) (ax cJ (ax gD (pv 1) ae)<|pv 4)<|Pt e) ai)
   (ac (kset 10 a<|aw ab)
   (ac (br Uf rfl (iG rfl Bz.range_<|aa (ax cJ (ax gD (pv 1) ae) ae) ab) (ap (i:=8) a rfl<|Or.inl rfl)
   (ac (kset 9 a<|ax cJ (ax fW (ax aO (kcal h b<|aa (pv 0)<|aa (ax aO ae<|pv 8) ab)<|ax fW ae<|pv 8) ae) ae)
   (ac (kset 11 a<|cI f7 rfl Bz.list_ cK<|aa (pv 6) ab)
   (ac (aq (V3<|Jb (ao (av e) (pv 8) ae<|aj _)<|G2<|ao (av e) (ax cJ (pv 9) ae) ae<|aj _) (ad<|kset 11 a<|ax aO (ge mN (pv 11) (fV ae) kd)<|ge mN (pv 11) kd<|fV ae) ai)
   (ad<|dS<|dB Ua UM UN eD (pv 10)<|aa (kcal q b<|aa (pv 5)<|aa (pv 11)<|aa (ax gD (pv 9) ae) ab) ab)))))
   (ac (kset 12 a<|oK u b #[1] rfl (aa (bW<|aa (pv 2)<|aa (pv 3)<|aa (pv 5) ab)<|aa (aE (ix:=[none,none]) [".0","_law_rule_here"] (aB rfl (by decide+kernel) rfl rfl rfl) rfl (ay<|pv 10) (λcl s H n=>(ap (i:=1) (show([".0","_law_rule_here"]:List Str).Nodup by decide+kernel) rfl<|Or.inl rfl)) (λcl s H n=>aT)<|λcl s H n=>(kcal y b<|aa (pv 1) ab))<|aa (pv 7) ab))
   (ac (kset 13 a<|kcal t b<|aa (pv 5)<|aa (pv 10)<|aa (pv 7) ab)
   (ac (kset 14 a<|kcal r b<|aa (pv 12)<|aa (pv 4)<|aa (pv 5) ab)
   (ac (kset 15 a<|kcal k b<|aa (pv 12) ab)
   (ac (aq (aM<|au<|kcal o b<|aa (pv 12)<|aa (pv 15)<|aa (pv 13)<|aa (pv 14) ab) (ad<|af b3) ai)
   (ac (aq (au<|ar bX rfl Bz.isinstance_ bb<|aa (kix e (pv 15) ae)<|aa (dF (v:=.ty "list") rfl Bz.list_ cK rfl) ab) (ad<|dS<|DZ Ua PySem.F.slot_list_clear PySem.F.type_list_clear Jx<|kix e (pv 15) ae) ai)
   (ad<|af<|kcal o b<|aa (pv 12)<|aa (kcal k b<|aa (pv 12) ab)<|aa (pv 13)<|aa (pv 14) ab))))))))))))))))) (by walk_at "l")
end
variable{l:PySem.W.OpenLaw}
def Ph {w:World} {K:Frag} {h:Heap} {mg:Str->Option Value} {fa:Addr} (X:K.In h) (G:h.Ns mainGlobals mg) (dj:mg "law"=↑fa) {x1 x2 x3 x4 x5 x6 x7 x8 y1 R aD aL ba aK aI aU aB ax aH aJ ay aF aW aQ aY aM aw c0 P0:Addr} {ae y o r C I x J m U:Tok}
  (p:ClsP K "Unlike" x1 R) (am:ClsP K "Sum" x2 R) (n:ClsP K "Rising" x3 R) (P:ClsP K "Seen" x4 R) (B:ClsP K "Count" x5 R) (O:ClsP K "Joined" x6 R) (q:ClsP K "NoSquare" x7 R) (ap:ClsP K "Ring" x8 R) (g:ClsP K "Puzzle" y1 aw) (cH:At8 K "name" ↑aD x1 x2 x3 x4 x5 x6 x7 x8) (es:At8 K "spots" ↑aL x1 x2 x3 x4 x5 x6 x7 x8) (bo:At8 K "number" ↑ba x1 x2 x3 x4 x5 x6 x7 x8) (dF:At8 K "sign" ↑aK x1 x2 x3 x4 x5 x6 x7 x8) (bC:At8 K "signs_at" ↑aI x1 x2 x3 x4 x5 x6 x7 x8) (cC:At8 K "marked" ↑aU x1 x2 x3 x4 x5 x6 x7 x8) (SX:findIn K (.ref y1) "place"=some ↑aB) (SY:findIn K (.ref y1) "clues"=some ↑ax) (SZ:findIn K (.ref y1) "rules"=some ↑aH) (S0:findIn K (.ref y1) "has_clues"=some ↑aJ) (S1:findIn K (.ref x1) "holds"=some ↑ay) (Ta:findIn K (.ref x2) "holds"=some ↑aF) (S2:findIn K (.ref x3) "holds"=some ↑aW) (S9:findIn K (.ref x4) "holds"=some ↑aQ) (S8:findIn K (.ref x5) "holds"=some ↑aY) (S3:findIn K (.ref y1) "meets"=some ↑aM) (Y:At8 K "amount" none x1 x2 x3 x4 x5 x6 x7 x8) (al:At8 K "cells" none x1 x2 x3 x4 x5 x6 x7 x8) (ak:At8 K "floor" none x1 x2 x3 x4 x5 x6 x7 x8) (ar:At8 K "mark" none x1 x2 x3 x4 x5 x6 x7 x8) (ag:At8 K "words" none x1 x2 x3 x4 x5 x6 x7 x8) (ao:findIn K (.ref y1) "floor"=some none) (aj:findIn K (.ref y1) "given"=some none) (aq:findIn K (.ref y1) "laws"=some none) (D0:De K "is_whole" Aq) (D1:De K "many_cells" vA) (D2:De K "bit_of" FP) (D3:De K "stands" FQ) (D4:De K "clashes" CO) (D5:De K "masks_at" Ar) (D6:De K "clue_strikes" sj) (D7:De K "are_told_in_order" lR) (D8:De K "with_sign" xG) (D9:De K "has_parts" xH) (dJ:De K "with_each" xI) (ek:De K "place_mores" uc) (cu:Me K "__init__" "Rule.__init__" qF R) (eq:Me K "name" "Rule.name" xJ aD) (cn:Me K "spots" "Rule.spots" vC aL) (cK:Me K "number" "Rule.number" ud ba) (bt:Me K "sign" "Rule.sign" xK aK) (dh:Me K "signs_at" "Rule.signs_at" qG aI) (bw:Me K "marked" "Rule.marked" ue aU) (dK:De K "number_in" xM) (cN:Me K "place" "Puzzle.place" sk aB) (bF:Me K "clues" "Puzzle.clues" sn ax) (dd:Me K "rules" "Puzzle.rules" sr aH) (dW:Me K "has_clues" "Puzzle.has_clues" nh aJ) (dZ:De K "_law_cell_at" sw) (dV:De K "_law_order" vD) (bH:De K "_law_line" xN) (bf:De K "_law_met" Ax) (cp:De K "_law_whole_list" oB) (bV:De K "is_from_one_to" p7) (bp:De K "full_mask" xO) (bc:De K "without" CP) (eg:De K "signs_in" Ay) (bi:De K "is_cell" CQ) (ew:De K "goes_by" CS) (ci:De K "others" FZ) (bh:De K "many_may" Az) (bT:De K "ahead_of" AB) (bY:De K "behind" F0) (bD:De K "with_each_sign" p8) (dv:De K "is_supposing" sA) (dp:De K "supposed" AD) (dx:De K "every_filling" qH) (cJ:De K "cells_to_try" sB) (ei:Me K "holds" "Unlike.holds" sC ay) (dL:Me K "holds" "Sum.holds" xP aF) (cv:Me K "holds" "Rising.holds" sD aW) (cz:Me K "holds" "Seen.holds" vF aQ) (dy:Me K "holds" "Count.holds" uf aY) (ee:De K "number_within" qI) (ev:De K "is_filling" vG) (eu:De K "_law_rule" xQ) (bX:De K "_law_answers" sE) (di:De K "floor_of" AI) (bd:De K "full" KR) (dM:De K "has_only" AJ) (ds:De K "struck" F5) (cf:De K "is_settled" vH) (bx:De K "ways" KU) (bm:De K "is_sign" CT) (em:De K "has_its_rule" sF) (bI:De K "is_no_greater" qJ) (dI:De K "is_no_less" vI) (bg:De K "pair_strikes" sG) (dR:De K "sum_strikes" ug) (bN:De K "pair_mores" vJ) (co:De K "rule_numbers" sH) (bn:De K "first_open" vK) (el:De K "first_within" sI) (bk:De K "told_cells" vL) (dz:De K "rule_by" CU) (dY:De K "checked_clues" qK) (bv:De K "is_formed" xR) (cL:De K "many_only" xS) (bB:De K "only_strikes" sJ) (be:De K "place_strikes" qL) (bS:De K "step_strikes" sK) (bW:De K "strikes_on_floor" ni) (bU:De K "only_mores" vM) (cE:De K "cells_of" AR) (dl:De K "checked_floor" qM) (et:De K "strikes_by_line" oC) (dT:De K "count_strikes" qN) (bQ:De K "is_formed_supposing" kx) (bP:De K "is_passed_over" p9) (du:De K "strikes_what_stands" ky) (cs:De K "mores_to_try" sL) (bu:De K "read_rule" xT) (dP:De K "ways_strikes" sM) (bz:De K "read_rules" vO) (bq:Me K "meets" "Puzzle.meets" sN aM) (dE:De K "strikes_by_number" lS) (bs:De K "answers_within" qb) (dw:Me K "__init__" "Puzzle.__init__" oE aw) (bE:De K "strikes" CV) (cP:De K "allowed" CW) (dt:De K "first_at" AV) (as:De K "fault_in" AW) (dX:De K "found_by_rule" qO) (aT:De K "first_found" uh) (az:De K "think" HI) (N:De K "book_to_clash" qP) (aA:De K "_law_stop" xV) (ab:De K "refuting" AX) (aO:De K "follow_from" ui) (aS:De K "follow" Ga) (aP:De K "_law_one" AY) (bb:De K "_law_held" xW) (aN:De K "book_to_answer" qc) (aE:De K "solve" HJ) (aG:De K "law" AZ) (au:GT0 K "KINDS" aX) (L:GT0 K "LINE_KINDS" jD) (t:GT0 K "NUMBER_KINDS" iF) (u:GT0 K "OF_ALL_CELLS" iD) (D:GT0 K "WITH_NUMBER" iW) (S:GT0 K "WITH_SIGN" iI) (j:GD0 w K "RULES_OF_KIND" gd_RULES_OF_KIND) (S5:nsIn K mainGlobals "FIGURES"=some (some<|.str (tx s!"0123456789") ae)) (SO:nsIn K mainGlobals "MOST_CELLS"=some (some<|.int 16 y)) (SJ:nsIn K mainGlobals "MOST_FIGURES"=some (some<|.int 9 o)) (SN:nsIn K mainGlobals "MOST_NUMBER"=some (some<|.int 99 r)) (SQ:nsIn K mainGlobals "MOST_RULES"=some (some<|.int 12 C)) (SV:nsIn K mainGlobals "MOST_SIDE"=some (some<|.int 6 I)) (SR:nsIn K mainGlobals "MOST_SIGNS"=some (some<|.int 6 x)) (SW:nsIn K mainGlobals "MOST_WAYS"=some (some<|.int 32 J)) (SA:nsIn K mainGlobals "MOST_WAYS_LEFT"=some (some<|.int 32 m)) (S7:nsIn K mainGlobals "SUPPOSE"=some (some<|.str (tx s!"suppose") U)) (z:Zn K) (LT:PySem.W.tabIn K "_law_rule"=some (c0 ,P0)) (LK:CdP K c0 P0) (LM:mainGlobals≠P0):
  ∃ fd:FuncData,(∀(s:Shared) (v:Value),BindsTo s fd ([v],[]) [("_law_script" ,v)])/\∀ M:Heap,K.In M->M.Ns mainGlobals mg->M.BuiltinsAt mg P0->FnOk l.prog w K mg M CX0 25 fa fd ["_law_script"] (BR K):=by
 obtain⟨f,fd,a,F⟩:=aG.ex;have e:=dj.symm.trans<|PySem.W.mg_of X G a;cases e;obtain⟨oc,od,kV,dN,pm,an,Te,ct,eA,rfl,lk,ez⟩:=F.ex;show(fnOf "law" "law" (fH AZ) (dk AZ) (aV AZ) .none kV dN pm an Te ct,λs v=>.of_eq rfl,λM KB _ LB=>?_);let Z:Z5:=(l.prog,w,K,mg,M);have b:Bt3 Z:=OY X G z;have LC:=LK.hd KB;let c:XZ:=mkC x1 x2 x3 x4 x5 x6 x7 x8;let d:X8:=mkD y1;have CC:C8 K x1 x2 x3 x4 x5 x6 x7 x8:=(p.cl,am.cl,n.cl,P.cl,B.cl,O.cl,q.cl,ap.cl);have Sx:=b.ns S5;have RS:=b.ns SO;have Rh:=b.ns SJ;have RA:=b.ns SN;have RY:=b.ns SQ;have Rx:=b.ns SV;have RT:=b.ns SR;have Sc:=b.ns SW;have QV:=b.ns SA;have Qg:=b.ns S7;have Qf:FldK Z.K c "amount":=fk8 CC Y;have Qm:FldK Z.K c "cells":=fk8 CC al;have Sl:FldK Z.K c "floor":=fk8 CC ak;have Qw:FldK Z.K c "mark":=fk8 CC ar;have QN:FldK Z.K c "words":=fk8 CC ag;have Qq:FldK Z.K d "floor":=⟨λ_ _=>(g.cl,ao)⟩;have Qt:FldK Z.K d "given":=⟨λ_ _=>(g.cl,aj)⟩;have Qx:FldK Z.K d "laws":=⟨λ_ _=>(g.cl,aq)⟩;have P8:=au.of b;have R0:=L.of b;have Rs:=t.of b;have Rj:=u.of b;have RB:=D.of b;have Sb:=S.of b;have Q0:=GD0.of (Z:=Z) j b;have Qd:=GO b D0;have P9:=Dm b D1;have QC:=KN b D2;have Qp:=KO b D3;have P2:=IQ b D4;have Qo:=GP b D5;have Rl:=As b D6;have QF:=tJ b D7;have QD:=FR b D8;have QE:=FS b D9;have R6:=FT b dJ;have Rz:=BT b ek;have af:=yQ b Qf Qm Sl Qw QN cu;have SF:aR Z "Unlike" (c.A .Unlike) c:=af.mke b p;have av:aR Z "Sum" (c.A .Sum) c:=af.mke b am;have SE:aR Z "Rising" (c.A .Rising) c:=af.mke b n;have SU:aR Z "Seen" (c.A .Seen) c:=af.mke b P;have SK:aR Z "Count" (c.A .Count) c:=af.mke b B;have SD:aR Z "Joined" (c.A .Joined) c:=af.mke b O;have Sn:aR Z "NoSquare" (c.A .NoSquare) c:=af.mke b q;have ST:aR Z "Ring" (c.A .Ring) c:=af.mke b ap;have ey:=FU b QN eq;have SS:KL Z c:=⟨λi hi=>ey.at (c8 CC i) (at8 cH i) λ_ _ _ _ h=>(i,h)⟩;have br:=Dn b Qm cn;have Qi:ku Z c:=⟨λi hi=>br.at (c8 CC i) (at8 es i) λ_ _ _ _ h=>(i,h)⟩;have er:=BU b Qf cK;have QH:yP Z c:=⟨λi hi=>er.at (c8 CC i) (at8 bo i) λ_ _ _ _ h=>(i,h)⟩;have cD:=FV b Qw bt;have SI:KM Z c:=⟨λi hi=>cD.at (c8 CC i) (at8 dF i) λ_ _ _ _ h=>(i,h)⟩;have dO:=yR b Qm dh;have Qn:lM Z c:=⟨λi hi=>dO.at (c8 CC i) (at8 bC i) λ_ _ _ _ h=>(i,h)⟩;have cr:=BV b Qm Qw bw;have SB:FO Z c:=⟨λi hi=>cr.at (c8 CC i) (at8 cC i) λ_ _ _ _ h=>(i,h)⟩;have R7:=FW b Sx Rh dK;have dQ:=At (c:=c) b Qq cN;have Qj:kr Z c d:=⟨λi hi=>by cases i;show dQ.at g.cl SX λ_ _ _ _ h=>h⟩;have ep:=Au (c:=c) b Qt bF;have SL:HG Z c d:=⟨λi hi=>by cases i;show ep.at g.cl SY λ_ _ _ _ h=>h⟩;have eo:=Av (c:=c) b Qx dd;have Ql:mL Z c d:=⟨λi hi=>by cases i;show eo.at g.cl SZ λ_ _ _ _ h=>h⟩;have bZ:=ur (c:=c) b Qt dW;have Se:xD Z c d:=⟨λi hi=>by cases i;show bZ.at g.cl S0 λ_ _ _ _ h=>h⟩;have QB:=Aw b dZ;have RQ:=Do b dV;have Sg:=FX b bH;have Sm:=GQ b bf;have Qr:=vE b cp;have Qk:=wR b Qd bV;have R9:=FY b QC bp;have QW:=IR b QC Qp bc;have T:=GR b Qp eg;have QY:=IS b Qd P9 bi;have QX:=IT b SS Q0 ew;have Qb:=KP b Qi ci;have QO:=GS b Qp bh;have So:=GT b Qi bT;have SG:=KQ b Qi bY;have QR:=wS b QD bD;have P5:=AC b QE Qg dv;have P4:=GU b QC dp;have Rb:=yS b R6 dx;have Ru:=AE b P9 Qj Ql Qi cJ;have dD:=AF b Qn ei;have dS:=F3 b Qf Qn dL;have ej:=AG b Qn cv;have ed:=Dp b Qf Qn cz;have cI:=BW b Qf SB dy;have RP:BS Z c:=⟨λi hi=>by cases i with | Rule=>show(TB hi).elim | Unlike=>show dD.at p.cl S1 λ_ _ _ _ h=>h | Sum=>show dS.at am.cl Ta λ_ _ _ _ h=>h | Rising=>show ej.at n.cl S2 λ_ _ _ _ h=>h | Seen=>show ed.at P.cl S9 λ_ _ _ _ h=>h | Count=>show cI.at B.cl S8 λ_ _ _ _ h=>h | Joined=>show(TB hi).elim | NoSquare=>show(TB hi).elim | Ring=>show(TB hi).elim⟩;have Qs:=yT b R7 ee;have Qz:=Dq b Qd P9 ev;have Sh:=F4 b RQ LT LC LB LM eu;have Rw:=AH b Sm bX;have Sq:=GV b Qk RS Rx RT di;have Sk:=NG b R9 P9 bd;have Qu:=GW b QW dM;have Qa:=KS b QW ds;have R1:=Dr b T cf;have Sj:=NH b T bx;have Qy:=IU b Qk bm;have Ri:=AK b QX Qd Ql Qi em;have Q6:=yU b T bI;have RU:=Ds b T dI;have Rn:=AL b QF Qb T bg;have RD:=BX b P2 Qo Qb T QH dR;have RX:=Dt b Qb T Qi bN;have Rv:=AM b QX Ql co;have P6:=Du b T bn;have QP:=AN b Qs el;have RV:=Dv b P9 Qs bk;have Sy:=IV b SK SD Sn ST SE SU av SF dz;have Rc:=yV b Qz dY;have Sf:=F6 b Ri QY Qy Qd Qj P8 bv;have Sa:=F7 b Qu cL;have Rm:=AO b Qu Qb bB;have Q9:=yW b Qy QO Qo Qb Qi be;have Rp:=AQ b So SG Q6 RU bS;have Qe:=ut b QE QY Qy Qj bW;have RW:=Dw b Qu Qb bU;have Sr:=GX b P9 RV Rj cE;have Re:=yX b Sq dl;have QQ:=vN b Rl Rm Rn Q9 Rp SL Qj Ql et;have Ra:=yY b QO Sa Qo Qb QH SI dT;have P3:=rA b Qd Qe bQ;have P7:=wT b Qp Qe bP;have QA:=rB b Qp Qe du;have Rt:=AS b RW RX Rz Qj Ql cs;have Sd:=F8 b Sr QP Sy RA RB Sb bu;have Rq:=AT b P2 Qo Qb T Sj QR QD Sc RP dP;have RZ:=Dx b Sd RY bz;have dB:=AU b Qz Qq Qx Se RP bq;have SM:HH Z c d:=⟨λi hi=>by cases i;show dB.at g.cl S3 λ_ _ _ _ h=>h⟩;have QG:=tK b Ra RD Rq Ql dE;have QT:=wU b Rb T SM bs;have en:=vP b Rc Re RZ Qq Qt Qx dw;have SH:oA Z "Puzzle" (d.A .Puzzle) c d:=en.mke b g;have QZ:=IW b QQ QG R0 Rs bE;have Qh:=IX b Sf QZ cP;have Ss:=GY b Rt QZ dt;have Su:=GZ b Qh P5 as;have Rf:=yZ b Ru P2 Ss T Qa dX;have RE:=BY b Qh P2 Su P3 P7 P5 Qa P4 as;have RF:=BZ b Rf Rv P8 aT;have RG:=B0 b Qh P2 RE P3 P7 P5 Qa P4 as;have Qc:=LZ b P2 RF Qa az;have RH:=B1 b Qh P2 RG P3 P7 P5 Qa P4 as;have Rg:=y0 b P2 P6 T Qc P8 N;have Si:=F9 b Qc P8 aA;have RI:=B4 b Qh P2 RH P3 P7 P5 Qa P4 as;have Sv:=G0 b Rg P4 Qg ab;have RJ:=B5 b Qh P2 RI P3 P7 P5 Qa P4 as;have QI:=uu b P2 P6 Sv T Qc P8 N;have RL:=B6 b P2 RJ QA Qa aO;have RM:=B7 b QI P4 Qg ab;have QS:=KW b RL Sk Qj aS;have QJ:=uv b P2 P6 RM T Qc P8 N;have RN:=B8 b QJ P4 Qg ab;have Sw:=G1 b Qr QS aP;have QK:=uw b P2 P6 RN T Qc P8 N;have Ry:=Gb b Sw Qr QS bb;have RO:=B9 b QK P4 Qg ab;have QL:=ux b P2 P6 RO T Qc P8 N;have Qv:=Ca b QL P4 Qg ab;have QM:=uy b P2 P6 Qv T Qc P8 N;have QU:=wV b P6 R1 Qv T Qa Qc P8 aN;have Sz:=L0 b QT QU QM P2 Sk Qc Sj QV Qj P8 aE;show(Pg b Rw QB Ry Sg Sh Si Sz SH F).imp λvs H Q E h=>by obtain⟨a,ns,e,hS,hn,T9,k⟩:=h;show(a,ns,e,hS,hn,λk hk ha=>by cases k <;> first | rfl | show absurd rfl hk | (cases ha;done),rfl,T9,k)
def  walk {q:Program} {c:List Str} {t:(Str->Option Value)->Heap->Prop} {j:World->Heap->Prop} {d:DefRec} {K:Params->Frag} {c0 g:Addr} (A:l.most=some 63) (i:d.params.defaults=[])
  (C:∀(w:World) (h:Heap),j w h->(K w.params).In h/\h.get? g=some (PySem.W.tabObj #[])) (p:∀ w:World,PySem.W.tabIn (K w.params) "_law_rule"=some (c0 ,g)) (y:∀ w:World,CdP (K w.params) c0 g) (v:∀ w:World,(K w.params).lookup g=none)
  (F:∀(w:World) (e:Str->Option Value) (o:Addr) (h:Heap),(K w.params).In h->h.Ns mainGlobals e->e d.name=↑o->
   ∃ m:FuncData,(∀(s:Shared) (u:Value),BindsTo s m ([u],[]) [("_law_script" ,u)])/\∀ b:Heap,(K w.params).In b->b.Ns mainGlobals e->b.BuiltinsAt e g->FnOk l.prog w (K w.params) e b CX0 25 o m ["_law_script"] (BR<|K w.params)):
  PySem.W.WalkO q c t j l.row.toRowW d [] (λf vs=>PySem.call f vs):=
 L2.LV (n:=63) (k:=25) (x:="_law_script") (CX:=λ_=>CX0) (sp:=λw=>BR<|K w.params) (c':=c0) A #[1] i (rfl,by decide,by decide) C v (λw h X=>(y w).tab X) F (λw _ a ns B r D=>(a,ns,rfl,D,B,by rw[HE<|p w];show r,λ_=>rfl)) λ_ _ _ _ _ z=>z
variable{P:Program}{w:World}{K:Frag}{mg:Str->Option Value}{base:Heap}
def  wW {w:World} {K:Frag} {p:Addr} {ep:Nat} {O:Int} {av:Tok} {t:Addr} {n:Option Addr} {ab:Nat} {Q:Array (Option Value)} {c:Tok} {C:Int} {aq:Tok} {L:Addr} {z:Option Addr} {ak:Nat} {P:Array (Option Value)} {l:Tok} {x:Int} {ay:Tok} {S:Addr} {q:Option Addr} {ao:Nat} {H:Array (Option Value)} {d:Tok} {D:Int} {au:Tok} {X:Addr} {U:Option Addr} {as:Nat} {y:Array (Option Value)} {g:Tok} {A:Int} {ag:Tok} {Z:Addr} {J:Option Addr} {aj:Nat} {E:Array (Option Value)} {i:Tok} {o:Int} {aw:Tok} {u:Addr} {N:Option Addr} {ar:Nat} {W:Array (Option Value)} {h:Tok} {F:Int} {ax:Tok} {R:Addr} {T:Option Addr} {ae:Nat} {I:Array (Option Value)} {f j:Tok} {s:Int} {af:Tok} {B:Addr} {m:Option Addr} {al:Nat} {G:Array (Option Value)} {k:Tok} {Y:Int} {ap:Tok} {r:Addr} {M:Option Addr} {am:Nat} {v:Array (Option Value)} {e:Tok}
  (a:nsIn K mainGlobals "RULES_OF_KIND"=some ↑p) (b:K.lookup p=some (.type "dict",none,.dict #[(O,.str (tx s!"only") av,.ref t),(C,.str (tx s!"place") aq,.ref L),(x,.str (tx s!"count") ay,.ref S),(D,.str (tx s!"step") au,.ref X),(A,.str (tx s!"sum") ag,.ref Z),(o,.str (tx s!"square") aw,.ref u),(F,.str (tx s!"reach") ax,.ref R),(s,.str (tx s!"turn") af,.ref B),(Y,.str (tx s!"pair") ap,.ref r)] ep,#[])) (k0:K.lookup t=some (.type "tuple",n,.seq #[.str (tx s!"unlike") c] ab,Q)) (h0:O=hashStr w (tx s!"only")) (k1:K.lookup L=some (.type "tuple",z,.seq #[.str (tx s!"unlike") l] ak,P)) (h1:C=hashStr w (tx s!"place")) (k2:K.lookup S=some (.type "tuple",q,.seq #[.str (tx s!"count") d] ao,H)) (h2:x=hashStr w (tx s!"count")) (k3:K.lookup X=some (.type "tuple",U,.seq #[.str (tx s!"rising") g] as,y)) (h3:D=hashStr w (tx s!"step")) (k4:K.lookup Z=some (.type "tuple",J,.seq #[.str (tx s!"sum") i] aj,E)) (h4:A=hashStr w (tx s!"sum")) (k5:K.lookup u=some (.type "tuple",N,.seq #[.str (tx s!"nosquare") h] ar,W)) (h5:o=hashStr w (tx s!"square")) (k6:K.lookup R=some (.type "tuple",T,.seq #[.str (tx s!"joined") f,.str (tx s!"ring") j] ae,I)) (h6:F=hashStr w (tx s!"reach")) (k7:K.lookup B=some (.type "tuple",m,.seq #[.str (tx s!"ring") k] al,G)) (h7:s=hashStr w (tx s!"turn")) (k8:K.lookup r=some (.type "tuple",M,.seq #[.str (tx s!"unlike") e] am,v)) (h8:Y=hashStr w (tx s!"pair")):GD0 w K "RULES_OF_KIND" gd_RULES_OF_KIND:=
 (p,_,_,_,a,b,(rfl,rfl,rfl),rfl,(.cons h0 k0 rfl rfl (Uy<|aH<|UI rfl) (.cons (_,rfl) .nil)<|.cons h1 k1 rfl rfl (Uy<|aH<|UI rfl) (.cons (_,rfl) .nil)<|.cons h2 k2 rfl rfl (Uy<|aH<|UI rfl) (.cons (_,rfl) .nil)<|.cons h3 k3 rfl rfl (Uy<|aH<|UI rfl) (.cons (_,rfl) .nil)<|.cons h4 k4 rfl rfl (Uy<|aH<|UI rfl) (.cons (_,rfl) .nil)<|.cons h5 k5 rfl rfl (Uy<|aH<|UI rfl) (.cons (_,rfl) .nil)<|.cons h6 k6 rfl rfl (Uy<|aH<|UI rfl) (.cons (_,rfl)<|.cons (_,rfl) .nil)<|.cons h7 k7 rfl rfl (Uy<|aH<|UI rfl) (.cons (_,rfl) .nil)<|.cons h8 k8 rfl rfl (Uy<|aH<|UI rfl) (.cons (_,rfl) .nil) .nil),by decide+kernel)
end L2
end
open PySem PySem.W PyProof.Rows
set_option maxRecDepth 100000 in
set_option maxHeartbeats 0 in
theorem PySem.Challenge.cw_cluemaker_k55_whole_solved_holds : PySem.Challenge.rw_cluemaker_k55_whole_solved.Holds := by
  refine PySem.Challenge.t9 ?_
  k_fill
  refine' L2.walk (l := PySem.Challenge.rw_cluemaker_k55_whole_solved) (c0 := _) rfl rfl (fun w h Y => ⟨Y.1, Y.2 _ (List.Mem.head _)⟩) ?T ?C ?L ?F
  case T => intro w; (refine' L2.FA ?a ?b ?e ?l ?v; (case a => k_is); (case b => k_is); (case e => rfl); (case l => k_is); case v => rfl)
  case C => intro w; (refine' L2.CdP.mk' ?a ?b ?d ?e ?f ?g ?i ?j ?k ?l; (case a => k_is); (case b => rfl); (case d => rfl); (case e => rfl); (case f => rfl); (case g => rfl); (case i => rfl); (case j => rfl); (case k => rfl); case l => decide)
  case L => intro w; first | k_is | rfl | decide
  case F =>
    intro w mg fa h KX G hmg
    refine' L2.Ph KX G hmg ?_ ?_ ?_ ?_ ?_ ?_ ?_ ?_ ?_ ?_ ?_ ?_ ?_ ?_ ?_ ?_ ?_ ?_ ?_ ?_ ?_ ?_ ?_ ?_ ?_ ?_ ?_ ?_ ?_ ?_ ?_ ?_ ?_ ?_ ?_ ?_ ?_ ?_ ?_ ?_ ?_ ?_ ?_ ?_ ?_ ?_ ?_ ?_ ?_ ?_ ?_ ?_ ?_ ?_ ?_ ?_ ?_ ?_ ?_ ?_ ?_ ?_ ?_ ?_ ?_ ?_ ?_ ?_ ?_ ?_ ?_ ?_ ?_ ?_ ?_ ?_ ?_ ?_ ?_ ?_ ?_ ?_ ?_ ?_ ?_ ?_ ?_ ?_ ?_ ?_ ?_ ?_ ?_ ?_ ?_ ?_ ?_ ?_ ?_ ?_ ?_ ?_ ?_ ?_ ?_ ?_ ?_ ?_ ?_ ?_ ?_ ?_ ?_ ?_ ?_ ?_ ?_ ?_ ?_ ?_ ?_ ?_ ?_ ?_ ?_ ?_ ?_ ?_ ?_ ?_ ?_ ?_ ?_ ?_ ?_ ?_ ?_ ?_ ?_ ?_ ?_ ?_ ?_ ?_ ?_ ?_ ?_ ?_ ?_ ?_ ?_ ?_ ?_ ?_ ?_ ?_ ?_ ?_ ?_ ?_ ?_ ?_ ?_ ?_ ?_
    all_goals first
      | (refine' L2.FA ?a ?b ?e ?l ?v; (case a => k_is); (case b => k_is); (case e => rfl); (case l => k_is); case v => rfl)
      | (refine' L2.CdP.mk' ?a ?b ?d ?e ?f ?g ?i ?j ?k ?l; (case a => k_is); (case b => rfl); (case d => rfl); (case e => rfl); (case f => rfl); (case g => rfl); (case i => rfl); (case j => rfl); (case k => rfl); case l => decide)
      | (refine' L2.De.of ?a (L2.Jo ?l ?c ?k); (case a => k_is); (case l => k_is); (case c => k_is); case k => k_is)
      | (refine' L2.Me.of (L2.Jo ?l ?c ?k) ?n; (case l => k_is); (case c => k_is); (case k => k_is); case n => k_is)
      | (refine' L2.ClsP.mk ?a ?b ?c ?d ⟨?e, ?f, ?g, ?h⟩; (case a => k_is); (case b => k_is); (case c => k_is); (case d => k_is); (case e => k_is); (case f => k_is); (case g => k_is); case h => k_is)
      | (unfold L2.At8; refine' ⟨?_, ?_, ?_, ?_, ?_, ?_, ?_, ?_⟩ <;> k_is)
      | (refine' L2.GT0.mk' ?a ?b ?x ?y ?c ?d; (case a => k_is); (case b => k_is); (case x => rfl); (case y => rfl); (case c => exact Nat.le_of_lt (L2.aH (by decide))); (case d => repeat' (first | exact .nil | refine' .cons ⟨_, rfl⟩ ?_)))
      | (refine' L2.wW ?a ?b ?k0 ?h0 ?k1 ?h1 ?k2 ?h2 ?k3 ?h3 ?k4 ?h4 ?k5 ?h5 ?k6 ?h6 ?k7 ?h7 ?k8 ?h8; (case a => k_is); (case b => k_is); (case k0 => k_is); (case h0 => first | exact rfl | with_unfolding_all rfl); (case k1 => k_is); (case h1 => first | exact rfl | with_unfolding_all rfl); (case k2 => k_is); (case h2 => first | exact rfl | with_unfolding_all rfl); (case k3 => k_is); (case h3 => first | exact rfl | with_unfolding_all rfl); (case k4 => k_is); (case h4 => first | exact rfl | with_unfolding_all rfl); (case k5 => k_is); (case h5 => first | exact rfl | with_unfolding_all rfl); (case k6 => k_is); (case h6 => first | exact rfl | with_unfolding_all rfl); (case k7 => k_is); (case h7 => first | exact rfl | with_unfolding_all rfl); (case k8 => k_is); case h8 => first | exact rfl | with_unfolding_all rfl)
      | (unfold L2.Zn; refine' ⟨?_, ?_, ?_, ?_, ?_, ?_, ?_, ?_, ?_, ?_, ?_, ?_, ?_, ?_, ?_, ?_, ?_, ?_, ?_⟩ <;> (unfold L2.Nn; k_is))
      | (unfold L2.Nn; k_is)
      | k_is
      | decide
      | skip
