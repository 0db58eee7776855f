import PyProof.Rows.All
import Wide.All
import OpenK.AllK
import Wide.FinOn
import Lean
import PyProof.EqAt
import PyProof.EqKinds
import PyProof.TupleCall
import PyProof.ZipIter
import PyProof.ConsumeS
import PyProof.StrCalls2
import PyProof.StrWalks
import PyProof.SliceStr2
import PyProof.StrBlock
import PyProof.StrBlockL
import PyProof.ListIndex
import PyProof.StrLawsTight
import PyProof.StrLawsChain
import PyProof.StrLaws
import PyProof.StrLawsFirst
import PyProof.StationsW
import PyProof.ExcClass3
import PyProof.NsDelKeeps
import PyProof.RulesAs
import PyProof.ExcBaseAll.ValueError
import PyProof.ExcArgsOwn
import PyProof.ExcAttrAll.ValueError
import KE.KTryMore
import KE.RegKTryMore
import KE.RegKIsAll
import PyProof.Rows.Range3
import PyProof.Rows.SumGenD
import PyProof.Rows.RuleM_int
import PyProof.EnumMake
import PyProof.EnumFor
import PyProof.EnumStmt
import PyProof.Rows.EnumRows
import KE.KRevIter
import PyProof.ListNew
import PyProof.CollectIter
import PyProof.ListRange
import PyProof.CallStr
import PyProof.StrBlock2
import PyProof.Rows.StrMadeLen
import PyProof.Rows.SetFrom
import PyProof.SetRoads
import PyProof.MeetsStr2
import KE.KRevSl
import PyProof.Conv_int
import PyProof.WalkInts
import PyProof.Rows.SeqMore
import KE.KSortKey
import KE.KLam
import PySem.Challenge.RW_cluemaker_k54_kinds_needed
set_option compiler.extract_closed false
set_option Elab.async false
set_option linter.all false
set_option maxRecDepth 100000
open PySem.W (Frag nsIn findIn fnOf isFn codeIn keepIn)
set_option maxHeartbeats 40000000
namespace O9
section
variable{A B C D E F I J:Type}{G a b c d e f g i:Prop}
theorem ex1{P:A->Prop}(h:∃a,P a)(k:∀a,P a->G):G:=h.elim k
theorem ex2{P:A->B->Prop}(h:∃a b,P a b)(k:∀a b,P a b->G):G:=h.elim fun a h=>ex1 h (k a)
theorem ex3{P:A->B->C->Prop}(h:∃a b c,P a b c)(k:∀a b c,P a b c->G):G:=h.elim fun a h=>ex2 h (k a)
theorem ex4{P:A->B->C->D->Prop}(h:∃a b c d,P a b c d)(k:∀a b c d,P a b c d->G):G:=h.elim fun a h=>ex3 h (k a)
theorem ex5{P:A->B->C->D->E->Prop}(h:∃a b c d e,P a b c d e)(k:∀a b c d e,P a b c d e->G):G:=h.elim fun a h=>ex4 h (k a)
theorem ex6{P:A->B->C->D->E->F->Prop}(h:∃a b c d e f,P a b c d e f)(k:∀a b c d e f,P a b c d e f->G):G:=h.elim fun a h=>ex5 h (k a)
theorem ex7{P:A->B->C->D->E->F->I->Prop}(h:∃a b c d e f g,P a b c d e f g)(k:∀a b c d e f g,P a b c d e f g->G):G:=h.elim fun a h=>ex6 h (k a)
theorem ex8{P:A->B->C->D->E->F->I->J->Prop}(h:∃a b c d e f g i,P a b c d e f g i)(k:∀a b c d e f g i,P a b c d e f g i->G):G:=h.elim fun a h=>ex7 h (k a)
theorem an2(h:a∧b)(k:a->b->G):G:=k h.1 h.2
theorem an3(h:a∧b∧c)(k:a->b->c->G):G:=an2 h.2 (k h.1)
theorem an4(h:a∧b∧c∧d)(k:a->b->c->d->G):G:=an3 h.2 (k h.1)
theorem an5(h:a∧b∧c∧d∧e)(k:a->b->c->d->e->G):G:=an4 h.2 (k h.1)
theorem an6(h:a∧b∧c∧d∧e∧f)(k:a->b->c->d->e->f->G):G:=an5 h.2 (k h.1)
theorem an7(h:a∧b∧c∧d∧e∧f∧g)(k:a->b->c->d->e->f->g->G):G:=an6 h.2 (k h.1)
theorem an8(h:a∧b∧c∧d∧e∧f∧g∧i)(k:a->b->c->d->e->f->g->i->G):G:=an7 h.2 (k h.1)
end
open Lean
abbrev PL:=Array (TSyntax ``Parser.Tactic.rcasesPatLo)
def ob(h:TSyntax `term)(ps:Array Syntax):MacroM Syntax:=do
 let n:=ps.size
 let mut xs:Array (TSyntax `ident):=#[]
 let mut q<-`(tactic|skip)
 for j in [0:n] do
  let r:=ps[n-1-j]![0]
  let p:=r[0][0]
  if p.isOfKind ``Parser.Tactic.rcasesPat.one&&p[0].getId != `rfl then xs:=xs.push ⟨p[0]⟩
  else if p.isOfKind ``Parser.Tactic.rcasesPat.ignore then xs:=xs.push (mkIdent `o0_)
  else
   let v:=mkIdent (<-Macro.addMacroScope (.mkSimple s!"e{j}"))
   xs:=xs.push v
   q<-`(tactic|(obtain $(⟨r⟩):rcasesPatMed:=$v:ident;$q))
 xs:=xs.reverse
 let x:=mkIdent `o1
 let mut t<-`(tactic|rcases $h:term with⟨$((ps.map (⟨·⟩):PL)),*⟩)
 let m:=min (n-1) 8
 let mut al:=#[(0,min n 8)]
 for j in [0:m] do al:=al.push (1,m-j)
 for j in [0:min n 8-2] do al:=al.push (0,min n 8-1-j)
 for (s,k) in al.reverse do
  let l:=mkIdent (.mkStr2 "O9" ((if s=1 then "ex" else "an")++toString k))
  let k:=k+s
  let (ys,r)<-if k=n then pure (xs,q) else
   let zs:PL:=(xs.extract (k-1) n).map fun y=>⟨mkNode ``Parser.Tactic.rcasesPatLo #[mkNode ``Parser.Tactic.rcasesPatMed #[mkNullNode #[mkNode ``Parser.Tactic.rcasesPat.one #[y]]],mkNullNode]⟩
   pure ((xs.extract 0 (k-1)).push x,(<-`(tactic|(obtain⟨$zs,*⟩:=$x:ident;$q))))
  t<-`(tactic|first|(refine $l $h ?_;(try clear $h);intro $ys*;$r)|($t:tactic))
 return t
def rn(ps:Array Syntax):MacroM Syntax:=do
 let n:=ps.size-1
 let t:=ps[n]![0]
 unless t.isOfKind ``Parser.Tactic.rcasesPat.tuple do Macro.throwUnsupported
 let mut xs:Array Term:=#[]
 for j in [0:n] do
  let p:=ps[j]![0]
  if p.isOfKind ``Parser.Tactic.rcasesPat.one&&p[0].getId != `rfl then xs:=xs.push ⟨p[0]⟩
  else if p.isOfKind ``Parser.Tactic.rcasesPat.ignore then xs:=xs.push ⟨mkNode ``Parser.Term.hole #[mkAtom "_"]⟩
  else Macro.throwUnsupported
 let x:=mkIdent `o2
 xs:=xs.push x
 `(tactic|(intro $xs*;obtain $(⟨mkNode ``Parser.Tactic.rcasesPatMed #[mkNullNode #[t]]⟩):rcasesPatMed:=$x:ident))
def W9(p:Prop):=p
theorem w9{p9:Prop}(h9:p9):W9 p9=True:=eq_true h9
theorem w8{p9:Prop}(h9:W9 p9):p9:=h9
end O9
section
local macro_rules|`(by%$k $t)=>if k.getTrailing?.any (·.toString=="\n ") then `(by refine @O9.w8 _ ?_;simp (disch:=k_dflt (refine @id _ ?_;($t))) only[↓O9.w9]) else Lean.Macro.throwUnsupported
local macro_rules|`(tactic|obtain⟨$ps,*⟩:=$h:term)=>let p:=ps.getElems.map (·.raw);if p.size<2||p.any (fun q=>q[0][0].getNumArgs != 1||q[1].getNumArgs>0) then Lean.Macro.throwUnsupported else O9.ob h p
local macro_rules|`(tactic|rintro $ps*)=>O9.rn (ps.map (·.raw))
namespace O9
open Lean
abbrev DS:=StateT (List Char) MacroM
def nx:DS Char:=do
 let l<-get
 set l.tail
 return l.head?.getD ' '
def num:DS Nat:=do
 let k<-get
 let r:=k.takeWhile (·.isDigit)
 set (k.drop (r.length+1))
 return r.foldl (fun x d=>10*x+(d.toNat-48)) 0
def hd(tb:List String):DS (Term×Nat):=do
 let c<-nx
 let c<-if "~'{}_".toList.contains c then pure (toString c++toString (<-nx)) else pure (toString c)
 let e:=((tb.find? (·.startsWith c)).getD "").toList.drop c.length
 let n:=String.ofList e.dropLast
 let r:=String.ofList (e.dropLast.drop 1)
 let m:Term:=if n="_" then ⟨mkNode ``Parser.Term.hole #[mkAtom "_"]⟩ else if n.startsWith "." then ⟨mkNode ``Parser.Term.dotIdent #[mkAtom ".",mkIdent r.toName]⟩ else if n.startsWith "%" then quote r else mkIdent n.toName
 return (m,(e.getLast?.getD '0').toNat-48)
def cmp(c:Char):MacroM Term:=do
 let t<-if c='>' then `(fun i j=>decide (j<i)) else if c='<' then `(fun i j=>decide (i<j)) else if c='(' then `(fun i j=>decide (i<=j)) else `(fun i j=>decide (j<=i))
 `($(mkIdent `cCmp) $t)
def ixs:Nat->DS (Array Term)
|0=>return #[]
|n+1=>do
 let c<-nx
 if c=' ' then return #[]
 let x<-if c='-' then `(none) else `(some $(quote (c.toNat-48)))
 return #[x]++(<-ixs n)
def dec(v:Name)(ts:Array Term)(tb:List String):Nat->DS Term
|0=>return mkIdent v
|n+1=>do
 let c<-nx
 if c.isDigit then `($(mkIdent v) $(quote (c.toNat-48)))
 else if c='|' then
  let d<-nx
  `($(mkIdent v) $(quote (d.toNat-87)))
 else if c='#' then return quote (<-num)
 else if c='`' then return ts[(<-nx).toNat-48]!
 else if c='$' then
  let t<-dec v ts tb n
  `(fun cl s H fp=>$t)
 else if c='!' then `(by decide)
 else if c='=' then `([])
 else if c=',' then
  let a<-dec v ts tb n
  let b<-dec v ts tb n
  `($(mkIdent `tCall) $a [] $(mkIdent `E0) $b)
 else if c='%' then `(by decide +kernel)
 else if c='@' then
  let t<-dec v ts tb n
  `(show ($t : List $(mkIdent `Str)).Nodup by decide +kernel)
 else if c='&' then
  let a<-ixs 99
  `([$a,*])
 else if "<>()".toList.contains c then cmp c
 else if c='.' then
  let d<-nx
  let t<-dec v ts tb n
  return ⟨mkNode ``Parser.Term.namedArgument #[mkAtom "(",mkIdent (if d='x' then `ix else .mkSimple (toString d)),mkAtom ":=",t,mkAtom ")"]⟩
 else
  modify (c::·)
  let (h,k)<-hd tb
  if k=0 then return h
  let mut a:=#[]
  for _ in [0:k] do a:=a.push (<-dec v ts tb n).raw
  return ⟨mkNode ``Parser.Term.app #[h,mkNullNode a]⟩
def tbR:List String:="atCons2 bK0 ctNil0 dtOp3 etC1 f.int1 gtSeq2 hgName1 ic0 jtRet1 kcIx0 ltAsg2 mtTest1 ntIfS3 otNext0 pd0 qtCB2 rcEq1 siList2 ttLst1 u.str1 vtx1 wtComp5 xtB1 yaE6 zfalse0 AkLen0 BcNe1 CcAdd0 DtTrue0 Ec.ok0 F%list0 G.bl1 HtBM5 ItFor3 JtOr2 KtNot1 LtAndV2 MtFldK3 NcIn2 OtTup1 PtDrop1 Qtrue0 Rd.ok0 ScMod0 Tbv0 UcSub0 VdW0 WkIsi0 X.ty1 YcMul0 Z.non0 *kAll0 +tPart1 -b62 /bt1 :gCons2 ;cDiv0 ?%floor0 [tMake5 ]E00 ^tSl4 ~akc0 ~bsFldK4 ~cc.A1 ~daQ2 ~e%rules0 ~fe83 ~gjc1 ~hbW1 ~isComp6 ~jgb0 ~kcV1 ~lkList0 ~mtIf3 ~n%spots0 ~ogA2 ~pdP1 ~q%sign0 ~ri92 ~sjg1 ~tfA1 ~u%amount0 ~vrIsN0 ~wtInG3 ~xgC1 ~ytOrV2 ~zfS1 ~AgTup3 ~BgNil0 ~C%place0 ~DiH3 ~EcH1 ~F%cells0 ~G%signs_at0 ~Hge2 ~I%int0 ~JcP1 ~Kgf1 ~Lfw1 ~M%number0 ~Ni82 ~OkSum0 ~PgR1 ~Q%marked0 ~Rja2 ~Sgd0 ~TcRepL0 ~Ufz1 ~V%mark0 ~WiTup2 ~XtAnd2 ~YkQ1 ~Z%str0 ~*%bool0 ~+ig1 ~-%tuple0 ~/%laws0 ~:%given0 ~;Aq4 ~?ji1 ~[kAny0 ~]iEnum2 ~^tGT2 'aiI0 'bkB3 'cjS1 'djP3 'edq3 'flU1 'gmw1 'h%words0 'ifL1 'jtS1 'keJ1 'ltNotV1 'mip1 'no90 'onJ1 'plW1 'qtN1 'rAj2 's%is_joined0 'tjj2 'u%holds0 'vdc2 'wma0 'xjC1 'ynR1 'ziu3 'A%meets0 'BqE3 'Cgt1 'DtRevL1 'Egu1 'FnV3 'Gmx1 'HmB1 'IiStr1 'JtT0 'KmG1 'Lgp0 'Mlc1 'N.Unlike0 'O.Sum0 'P.Rising0 'Q.Seen0 'R.Count0 'S.Joined0 'T.NoSquare0 'U.Ring0 'Vqq2 'WoF1 'XgQ0 'Ygz0 'Zgq2 '*vQ0 '+jl2 '-oI1 '/mI2 ':iD1 ';lf2 '?iF1 '[cShr0 ']rInS1 '^%name0 {axQ2 {btIxG3 {cgd_RULES_OF_KIND0 {dqw1 {egg2 {fjY2 {ggW1 {hfO2 {igh2 {jcOr0 {kfP1 {lgF2 {moP2 {niO1 {osd2 {plj1 {qgG2 {rtUn2 {sg72 {tg82 {umM1 {v%has_two_beside0 {wgS2 {xiZip2 {y%has_clues0 {zmO3 {AkS3 {BhJ1 {CgH2 {Dya1 {EgI2 {Fqu1 {Ggk2 {Hd81 {Igl2 {Jsi1 {KgJ2 {LgK2 {MgY2 {NiQ2 {OjF2 {PiL2 {Qkh2 {RjD2 {Sjq1 {T%clues0 {UuZ3 {Vjs2 {WiJ2 {Xjx2 {Yjv2 {Ziq0 {*gm3 {+gr0 {-ff3 {/fc3 {:hX2 {;lL2 {?h92 {[iS2 {]lu2 {^kt2 }alz2 }bkq1 }cjH1 }dlx1 }egL3 }fjJ3 }goU3 }hqy2 }ioW3 }jrNotN0 }kjN3 }lfbin3 }mjL3 }niT3 }orIn2 }pffin3 }qky3 }rthin3 }skLenS1 }trIxL1 }umR1 }vqI1 }wyh1 }xlB1 }ylD1 }zvY0 }ArR0 }BkStr0 }CAe0 }Dd41 }Ed51 }FfT1 }GfU1 }HqH6 }ItabP2 }J%_law_row0 }KfV1 }LDS1 }MfW1 }NfX1 }OfY3 }PdO3 }QiRevT2 }RjT3 }SFG1 }TjU3 }UiV3 }VfZ3 }Wf63 }XeQ1 }YgM1 }ZvM0 }*lY3 }+lI3 }-lZ3 }/DU3 }:l03 };l63 }?d.A1 }[.Puzzle0 }]cZ3 }^l73 _alG1 _bqO3 _cnX3 _dnY3 _esG3 _fsH3".splitOn " "
def tbF:List String:="arfl0 baa2 cab0 dhu0 ead1 fhr0 gac2 hae0 iaf1 jkcal3 kai1 l_0 mkix3 nnd0 oaj4 paq3 qak0 rOr.inl1 skset3 tao4 uap5 vax1 war1 xay4 yaw5 zaA1 Aau3 BaD8 CaJ1 DaV1 EBz.len_0 FaH4 GaR0 HaG0 IaF0 JaS0 KaX1 LOo0 MbA0 Nbp1 ObF2 Pbf5 QbV2 Rbr2 SbY1 TbS6 UaO0 VP71 WN60 Xb81 YbR5 ZdY0 *Or.inr1 +cR0 -Bz.list_0 /b90 :b30 ;Bz.isinstance_0 ?a80 [dR5 ].ty1 ^bT1 ~acY1 ~bBz.all_0 ~cgy0 ~deI0 ~efq0 ~fdX5 ~gKo0 ~hKq0 ~icQ1 ~jic0 ~kcX1 ~lcW5 ~mgw0 ~nOu0 ~oOv0 ~pbg0 ~qBz.range_0 ~rje1 ~seX2 ~ti63 ~uKw0 ~vlV5 ~wKp0 ~xeh1 ~yKs0 ~zPf0 ~APg0 ~BiZ1 ~Cka3 ~DgP0 ~EKz0 ~FKy0 ~Gkb= ~HKt0 ~IKP0 ~JBz.tuple_0 ~Kmq0 ~LKu0 ~MKG0 ~NvA2 ~OKD0 ~PfC4 ~QlT0 ~RKK0 ~SKJ0 ~TeH0 ~Ugx3 ~VrE2 ~Wo40 ~XKA0 ~YKv0 ~ZrG0 ~*%list0 ~+jf0 ~-Bz.sorted_0 ~/kP0 ~:KC0 ~;KY0 ~?Kx0 ~[qi0 ~]KI0 ~^K70 'aKM0 'bKF0 'cwg3 'dBz.int_0 'eAz0 'fcJ0 'gxK3 'hBz.enumerate_0 'iKN0 'jAl1 'kAi2 'lxE1 'mKQ0 'nKU0 'ooE6 'p%tuple0 'qKR0 'rnt1 'sBz.sum_0 'tvS0 'uAx0 'vrO1 'wBz.any_0 'xAy0 'yKW0 'zgN0 'ADK2 'BLN0 'CLb0 'DwK2 'EKH0 'FLQ0 'G%int0 'HEp1 'I%bool0 'JBz.bool_0 'KxI0 'LgO0 'MAr5 'NRh0 'OQA0 'PQB0 'QvR0 'RyD3 'Sur0 'TK90 'ULg0 'VLv0 'WQU0 'XQV0 'YvL0 'ZK30 '*yO6 '+Bz.set_0 '-Ak3 '/Lh0 ':KO0 ';K10 '?Ml0 '[La0 ']LY0 '^LJ0 {aLZ0 {bK20 {cKL0 {dK80 {eHx0 {fJd1 {gDt0 {hJc3 {iBz.zip_0 {jrK0 {kz84 {lCO0 {mPySem.F.slot_list_pop0 {nPySem.F.type_list_pop0 {oE60 {pJq0 {qM70 {rJp4 {sLi0 {tMf0 {uMg0 {vMh0 {wMi0 {xK40 {yJe0 {zG02 {AEt0 {BMD0 {CMO0 {DK_Sum0 {EMN0 {FM90 {GMY0 {HMM0 {IMt0 {JM80 {KME0 {LMF0 {MMu0 {NLj0 {OMP0 {PL30 {QMG0 {RMj0 {SHK3 {TLw0 {UL40 {VMv0 {WLx0 {XMZ0 {YLy0 {ZLl0 {*LA0 {+Lz0 {-Ld0 {/KZ0 {:MQ0 {;LR0 {?LD0 {[L70 {]L50 {^LS0 }aL60 }bMR0 }c%str0 }dBz.str_0 }eEM0 }fRi0 }gPySem.F.slot_str_split0 }hPySem.F.type_str_split0 }iEQ0 }jLV0 }kMm0 }lMH0 }mMw0 }nNa0 }oLe0 }pLf0 }qLm0 }rLE0 }sMp0 }tMq0 }uLo0 }vLW0 }wLF0 }xLq0 }yL90 }zLp0 }AMa0 }BLc0 }CLG0 }DK50 }EK60 }FLH0 }GMI0 }HLI0 }IMx0 }JHj0 }Knp0 }LLL0 }MLr0 }NLX0 }ONb0 }PMc0 }QMb0 }RCT1 }SCq0 }TIq3 }UBz.reversed_0".splitOn " "
def run(s:String)(ts:Array Term):MacroM Term:=do
 let l:=s.toList
 let r:=l.head?==some ':'
 unless (r||(l.head?==some ';')) do Macro.throwUnsupported
 let (t,_)<-(dec (if r then `tVar else `pv) ts (if r then tbR else tbF) 500).run l.tail
 let h:=mkIdent `hr;let u:=mkIdent `hu;let n:=mkIdent `nd;if r then `(by exact $t) else `(fun $h $u $n=>by exact $t)
end O9
local macro_rules|`(tactic|ac_nf)=>`(tactic|dsimp only[$(Lean.mkIdent `L2.start):ident,List.map,List.length_cons,List.length_nil,Nat.reduceAdd,Nat.reduceSub,List.replicate_succ,List.replicate_zero,List.cons_append,List.nil_append])
local macro_rules|`(↑$x)=>`(some (.ref $x))
local macro_rules|`(⇑$x)=>`(some (.int $x))
local macro_rules|`(↥$x)=>`(some (.lst $x))
local macro_rules|`(∅)=>`(List Int)
local macro_rules|`(#[$ts,*])=>let a:=ts.getElems;match a[0]? with|none=>Lean.Macro.throwUnsupported|some e=>match e.raw.isStrLit? with|some s=>O9.run s (a.extract 1 a.size)|none=>match e.raw.isNatLit? with|some 0=>`(by omega)|some 4=>`(by lia)|some 1=>`(by decide)|some 3=>let i:=Lean.mkIdent;`(fun $(i `vs) $(i `H) $(i `Q) _=>$(a[1]!))|_=>Lean.Macro.throwUnsupported
local macro_rules|`(tactic|exists $t)=>if t.raw.isIdent then `(tactic|(ac_nf;unfold $(⟨t.raw⟩):ident;symm)) else `(tactic|(symm;refine $t))
local macro_rules|`(tactic|lia)=>`(tactic|first|lia-verbose|omega)
local macro_rules|`(s!$x)=>do
 let some s:=x.raw[0].isInterpolatedStrLit?|Lean.Macro.throwUnsupported
 `([$((s.toList.map fun c=>Lean.Syntax.mkNumLit (toString c.toNat)).toArray),*])
open List renaming length_map→NM,getElem?_eq_getElem→NN,getElem?_eq_some_iff→NO,getElem?_map→NR,mem_of_getElem?→NS,mem_singleton→NX,length_filter_le→N1,mem_cons→N4,mem_cons_of_mem→N5,size_toArray→N8,mem_map→N9,mem_cons_self→Oa,all_eq_true→Od,mem_range→Oe,mem_append→Of,getElem?_eq_none→Oi,mem_filter→Ol,getElem_mem→On,map_map→Op,getElem?_append_right→Ot,getElem?_append_left→Ow,length_append→Oy,filter_append→Oz,length_cons→OA,map_cons→OD,not_mem_nil→OE,mem_append_right→OG,filter_cons→OI,take_of_length_le→OK,length_take→OL,lookup_cons→OM,take_length→ON,getElem?_range→OQ,nodup_cons→OR,range_succ→OS,length_range→OU,eq_nil_of_length_eq_zero→OV,replicate_succ→O4,append_assoc→O5,ext_getElem?→O6,take_add_one→O7,foldl_cons→O9,map_id'→Pa,map_append→Pb,mem_iff_getElem→Pe,drop_eq_getElem_cons→Pj,set_set→Pk,all_map→Pl,take_succ→Pn,foldl_append→Pp,find?_cons→Pw,mem_append_left→Py,flatten_cons→PB,nodup_append→PC,map_take→PH,map_congr_left→PJ,map_reverse→PL,filter_map→PN,mem_of_mem_take→PR,nodup_nil→PU,any_eq_true→PY,filter_eq_self→P4,all_cons→P6,mem_filterMap→P8,pairwise_cons→P9,findIdx_lt_length_of_exists→Qe,find?_eq_some_iff_getElem→Qj,drop_length→Qk,filterMap_cons→Qr,flatMap_append→Qv,mergeSort_perm→Qw,length_pos_iff→Qx,map_replicate→QH,mem_replicate→QI,any_cons→QQ,sum_cons→QS,set_comm→QT,length_eq_zero_iff→QX,ext_getElem→QY,getElem?_set_self→Q8,length_pos_of_mem→Rf,drop_eq_nil_of_le→Rg,append_nil→Rl,of_mem_zip→Rm,length_replicate→Rr,length_singleton→Rs,take_append_drop→Rv,map_id→Rz,any_map→RN
open Bool renaming false_ne_true→NV,true_and→Ob,false_and→Oc,eq_iff_iff→Om,and_eq_true→OB,false_or→O3,not_true→PF,not_false→PV,true_or→P1,or_eq_true→Rn,and_self→RE
open Nat renaming le_trans→NY,le_refl→NZ,lt_of_lt_of_le→Ox,ne_of_lt→OF,le_of_lt→OH,le_of_ble_eq_true→OO,zero_le→OP,lt_irrefl→O0,lt_of_le_of_lt→Pd,lt_succ_of_lt→Ph,lt_succ_self→PX,min_eq_right→PZ,le_add_right→Qi,le_succ→Ql,mul_le_mul_right→Qm,min_eq_left→Qq,add_le_add_left→Qt,ne_of_gt→Qy,sub_self→Qz,mul_le_mul→RA,succ_mul→RM
open Option renaming map_eq_some_iff→OT,map_some→Rj
open Int renaming emod_lt_of_pos→OX,emod_nonneg→Pc,mul_nonneg→Pm,toNat_natCast→Pq,eq_ofNat_of_zero_le→Qc,zero_add→Qd,fdiv_eq_ediv_of_nonneg→QD
open Array renaming length_toList→P3,getElem?_toList→Rt
namespace L2
open PySem PySem.Spec PyProof.Rows
abbrev NQ:=@decide_eq_false
abbrev NT:=@decide_eq_true
abbrev NU:=@decide_eq_true_eq
abbrev N0:=@Heap.get?_push_of_some
abbrev N6:=@PySem.F.plainAttrs_list
abbrev N7:=@wpAny_bind
abbrev Og:=@if_neg
abbrev Oh:=@Heap.lt_size
abbrev Oj:=@of_decide_eq_true
abbrev Oo:=@PassesOwn.never
abbrev Oq:=@Heap.get?_push_size
abbrev Os:=@if_pos
abbrev Ou:=@PySem.F.slot_list_append
abbrev Ov:=@PySem.F.type_list_append
abbrev OC:=@wpAny_pure
abbrev OJ:=@PyProof.Rows.callWith_type1
abbrev OW:=@wpAny_Call_Name_kw
abbrev OY:=@PySem.mem_of_lookup
abbrev OZ:=@wpAny_mono
abbrev O1:=@PySem.W.kia_one
abbrev O8:=@builtinLookup_eq_fast
abbrev Pf:=@PySem.F.slot_list_index
abbrev Pg:=@PySem.F.type_list_index
abbrev Pi:=@Option.some.inj
abbrev Po:=@wpAny_truthy_bool
abbrev Pr:=@or_false
abbrev Ps:=@Heap.size_push
abbrev Pt:=@Calls.spliced_cons
abbrev Pu:=@wpAny_passesOwn
abbrev Px:=@typeLookup_type
abbrev Pz:=@Calls.spliced_nil
abbrev PD:=@call_meets
abbrev PK:=@wpAny_getItem_str_slice
abbrev PM:=@wpAny_of_eq
abbrev PP:=@wpAny_pyIter_list
abbrev PQ:=@beq_iff_eq
abbrev P2:=@beq_eq_false_iff_ne
abbrev P5:=@Heap.SameBut.update
abbrev Qa:=@decide_eq_true_iff
abbrev Qb:=@Obj.data_mapFields
abbrev Qf:=@PyProof.Rows.slot_tuple_getitem
abbrev Qg:=@PyProof.Rows.callWith_builtin1
abbrev Qh:=@typeIs_str
abbrev Qn:=@wpAny_execs_nil
abbrev Qo:=@pushCells_keeps
abbrev Qp:=@post_val_or_str
abbrev Qs:=@PySem.W.plainGet_of
abbrev Qu:=@ne_true_of_eq_false
abbrev QA:=@PySem.F.slot_int_bit_length
abbrev QB:=@PySem.F.type_int_bit_length
abbrev QC:=@Calls.Name_function_global
abbrev QE:=@PySem.W.callWith_K
abbrev QF:=@tupleKind_room_in1
abbrev QG:=@F.args_str_split_2
abbrev QJ:=@isSubtype_type
abbrev QK:=@PySem.F.slot_dict_getitem
abbrev QL:=@Option.some.injEq
abbrev QM:=@F.entry_str_split
abbrev QN:=@wpAny_newObj_type
abbrev QO:=@wpAny_field
abbrev QP:=@wpAny_getItem_list_slice
abbrev QR:=@wpAny_comprehension_free
abbrev QU:=@PySem.F.slot_list_extend
abbrev QV:=@PySem.F.type_list_extend
abbrev QW:=@F.slot_str_split
abbrev Q0:=@wpAny_callSpecial?_slot
abbrev Q6:=@wpAny_call_entry
abbrev Q7:=@Ne.symm
abbrev Q9:=@wpAny_Name
abbrev Ra:=@PySem.W.cellsFrom_some
abbrev Rb:=@subscriptTail_builtinR
abbrev Rc:=@Calls.callWith_builtin
abbrev Re:=@Txt.slice_le
abbrev Rh:=@PySem.F.plainAttrs_int
abbrev Ri:=@PySem.F.plainAttrs_str
abbrev Rp:=@wpAny_specialOf
abbrev Rq:=@wpAny_storeName_local
abbrev Ru:=@PySem.W.methodCall_KW
abbrev Rw:=@Heap.get?_update_self
abbrev Rx:=@Obj.isFreed_of_fields
abbrev RB:=@wpAny_setField
abbrev RD:=@wpAny_standAt
abbrev RF:=@wpAny_attempt
abbrev RG:=@Walks.list
abbrev RI:=@codeAny_mono
abbrev RJ:=@tail_any
abbrev RL:=@if_true
abbrev Key:=Sum Int Str
def keyIs:Key->Value->Bool
 | .inl k,v=>Value.isInt k v
 | .inr x,v=>Value.isStrOf x v
def keyH(w:World):Key->Int
 | .inl k=>hashInt k
 | .inr x=>hashStr w x
theorem cU:∀{k:Key} {v:Value},keyIs k v=true->(∃ i t,k=Sum.inl i/\v=Value.int i t)\/(∃ x t,k=Sum.inr x/\v=Value.str x t)
 | .inl i,v,h=>by
  obtain⟨t,e⟩:=Value.isInt_shape (k:=i) (v:=v) h;exact .inl ⟨i,t,rfl,e⟩
 | .inr x,v,h=>by
  obtain⟨t,e⟩:=Value.isStrOf_shape (x:=x) (v:=v) h;exact .inr ⟨x,t,rfl,e⟩
theorem Em(i:Int)(t:Tok):keyIs (.inl i) (.int i t)=true:=by simp[keyIs,Value.isInt]
theorem En(x:Str)(t:Tok):keyIs (.inr x) (.str x t)=true:=by simp[keyIs,Value.isStrOf]
theorem IB(a b:Int):decide ((Sum.inl a:Key)=Sum.inl b)=(a==b):=by
 by_cases e:a=b
 . subst e;simp
 . have h:¬ (Sum.inl a:Key)=Sum.inl b:=λq=>e (Sum.inl.inj q);rw[NQ h];exact(P2.mpr e).symm
theorem IC(a b:Str):decide ((Sum.inr a:Key)=Sum.inr b)=decide (a=b):=by
 by_cases e:a=b
 . subst e;simp
 . have h:¬ (Sum.inr a:Key)=Sum.inr b:=λq=>e (Sum.inr.inj q);rw[NQ h,NQ e]
def ID(a:Int)(b:Str):decide ((Sum.inl a:Key)=Sum.inr b)=false:=NQ (λq=>nomatch q)
def IE(a:Str)(b:Int):decide ((Sum.inr a:Key)=Sum.inl b)=false:=NQ (λq=>nomatch q)
def ga(prog:Program)(w:World):PySem.KeyKind prog w Key where
 is:=keyIs
 hash:=keyH w
 inj:=λv a b g d=>by
  rcases cU g with ⟨i,t,rfl,rfl⟩ | ⟨x,t,rfl,rfl⟩
  . rcases cU d with ⟨j,u,rfl,e⟩ | ⟨y,u,rfl,e⟩
    . injection e with e1 _;rw[e1]
    . exact nomatch e
  . rcases cU d with ⟨j,u,rfl,e⟩ | ⟨y,u,rfl,e⟩
    . exact nomatch e
    . injection e with e1 _;rw[e1]
 byValue:=λk v h=>by
  rcases cU h with ⟨i,t,rfl,rfl⟩ | ⟨x,t,rfl,rfl⟩ <;> rfl
 pyHash:=λc h=>by
  rcases cU c with ⟨i,t,rfl,rfl⟩ | ⟨x,t,rfl,rfl⟩
  . exact wpAny_pyHash_int h
  . exact wpAny_pyHash_str h
 eqBool:=λf c h=>by
  rcases cU f with ⟨i,t,rfl,rfl⟩ | ⟨x,t,rfl,rfl⟩
  . rcases cU c with ⟨j,u,rfl,rfl⟩ | ⟨y,u,rfl,rfl⟩
    . rw[IB]at h;exact wpAny_eqBool_int h
    . rw[ID]at h;exact SeqAt.EqAt.int_str i t y u _ _ _ _ h
  . rcases cU c with ⟨j,u,rfl,rfl⟩ | ⟨y,u,rfl,rfl⟩
    . rw[IE]at h;exact SeqAt.EqAt.str_int x t j u _ _ _ _ h
    . rw[IC]at h;exact wpAny_eqBool_str h
 «strs»:=λk x t v h=>by
  rcases cU h with ⟨i,u,rfl,e⟩ | ⟨y,u,rfl,e⟩
  . exact nomatch e
  . injection e with e1 _;subst e1;cases v <;> rfl
def B6(prog:Program)(w:World)(i:Int)(t:Tok):(ga prog w).is (.inl i) (.int i t)=true:=Em i t
def B7(prog:Program)(w:World)(x:Str)(t:Tok):(ga prog w).is (.inr x) (.str x t)=true:=En x t
inductive V where
 | non | bl (b:Bool) | int (i:Int) | str (x:Str) | byt (b:Array UInt8) | flt (b:UInt64) | ref (a:Addr) | ty (n:String)
 deriving DecidableEq
def RelV:V->Value->Prop
 | .non,u=>u=Value.none
 | .bl b,u=>u=Value.bool b
 | .int i,u=>∃ t,u=Value.int i t
 | .str x,u=>∃ t,u=Value.str x t
 | .byt b,u=>∃ t,u=Value.bytes b t
 | .flt b,u=>∃ t,u=Value.float b t
 | .ref a,u=>u=Value.ref a
 | .ty n,u=>u=Value.type n
abbrev Vals:List V->List Value->Prop:=Paired RelV
def Vals.length{xs:List V}{us:List Value}(r:Vals xs us):xs.length=us.length:=Paired.length r
theorem Vals.get:∀{xs:List V} {us:List Value} {i:Nat} {x:V},Vals xs us->xs[i]? =some x->∃ u,us[i]? =some u/\RelV x u
 | _,_,_,_,.nil,e=>by simp at e
 | _,_,0,_,.cons r _,e=>by simp at e;subst e;exact⟨_,rfl,r⟩
 | _,_,i+1,x,.cons _ t,e=>by
  obtain⟨u,h1,h2⟩:=Vals.get (i:=i) (x:=x) t (by simpa using e);exact⟨u,by simpa using h1,h2⟩
theorem Vals.append:∀{xs ys:List V} {us a:List Value},Vals xs us->Vals ys a->Vals (xs++ys) (us++a)
 | _,_,_,_,.nil,s=>s
 | _,_,_,_,.cons r t,s=>.cons r (Vals.append t s)
theorem Vals.take:∀{xs:List V} {us:List Value} (n:Nat),Vals xs us->Vals (xs.take n) (us.take n)
 | _,_,0,_=>.nil
 | _,_,_+1,.nil=>.nil
 | _,_,n+1,.cons r t=>.cons r (Vals.take n t)
theorem Vals.drop:∀{xs:List V} {us:List Value} (n:Nat),Vals xs us->Vals (xs.drop n) (us.drop n)
 | _,_,0,r=>r
 | _,_,_+1,.nil=>.nil
 | _,_,n+1,.cons _ t=>Vals.drop n t
def RelO:Option V->Option Value->Prop
 | some v,some u=>RelV v u
 | none,none=>True
 | _,_=>False
def KV{κ:Type}:List (κ × V)->List (κ × Value)->Prop:=Paired λ(p:κ × V) (q:κ × Value)=>p.1=q.1/\RelV p.2 q.2
def kV:Key->V
 | .inl i=>.int i
 | .inr x=>.str x
inductive HO where
  | lst (xs:List V)
  | tup (xs:List V)
  | dK (NE:List (Key × V)) | dT (NE:List (List Key × V))
  | set (S:Int->Bool) (n:Nat)
  | ins (C dx:Addr) (fs:List (Str × V))
  | own (x:Addr)
  | xd (fs:List (Str × V))
  | met (f x:Addr)
  | rng (lo hi:Int)
  | frz (o:Obj) (u:HO)
  | tbl (ps:Array Value)
  | ext (φ:Heap->Prop)
abbrev Hp:=Addr->Option HO
def upd(H:Hp)(a:Addr)(o:HO):Hp:=λb=>if b=a then some o else H b
variable{H:Hp}{a:Addr}
theorem ag{o:HO}:upd H a o a=some o:=by unfold upd;rw[Os rfl]
variable{b:Addr}
theorem ah{o:HO}(h:b≠a):upd H a o b=H b:=by unfold upd;rw[Og h]
theorem av{o:HO}(h:H a=some o)(h':H b=none):a≠b:=by
 intro e;subst e;rw[h]at h';cases h'
section
variable(P:Program)(w:World)
def ObjOk(H:Hp)(h:Heap)(a:Addr):HO->Prop
 | .lst xs=>xs.length<=sizeLine/\∃(NF:List Value) (n:Nat),Vals xs NF/\h.get? a=some {cls:=.type "list",data:=.seq NF.toArray n}
 | .tup xs=>xs.length<=sizeLine/\∃ NF:List Value,Vals xs NF/\IsTup h a NF.toArray
 | .dK d=>d.length<=sizeLine/\(a==sysModules)=false/\∃ vs,KV d vs/\h.DictOf (ga P w) a vs
 | .dT d=>d.length<=sizeLine/\(a==sysModules)=false/\∃ xs:List (List Key × Addr × Value),
   Paired (λ(p:List Key × V) (q:List Key × Addr × Value)=>p.1=q.1/\H q.2.1=some (.tup (p.1.map kV))/\RelV p.2 q.2.2) d xs/\
   ∃ o g i,h.get? a=some o/\o.ExactDict/\o.data=.dict g i/\g.toList=xs.map (entryOfKey (tupleKind (ga P w)))/\(xs.map (·.1)).Nodup
 | .set S n=>h.SetOf (intKind P w) a S n
 | .ins C e c=>H e=some (.own a)/\c.length<=1000/\e≠a/\h.get? a=some (PySem.W.instObj C e)/\
   ∃ b,h.Ns1 e b/\(∀ f,RelO (c.lookup f) (b f))/\PySem.Within b (c.map (·.1))
 | .own _=>∃ o,h.get? a=some o
 | .xd c=>∃ b,h.Ns1 a b/\∀ f,RelO (c.lookup f) (b f)
 | .rng j k=>∃ t u v,h.get? a=some {cls:=.type "range",data:=.fields #[.int j t,.int k u,.int 1 v]}
 | .frz o u=>h.get? a=some o/\ObjOk H h a u
 | .tbl l=>h.get? a=some {cls:=.none,data:=.fields l}
 | .met f x=>h.get? a=some (PySem.W.methodObj (.ref f) (.ref x))
 | .ext φ=>φ h/\(∃ o,h.get? a=some o)/\∀ h1 h2:Heap,φ h1->(∀ o,h1.get? a=some o->h2.get? a=some o)->φ h2
def HOk(H:Hp)(h:Heap):Prop:=∀ a o,H a=some o->ObjOk P w H h a o
end
section
variable{P:Program}{w:World}{H H':Hp}{h h':Heap}{a:Addr}{o:HO}
theorem ObjOk.lt(x:ObjOk P w H h a o):a<h.objs.size:=by
 cases o with
 | lst b=>obtain⟨_,_,_,_,e⟩:=x;exact Oh e
 | tup b=>obtain⟨_,_,_,p⟩:=x;exact p.lt
 | dK d=>obtain⟨_,_,_,_,o,_,_,e,_⟩:=x;exact Oh e
 | dT d=>obtain⟨_,_,_,_,o,_,_,e,_⟩:=x;exact Oh e
 | set S n=>obtain⟨o,_,_,_,e,_⟩:=x;exact Oh e
 | ins C k c=>obtain⟨_,_,_,e,_⟩:=x;exact Oh e
 | own y=>obtain⟨_,e⟩:=x;exact Oh e
 | xd c=>obtain⟨_,⟨_,_,_,e,_⟩,_⟩:=x;exact Oh e
 | rng g i=>obtain⟨_,_,_,e⟩:=x;exact Oh e
 | frz l u=>obtain⟨e,_⟩:=x;exact Oh e
 | tbl j=>exact Oh (show h.get? a=some _ from x)
 | met f y=>exact Oh (show h.get? a=some _ from x)
 | ext φ=>obtain⟨_,⟨_,e⟩,_⟩:=x;exact Oh e
theorem Paired.mapP{α β:Type}{F G:α->β->Prop}:∀{d:List α} {c:List β},Paired F d c->(∀ a b,F a b->G a b)->Paired G d c
 | _,_,.nil,_=>.nil
 | _,_,.cons r t,f=>.cons (f _ _ r) (Paired.mapP t f)
theorem ObjOk.stay (x:ObjOk P w H h a o) (k:∀ b u,(b=a\/H b=some (.own a))->h.get? b=some u->h'.get? b=some u)
  (G:∀ b,H b=some (.own a)->H' b=some (.own a)) (J:∀ b xs,H b=some (.tup xs)->H' b=some (.tup xs)):ObjOk P w H' h' a o:=by
 induction o with
 | lst xs=>obtain⟨z,l,n,r,e⟩:=x;exact⟨z,l,n,r,k _ _ (.inl rfl) e⟩
 | tup xs=>obtain⟨z,l,r,g,e,c⟩:=x;exact⟨z,l,r,g,k _ _ (.inl rfl) e,c⟩
 | dK I=>obtain⟨z,y,vs,r,g,j,i,e,c⟩:=x;exact⟨z,y,vs,r,g,j,i,k _ _ (.inl rfl) e,c⟩
 | dT I=>
  obtain⟨z,y,xs,r,g,j,i,e,c⟩:=x;exact⟨z,y,xs,Paired.mapP r λp q z=>⟨z.1,J _ _ z.2.1,z.2.2⟩,g,j,i,k _ _ (.inl rfl) e,c⟩
 | set S n=>obtain⟨g,j,i,t,e,c⟩:=x;exact⟨g,j,i,t,k _ _ (.inl rfl) e,c⟩
 | ins C M E=>
  obtain⟨d,z,D,e,m,⟨s,j,i,e2,c⟩,r⟩:=x;exact⟨G _ d,z,D,k _ _ (.inl rfl) e,m,⟨s,j,i,k _ _ (.inr d) e2,c⟩,r⟩
 | own y=>obtain⟨g,e⟩:=x;exact⟨g,k _ _ (.inl rfl) e⟩
 | xd E=>obtain⟨m,⟨s,j,i,e,c⟩,r⟩:=x;exact⟨m,⟨s,j,i,k _ _ (.inl rfl) e,c⟩,r⟩
 | rng K L=>obtain⟨t,u,v,e⟩:=x;exact⟨t,u,v,k _ _ (.inl rfl) e⟩
 | frz g u F=>obtain⟨e,q⟩:=x;exact⟨k _ _ (.inl rfl) e,F q⟩
 | tbl A=>
  have e:h.get? a=some {cls:=.none,data:=.fields A}:=x;show h'.get? a=some {cls:=.none,data:=.fields A};exact k a _ (.inl rfl) e
 | met f y=>
  have e:h.get? a=some (PySem.W.methodObj (.ref f) (.ref y)):=x;show h'.get? a=some (PySem.W.methodObj (.ref f) (.ref y));exact k a _ (.inl rfl) e
 | ext φ=>obtain⟨p,⟨o,e⟩,B⟩:=x;exact⟨B _ _ p λo q=>k _ _ (.inl rfl) q,⟨o,k _ _ (.inl rfl) e⟩,B⟩
def HOk.lt(x:HOk P w H h)(e:H a=some o):a<h.objs.size:=(x a o e).lt
theorem HOk.fresh(x:HOk P w H h)(e:h.objs.size<=a):H a=none:=by
 cases q:H a with
 | none=>rfl
 | some u=>exact absurd (Ox (x.lt q) e) (O0 _)
def HOk.kept(x:HOk P w H h)(k:∀ b u,h.get? b=some u->h'.get? b=some u):HOk P w H h':=λa o e=>
 (x a o e).stay (λb u _ q=>k b u q) (λ_ q=>q) λ_ _ q=>q
def HOk.laid(x:HOk P w H h)(k:∀ b u,h.get? b=some u->h'.get? b=some u)(i:h.objs.size<=a)(d:ObjOk P w (upd H a o) h' a o):HOk P w (upd H a o) h':=λb u e=>by
 have f:=x.fresh i;by_cases g:b=a
 . subst g;rw[ag]at e;cases e;exact d
 . rw[ah g]at e;exact(x b u e).stay (λc v _ q=>k c v q) (λc q=>by rw[ah (av q f)];exact q) λc j q=>by rw[ah (av q f)];exact q
end
def Rd(H:Hp)(a:Addr)(u:HO):Prop:=H a=some u\/∃ o,H a=some (.frz o u)
variable{h:Heap}
theorem Rd.ok{P:Program}{w:World}{u:HO}(r:Rd H a u)(x:HOk P w H h):ObjOk P w H h a u:=by
 rcases r with r | ⟨o,r⟩
 . exact x a u r
 . obtain⟨_,q⟩:=x a _ r;exact q
def Mut:Option HO->Prop
 | ↥_=>True
 | some (.dK _)=>True
 | some (.dT _)=>True
 | some (.set _ _)=>True
 | some (.ins _ _ _)=>True
 | some (.ext _)=>True
 | _=>False
section
variable{P:Program}{w:World}{H:Hp}{h h':Heap}{x e:Addr}{o':HO}
def HOk.write (p:HOk P w H h) (i:Mut (H x)) (he:e=x\/H e=some (.own x)) (k:∀ b u,b≠e->h.get? b=some u->h'.get? b=some u) (m:∃ u,h'.get? e=some u)
  (n:ObjOk P w (upd H x o') h' x o'):HOk P w (upd H x o') h':=λb u q=>by
 have d:∀ c y,H c=some (.own y)->c≠x:=λc y r z=>by subst z;rw[r]at i;exact i
 have f:∀ c g,H c=some (.tup g)->c≠x:=λc g r z=>by subst z;rw[r]at i;exact i
 by_cases j:b=x
 . subst j;rw[ag]at q;cases q;exact n
 . rw[ah j]at q;by_cases a:b=e
   . have o:H b=some (.own x):=by
      rcases he with z | z
      . exact absurd (a.trans z) j
      . rw[a];exact z
     rw[q]at o;cases o;obtain⟨v,s⟩:=m;exact⟨v,by rw[a];exact s⟩
   . refine(p b u q).stay (λc v l r=>k c v ?_ r) (λc r=>by rw[ah (d c b r)];exact r) λc g r=>by rw[ah (f c g r)];exact r
     rcases l with rfl | l
     . exact a
     . rintro rfl;rcases he with z | z
       . exact d c b l z
       . rw[l]at z;cases z;exact j rfl
end
structure Un(fs ex:List Addr)(H H':Hp)(h h':Heap):Prop where
 keep:∀ b o,h.get? b=some o->H b=none->b∉fs->b∉ex->h'.get? b=some o
 slot:∀ b o,h.get? b=some o->H b=none->b∈fs->b∉ex->∃ sl,h'.get? b=some {o with slots:=sl}
 free:∀ b o,h.get? b=some o->H b=none->b∉ex->H' b=none
 there:∀ b o,h.get? b=some o->b∉ex->∃ o',h'.get? b=some o'
 tups:∀ b xs,H b=some (.tup xs)->H' b=some (.tup xs)
 frzs:∀ b o u,H b=some (.frz o u)->H' b=some (.frz o u)
 tbls:∀ b ps,H b=some (.tbl ps)->∃ more,H' b=some (.tbl (ps++more))
section
variable{fs fs' ex ex':List Addr}{H H1 H2:Hp}{h h1 h2 h':Heap}{a x e:Addr}{o:HO}
theorem Un.any(u:Un fs ex H H1 h h1){b:Addr}{a:Obj}(q:h.get? b=some a)(n:H b=none)(c:b∉ex):∃ e,h1.get? b=some {a with slots:=e}:=by
 by_cases d:b∈fs
 . exact u.slot b a q n d c
 . exact⟨a.slots,u.keep b a q n d c⟩
def Un.kept(k:∀ b u,h.get? b=some u->h'.get? b=some u):Un fs ex H H h h':=
 ⟨λb a q _ _ _=>k b a q,λb a q _ _ _=>⟨a.slots,k b a q⟩,λ_ _ _ n _=>n,λb a q _=>⟨a,k b a q⟩,λ_ _ q=>q,λ_ _ _ q=>q,λ_ c q=>⟨#[],by rw[q];simp⟩⟩
def Un.refl:Un fs ex H H h h:=Un.kept λ_ _ q=>q
def Un.laid(k:∀ b u,h.get? b=some u->h'.get? b=some u)(e:h.objs.size<=a)(c:H a=none):Un fs ex H (upd H a o) h h' where
 keep:=λb u q _ _ _=>k b u q
 slot:=λb u q _ _ _=>⟨u.slots,k b u q⟩
 free:=λb u q n _=>by rw[ah (OF (Ox (Oh q) e))];exact n
 there:=λb u q _=>⟨u,k b u q⟩
 tups:=λb d q=>by rw[ah (av q c)];exact q
 frzs:=λb u d q=>by rw[ah (av q c)];exact q
 tbls:=λb f q=>⟨#[],by rw[ah (av q c),q];simp⟩
theorem Un.write(c:Mut (H x))(he:e=x\/H e=some (.own x))(k:∀ b u,b≠e->h.get? b=some u->h'.get? b=some u)(d:∃ u,h'.get? e=some u):Un fs ex H (upd H x o) h h':=by
 have g:∀ b,H b=none->b≠x:=λb n z=>by subst z;rw[n]at c;exact c
 have i:∀ b,H b=none->b≠e:=λb n z=>by
  subst z;rcases he with r | r
  . exact g b n r
  . rw[n]at r;cases r
 have f:∀ b u,H b=some u->¬ Mut (some u)->b≠x:=λb u q l z=>by subst z;rw[q]at c;exact l c
 refine⟨λb u q n _ _=>k b u (i b n) q,λb u q n _ _=>⟨u.slots,k b u (i b n) q⟩,λb u q n _=>by rw[ah (g b n)];exact n,λb u q _=>?_,
  λb j q=>by rw[ah (f b _ q λz=>z)];exact q,λb u j q=>by rw[ah (f b _ q λz=>z)];exact q,λb m q=>⟨#[],by rw[ah (f b _ q λz=>z),q];simp⟩⟩
 by_cases a:b=e
 . subst a;exact d
 . exact⟨u,k b u a q⟩
end
def trk(h:Heap)(H:Hp):List Addr:=(List.range h.objs.size).filter λa=>(H a).isSome
def hidT(h:Heap)(H:Hp):Heap:=PySem.W.hideAll h (trk h H)
def Eo(h:Heap)(H:Hp):(hidT h H).objs.size=h.objs.size:=PySem.W.hideAll_size _ _
variable{o:Obj}
def F9(e:h.get? b=some o)(n:H b=none):(hidT h H).get? b=some o:=
 PySem.W.hideAll_get _ e λa=>by
  have q:(H b).isSome=true:=(Ol.mp a).2;rw[n]at q;simp at q
theorem Hh(e:(hidT h H).get? b=some o):h.get? b=some o/\H b=none:=by
 have a:h.get? b=some o:=PySem.W.of_hideAll (trk h H) e;refine⟨a,?_⟩
 cases q:H b with
 | none=>rfl
 | some x=>
  have c:b∈trk h H:=Ol.mpr ⟨Oe.mpr (Oh a),by simp[q]⟩;have z:(hidT h H).get? b=none:=PySem.W.hideAll_none (trk h H) c;rw[z]at e;cases e
def o0(g h:Heap)(L:Addr):List (Addr × Obj):=(List.range h.objs.size).filterMap λa=>if a=L\/(g.get? a).isSome=true then none else(h.get? a).map λo=>(a,o)
variable{L:Addr}
def uh{g:Heap}(h1:a≠L)(h2:g.get? a=none)(h3:h.get? a=some o):(a,o)∈o0 g h L:=
 P8.mpr ⟨a,Oe.mpr (Oh h3),by simp[h1,h2,h3]⟩
theorem xD{g:Heap}{p:Addr × Obj}(c:p∈o0 g h L):p.1≠L/\g.get? p.1=none/\h.get? p.1=some p.2:=by
 obtain⟨b,_,e⟩:=P8.mp c
 split at e
 . cases e
 . rename_i a
   cases q:h.get? b with
   | none=>rw[q]at e;simp at e
   | some u=>
    rw[q]at e;simp only[Rj,QL]at e;subst e;refine⟨λz=>a (.inl z),?_,q⟩;show g.get? b=none
    cases r:g.get? b with
    | none=>rfl
    | some v=>exact(a (.inr (by simp[r]))).elim
def Ga{g:Heap}:News g L h (o0 g h L):=λp d=>let ⟨a,b,c⟩:=xD d;⟨c,a,b⟩
structure Mod(K:Frag)(mg:Str->Option Value)(base:Heap):Prop where
 kin:K.In base
 glob:base.Ns mainGlobals mg
 blt:∃ mb,base.Ns builtinsNs mb/\∀ x:Str,x≠"__name__"->mb x=bootBuiltins x
 nolimit:base.NoLimit
structure Cx where
 prog:Program
 w:World
 K:Frag
 mg:Str->Option Value
 base:Heap
 A:Around
 N:List Str
 s₀:Shared
 H₀:Hp
 env:Env
 outer:List Env
 stack:List Env
 ex:List Addr
 fn:Str->Bool
 calm:Bool
 pn:List (Addr × Obj)
 xe:Value->Shared->Prop
def frs(l:List Env):List Addr:=l.filterMap (·.frame)
abbrev Cx.fs(X:Cx):List Addr:=frs X.outer
def Vis(a:Scope)(x:Str):Prop:=a.names.lookup x=some .local\/a.names.lookup x=some .cell\/a.names.lookup x=some .free
def Loc(a:Scope)(x:Str):Prop:=a.names.lookup x=some .local\/a.names.lookup x=some .cell
def Look(env:Env)(h:Heap)(m:Str->Option Value)(x:Str)(u:Value):Prop:=
 (env.kindOf x=some .local/\m x=some u)\/((env.kindOf x=some .cell\/env.kindOf x=some .free)/\∃ c,env.cells.lookup x=some c/\h.IsCell c (some u))
structure Cx.Ok(X:Cx):Prop where
 mod:Mod X.K X.mg X.base
 kind:X.env.scope.kind=.function
 glob:X.env.globals=mainGlobals
 blt:X.env.builtins=builtinsNs
 above:X.s₀.heap.objs.size<=X.env.locals
 inj:∀ x y c,X.env.cells.lookup x=some c->X.env.cells.lookup y=some c->x=y
 has:∀ x,(X.env.kindOf x=some .cell\/X.env.kindOf x=some .free)->∃ c,X.env.cells.lookup x=some c
 cab:∀ x c,X.fn x=true->X.env.cells.lookup x=some c->X.s₀.heap.objs.size<=c
 hd:X.calm=true->X.A.handled=none
 frames:X.A.frames=some X.stack
 stk:X.stack=X.outer\/(X.stack=X.env::X.outer/\X.env.frame=some X.env.locals)
 exf:∀ b∈X.ex,b≠X.env.locals/\∀ x c,X.env.cells.lookup x=some c->c≠b
 bs:∀ b o,X.base.get? b=some o->X.s₀.heap.get? b=some o/\X.H₀ b=none
 bsz:X.base.objs.size<=X.s₀.heap.objs.size
 noex:∀ b o,X.base.get? b=some o->b∉X.ex
 exfs:∀ b∈X.ex,b∉X.fs
 funs:X.s₀.heap.FunFrames X.base X.outer
 frf:∀ b∈X.fs,X.H₀ b=none
structure Inv(X:Cx)(NB:List (Addr × Obj))(σ:List (Option V))(H:Hp)(s:Shared):Prop where
 ok:X.Ok
 os:s.os=X.s₀.os
 bare:AllBare s.gens
 base:Un X.fs X.ex X.H₀ H X.s₀.heap s.heap
 loc:∃ m,s.heap.Ns X.env.locals m/\∀(i:Nat) (x:Str) (v:V),X.N[i]? =some x->σ[i]? =some (some v)->Vis X.env.scope x->∃ u,RelV v u/\Look X.env s.heap m x u
 cell:∀ x c,X.env.cells.lookup x=some c->∃ v,s.heap.IsCell c v
 free:H X.env.locals=none
 freeC:∀ x c,X.env.cells.lookup x=some c->H c=none
 pin:∀ p∈X.pn++NB,s.heap.get? p.1=some p.2/\H p.1=none/\p.1≠X.env.locals/\p.1∉X.fs/\∀ v,p.2.data≠.cell v
 hok:HOk X.prog X.w H s.heap
 len:σ.length=X.N.length
section
variable{X:Cx}{NB:List (Addr × Obj)}{σ:List (Option V)}{H H':Hp}{s:Shared}{h':Heap}
def Cx.Ok.nofr(a:X.Ok){b:Addr}{o:Obj}(e:X.base.get? b=some o):b∉X.fs:=λc=>by
 have:=(a.funs.mem c).1;rw[e]at this;cases this
def Inv.bs(I:Inv X NB σ H s):∀ b o,X.base.get? b=some o->s.heap.get? b=some o/\H b=none:=λb o e=>
 ⟨I.base.keep b o (I.ok.bs b o e).1 (I.ok.bs b o e).2 (I.ok.nofr e) (I.ok.noex b o e),I.base.free b o (I.ok.bs b o e).1 (I.ok.bs b o e).2 (I.ok.noex b o e)⟩
def Inv.bk(I:Inv X NB σ H s):∀ b o,X.base.get? b=some o->s.heap.get? b=some o:=λb o e=>(I.bs b o e).1
def Inv.mod(I:Inv X NB σ H s):Mod X.K X.mg X.base:=I.ok.mod
def Inv.kIn(I:Inv X NB σ H s):X.K.In s.heap:=I.ok.mod.kin.keeps I.bk
def Inv.fr(I:Inv X NB σ H s):∃ m,Fr X.base X.env.locals s.heap m:=
 let ⟨m,a,_⟩:=I.loc
 ⟨m,a,I.bk,NY I.ok.bsz I.ok.above⟩
def Inv.lt(I:Inv X NB σ H s):X.env.locals<s.heap.objs.size:=let ⟨_,a,_⟩:=I.loc;a.lt
def Inv.sz(I:Inv X NB σ H s):X.s₀.heap.objs.size<=s.heap.objs.size:=NY I.ok.above (OH I.lt)
def Inv.nofs(I:Inv X NB σ H s){a:Addr}(h:s.heap.objs.size<=a):a∉X.fs:=λc=>by
 obtain⟨_,o,b,_⟩:=I.ok.funs.mem c;exact absurd (Ox (Oh b) (NY I.sz h)) (O0 _)
def Inv.cne(I:Inv X NB σ H s):∀ x c,X.env.cells.lookup x=some c->c≠X.env.locals:=λx c e z=>by
 obtain⟨v,o,f,d⟩:=I.cell x c e;obtain⟨m,⟨h,i,g,b,a,_⟩,_⟩:=I.loc;rw[z,b]at f;cases f;rw[a]at d;cases d
theorem Inv.funs(I:Inv X NB σ H s):s.heap.FunFrames X.base X.outer:=by
 have a:∀(l:List Env),(∀ b∈frs l,b∈X.fs)->X.s₀.heap.FunFrames X.base l->s.heap.FunFrames X.base l:=by
  intro l
  induction l with
  | nil=>intro _ _;trivial
  | cons m r n=>
   intro g i;obtain⟨j,⟨L,o,f,h,q,k⟩,p⟩:=i;have c:L∈X.fs:=g L (by unfold frs;rw[Qr,f];exact Oa);obtain⟨t,e⟩:=I.base.slot L o q (I.ok.frf L c) c λz=>I.ok.exfs L z c;exact⟨j,⟨L,_,f,h,e,k⟩,n (λb d=>g b (by unfold frs;rw[Qr,f];exact N5 _ d)) p⟩
 exact a X.outer (λ_ d=>d) I.ok.funs
theorem Inv.stack(I:Inv X NB σ H s):s.heap.FunFrames X.base X.stack:=by
 rcases I.ok.stk with e | ⟨e,a⟩
 . rw[e];exact I.funs
 . rw[e];obtain⟨m,b,_⟩:=I.loc;refine .cons (by rw[I.ok.kind];decide) a b ?_ I.funs;exact Heap.get?_none_of_le (NY I.ok.bsz I.ok.above)
def Inv.stkSub(I:Inv X NB σ H s):∀ b∈frs X.stack,b∈X.env.locals::X.fs:=λb a=>by
 rcases I.ok.stk with e | ⟨e,c⟩
 . rw[e]at a;exact N5 _ a
 . rw[e]at a;unfold frs at a;rw[Qr,c]at a;exact a
def Inv.stkFree(I:Inv X NB σ H s):∀ b∈frs X.stack,H b=none:=λb a=>by
 rcases N4.mp (I.stkSub b a) with e | a
 . rw[e];exact I.free
 . obtain⟨_,o,c,_⟩:=I.ok.funs.mem a;exact I.base.free b o c (I.ok.frf b a) λz=>I.ok.exfs b z a
def Inv.step {g':Array GenState} {t':Nat} {d':Drawn} {ch:List Addr} (I:Inv X NB σ H s)
  (g:∀ b∈ch,(b∈X.ex\/X.s₀.heap.objs.size<=b)/\b≠X.env.locals/\(∀ x c,X.env.cells.lookup x=some c->c≠b)/\∀ p∈X.pn++NB,p.1≠b)
  (t:∀ b o,b≠X.env.locals->b∉X.fs->b∉ch->s.heap.get? b=some o->H b=none->h'.get? b=some o)
  (A:∀ b o,b≠X.env.locals->b∈X.fs->b∉ch->s.heap.get? b=some o->H b=none->∃ N,h'.get? b=some {o with slots:=N}) (f:∀ b o,b∉ch->s.heap.get? b=some o->H b=none->H' b=none)
  (B:∀ b o,b∉ch->s.heap.get? b=some o->∃ F,h'.get? b=some F)
  (K:∀ b xs,H b=some (.tup xs)->H' b=some (.tup xs)) (G:∀ b o u,H b=some (.frz o u)->H' b=some (.frz o u)) (J:∀ b L,H b=some (.tbl L)->∃ more,H' b=some (.tbl (L++more)))
  (ns:∀ m,s.heap.Ns X.env.locals m->h'.Ns X.env.locals m) (M:HOk X.prog X.w H' h') (hg:AllBare g'):
  Inv X NB σ H' {s with heap:=h',gens:=g',drawn:=d',toks:=t'}:=by
 have E:∀ b o,X.s₀.heap.get? b=some o->b≠X.env.locals:=λb o e=>OF (Ox (Oh e) I.ok.above)
 have y:∀ b o,X.s₀.heap.get? b=some o->b∉X.ex->b∉ch:=λb o e a C=>by
  rcases(g b C).1 with z | z
  . exact a z
  . exact absurd (Ox (Oh e) z) (O0 _)
 have h:∀ x c,X.env.cells.lookup x=some c->∀ v,s.heap.IsCell c v->h'.IsCell c v:=λx c e v ⟨o,D,P⟩=>by
  have j:c∉ch:=λz=>(g c z).2.2.1 x c e rfl;by_cases T:c∈X.fs
  . obtain⟨N,q⟩:=A c o (I.cne x c e) T j D (I.freeC x c e);exact⟨_,q,P⟩
  . exact⟨o,t c o (I.cne x c e) T j D (I.freeC x c e),P⟩
 refine⟨I.ok,I.os,hg,⟨λb o e n C a=>?_,λb o e n C a=>?_,λb o e n a=>?_,λb o e a=>?_,λb xs e=>K b xs (I.base.tups b xs e),λb o xs e=>G b o xs (I.base.frzs b o xs e),λb L e=>?_⟩,?_,λx c e=>?_,?_,λx c e=>?_,λp S=>?_,M,I.len⟩
 . exact t b o (E b o e) C (y b o e a) (I.base.keep b o e n C a) (I.base.free b o e n a)
 . obtain⟨N,e1⟩:=I.base.slot b o e n C a;obtain⟨O,e2⟩:=A b _ (E b o e) C (y b o e a) e1 (I.base.free b o e n a);exact⟨O,e2⟩
 . obtain⟨F,e1⟩:=I.base.there b o e a;exact f b F (y b o e a) e1 (I.base.free b o e n a)
 . obtain⟨F,e1⟩:=I.base.there b o e a;exact B b F (y b o e a) e1
 . obtain⟨Y,e1⟩:=I.base.tbls b L e;obtain⟨U,e2⟩:=J b _ e1;exact⟨Y++U,by rw[e2,Array.append_assoc]⟩
 . obtain⟨m,W,Z⟩:=I.loc;refine⟨m,ns m W,λi x v e1 e2 e3=>?_⟩;obtain⟨u,r,l⟩:=Z i x v e1 e2 e3;refine⟨u,r,?_⟩;rcases l with l | ⟨k,c,e,z⟩
   . exact .inl l
   . exact .inr ⟨k,c,e,h x c e _ z⟩
 . obtain⟨v,z⟩:=I.cell x c e;exact⟨v,h x c e v z⟩
 . obtain⟨m,⟨o,_,_,D,_⟩,_⟩:=I.loc;exact f _ o (λz=>(g _ z).2.1 rfl) D I.free
 . obtain⟨v,o,D,P⟩:=I.cell x c e;exact f c o (λz=>(g c z).2.2.1 x c e rfl) D (I.freeC x c e)
 . obtain⟨e,n,R,Q,d⟩:=I.pin p S;have j:p.1∉ch:=λz=>(g p.1 z).2.2.2 p S rfl;exact⟨t p.1 p.2 R Q j e n,f p.1 p.2 j e n,R,Q,d⟩
theorem Inv.un{t':Nat}(I:Inv X NB σ H s)(u:Un X.fs [] H H' s.heap h')(c:HOk X.prog X.w H' h'):Inv X NB σ H' {s with heap:=h',toks:=t'}:=by
 obtain⟨m,⟨o,v,l,h,r⟩,_⟩:=id I.loc;obtain⟨p,j⟩:=u.any h I.free (by simp)
 exact I.step (g':=s.gens) (d':=s.drawn) (ch:=[]) (λ_ z=>nomatch z) (λb o _ g _ e n=>u.keep b o e n g (by simp)) (λb o _ g _ e n=>u.slot b o e n g (by simp)) (λb o _ e n=>u.free b o e n (by simp)) (λb o _ e=>u.there b o e (by simp)) u.tups u.frzs u.tbls (λq i=>by
  obtain⟨t,f,d,a,k⟩:=i;rw[h]at a;cases a;exact⟨_,f,d,j,k⟩) c I.bare
theorem Inv.call {g':Array GenState} {t':Nat} {d':Drawn} {ch:List Addr} (I:Inv X NB σ H s) (u:Un (frs X.stack) ch H H' s.heap h') (g:HOk X.prog X.w H' h') (t:AllBare g')
  (d:∀ b∈ch,(b∈X.ex\/X.s₀.heap.objs.size<=b)/\b≠X.env.locals/\(∀ x c,X.env.cells.lookup x=some c->c≠b)/\∀ p∈X.pn++NB,p.1≠b):
  Inv X NB σ H' {s with heap:=h',gens:=g',drawn:=d',toks:=t'}:=by
 obtain⟨m,⟨o,D,y,k,r⟩,_⟩:=id I.loc;obtain⟨A,j⟩:=u.any k I.free λz=>(d _ z).2.1 rfl
 exact I.step (ch:=ch) d (λb o j v a e n=>u.keep b o e n (λz=>(N4.mp (I.stkSub b z)).elim j v) a) (λb o _ _ a e n=>u.any e n a) (λb o a e n=>u.free b o e n a) (λb o a e=>u.there b o e a) u.tups u.frzs u.tbls (λB l=>by
  obtain⟨C,i,h,f,q⟩:=l;rw[k]at f;cases f;exact⟨_,i,h,j,q⟩) g t
theorem Inv.turned {t':Nat} {it:Addr} (I:Inv X NB σ H s) (k:∀ b o,b≠it->s.heap.get? b=some o->h'.get? b=some o) (h:H it=none) (f:it≠X.env.locals)
  (h1:it∈X.ex\/X.s₀.heap.objs.size<=it) (h2:∀ x c,X.env.cells.lookup x=some c->c≠it) (h3:∀ p∈X.pn++NB,p.1≠it):Inv X NB σ H {s with heap:=h',toks:=t'}:=by
 have d:∀ b u,H b=some u->b≠it:=λb u e z=>by rw[z,h]at e;cases e
 refine I.step (g':=s.gens) (d':=s.drawn) (ch:=[it]) (λb j=>?_) (λb o _ _ a e _=>k b o (λz=>a (by simp[z])) e) (λb o _ _ a e _=>⟨o.slots,k b o (λz=>a (by simp[z])) e⟩) (λ_ _ _ _ n=>n)
  (λb o a e=>⟨o,k b o (λz=>a (by simp[z])) e⟩) (λ_ _ e=>e) (λ_ _ _ e=>e) (λb w e=>⟨#[],by rw[e];simp⟩) (λm i=>?_) (λb u e=>?_) I.bare
 . have e:b=it:=by simpa using j
   subst e;exact⟨h1,f,h2,h3⟩
 . obtain⟨o,l,g,t,r⟩:=i;exact⟨o,l,g,k _ o (Q7 f) t,r⟩
 . refine(I.hok b u e).stay (λc v a q=>k c v ?_ q) (λ_ q=>q) λ_ _ q=>q;rcases a with z | z
   . rw[z];exact d b u e
   . exact d c _ z
def Inv.tok(I:Inv X NB σ H s)(t:Nat):Inv X NB σ H {s with toks:=t}:=I.un (h':=s.heap) (t':=t) Un.refl I.hok
def Inv.kept{t':Nat}(I:Inv X NB σ H s)(k:∀ b u,s.heap.get? b=some u->h'.get? b=some u):Inv X NB σ H {s with heap:=h',toks:=t'}:=I.un (Un.kept k) (I.hok.kept k)
def Inv.laid{a:Addr}{o:HO}{t':Nat}(I:Inv X NB σ H s)(k:∀ b u,s.heap.get? b=some u->h'.get? b=some u)(d:s.heap.objs.size<=a)(c:ObjOk X.prog X.w (upd H a o) h' a o):
  Inv X NB σ (upd H a o) {s with heap:=h',toks:=t'}:=I.un (Un.laid k d (I.hok.fresh d)) (I.hok.laid k d c)
def Inv.write {x e:Addr} {o:HO} {t':Nat} (I:Inv X NB σ H s) (d:Mut (H x)) (he:e=x\/H e=some (.own x)) (k:∀ b u,b≠e->s.heap.get? b=some u->h'.get? b=some u) (a:∃ u,h'.get? e=some u)
  (c:ObjOk X.prog X.w (upd H x o) h' x o):Inv X NB σ (upd H x o) {s with heap:=h',toks:=t'}:=I.un (Un.write d he k a) (I.hok.write d he k a c)
def Inv.pins_of{a:List (Addr × Obj)}(I:Inv X NB σ H s)(h:∀ p∈a,s.heap.get? p.1=some p.2/\H p.1=none/\p.1≠X.env.locals/\p.1∉X.fs/\∀ v,p.2.data≠.cell v):Inv X a σ H s:=
 ⟨I.ok,I.os,I.bare,I.base,I.loc,I.cell,I.free,I.freeC,λp b=>(Of.mp b).elim (λz=>I.pin p (Py _ z)) (h p),I.hok,I.len⟩
theorem Ag{N:List Str}(c:N.Nodup){i j:Nat}{x:Str}(a:N[i]? =some x)(b:N[j]? =some x):i=j:=by
 obtain⟨h1,e1⟩:=NO.mp a;obtain⟨h2,e2⟩:=NO.mp b;exact(List.getElem_inj c).mp (e1.trans e2.symm)
theorem yC {M:Model} {A:Around} {E:Value->Shared->Prop} {i:Nat} {x:Str} {v:V} {u:Value} {Q:Unit->Shared->Prop} (I:Inv X NB σ H s) (hN:X.N.Nodup) (T:X.N[i]? =some x) (t:Loc X.env.scope x) (r:RelV v u)
  (h:∀ s',Inv X NB (σ.set i (some v)) H s'->(∃ a,Heap.SameBut a s.heap s'.heap/\(a=X.env.locals\/X.env.cells.lookup x=some a))->Q () s') (hf:X.fn x=true\/X.env.scope.names.lookup x=some .local:=by first | exact .inl rfl | exact .inr rfl | assumption):wpAny M A (storeName X.env x u) Q E s:=by
 obtain⟨m,hn,hl⟩:=id I.loc;have O:(X.env.scope.kind==.class||(X.env.scope.kind==.module&&X.env.locals != X.env.globals))=false:=by rw[I.ok.kind];rfl
 have R:i<σ.length:=by rw[I.len];exact(NO.mp T).1
 have F:=I.cne
 have g:∀{a:Addr} {h':Heap},(∃ o,s.heap.get? a=some o/\H a=none)->Heap.SameBut a s.heap h'->HOk X.prog X.w H h':=λ{a h'} ha f b ob e=>by
  obtain⟨_,_,B⟩:=ha;refine(I.hok b ob e).stay (λc Y l q=>(f.2 c ?_).trans q) (λ_ q=>q) λ_ _ q=>q;rintro rfl;rcases l with rfl | l
  . rw[B]at e;cases e
  . rw[B]at l;cases l
 rcases t with C | C
 . refine Rq C hn (λh' aa f=>?_) O;obtain⟨oL,_,_,ab,_⟩:=id hn;refine h _ ⟨I.ok,I.os,I.bare,⟨λb o e n J t=>?_,λb o e n J t=>?_,I.base.free,λb o e t=>?_,I.base.tups,I.base.frzs,I.base.tbls⟩,⟨_,aa,λj y v' e1 e2 e3=>?_⟩,λy c e=>?_,I.free,I.freeC,λp hp=>?_,g ⟨oL,ab,I.free⟩ f,by simpa using I.len⟩ ⟨_,f,.inl rfl⟩
   . exact(f.2 b (OF (Ox (Oh e) I.ok.above))).trans (I.base.keep b o e n J t)
   . obtain⟨sl,e1⟩:=I.base.slot b o e n J t;exact⟨sl,(f.2 b (OF (Ox (Oh e) I.ok.above))).trans e1⟩
   . obtain⟨o',e1⟩:=I.base.there b o e t;exact⟨o',(f.2 b (OF (Ox (Oh e) I.ok.above))).trans e1⟩
   . by_cases G:j=i
     . subst G;rw[T]at e1;cases e1;rw[Q8 R]at e2;cases e2;exact⟨u,r,.inl ⟨C,by simp⟩⟩
     . rw[List.getElem?_set_ne (Q7 G)]at e2;obtain⟨u',r',q⟩:=hl j y v' e1 e2 e3;refine⟨u',r',?_⟩;rcases q with ⟨k,e⟩ | ⟨k,c,e,z⟩
       . refine .inl ⟨k,?_⟩;have:y≠x:=λe=>G (Ag hN e1 (e ▸ T));simp[this,e]
       . exact .inr ⟨k,c,e,z.sameBut f (F y c e)⟩
   . obtain⟨Y,z⟩:=I.cell y c e;exact⟨Y,z.sameBut f (F y c e)⟩
   . obtain⟨e,n,W,Z,d⟩:=I.pin p hp;exact⟨(f.2 p.1 W).trans e,n,W,Z,d⟩
 . have D:X.fn x=true:=by
    rcases hf with z | z
    . exact z
    . rw[z]at C;cases C
   obtain⟨c,l⟩:=I.ok.has x (.inl C);obtain⟨Y,z⟩:=I.cell x c l;refine wpAny_storeName_cell I.ok.kind C l z (λh' L f=>?_);obtain⟨oc,S,K⟩:=id z;refine h {s with heap:=h'} ⟨I.ok,I.os,I.bare,⟨λb o e n J t=>?_,λb o e n J t=>?_,I.base.free,λb o e t=>?_,I.base.tups,I.base.frzs,I.base.tbls⟩,⟨m,hn.sameBut f (Q7 (F x c l)),λj y v' e1 e2 e3=>?_⟩,λy U e=>?_,I.free,I.freeC,λp hp=>?_,g ⟨oc,S,I.freeC x c l⟩ f,by simpa using I.len⟩ ⟨c,f,.inr l⟩
   . exact(f.2 b (OF (Ox (Oh e) (I.ok.cab x c D l)))).trans (I.base.keep b o e n J t)
   . obtain⟨sl,e1⟩:=I.base.slot b o e n J t;exact⟨sl,(f.2 b (OF (Ox (Oh e) (I.ok.cab x c D l)))).trans e1⟩
   . obtain⟨o',e1⟩:=I.base.there b o e t;exact⟨o',(f.2 b (OF (Ox (Oh e) (I.ok.cab x c D l)))).trans e1⟩
   . by_cases G:j=i
     . subst G;rw[T]at e1;cases e1;rw[Q8 R]at e2;cases e2;exact⟨u,r,.inr ⟨.inl C,c,l,L⟩⟩
     . rw[List.getElem?_set_ne (Q7 G)]at e2;obtain⟨u',r',q⟩:=hl j y v' e1 e2 e3;refine⟨u',r',?_⟩;rcases q with q | ⟨k,U,e,z'⟩
       . exact .inl q
       . refine .inr ⟨k,U,e,z'.sameBut f ?_⟩;rintro rfl;exact G (Ag hN e1 (I.ok.inj _ _ _ e l ▸ T))
   . by_cases P:U=c
     . subst P;exact⟨_,L⟩
     . obtain⟨w2,z2⟩:=I.cell y U e;exact⟨w2,z2.sameBut f P⟩
   . obtain⟨e,n,W,Z,d⟩:=I.pin p hp;refine⟨(f.2 p.1 ?_).trans e,n,W,Z,d⟩;intro q;rw[q,S]at e;have q':oc=p.2:=Pi e;exact d Y (by rw[← q'];exact K)
def Ah {M:Model} {A:Around} {E:Value->Shared->Prop} {i:Nat} {x:Str} {v:V} {u:Value} {Q:Unit->Shared->Prop} (I:Inv X NB σ H s) (b:X.N.Nodup) (c:X.N[i]? =some x) (a:Loc X.env.scope x) (r:RelV v u)
  (h:∀ s',Inv X NB (σ.set i (some v)) H s'->Q () s') (e:X.fn x=true\/X.env.scope.names.lookup x=some .local:=by first | exact .inl rfl | exact .inr rfl | assumption):wpAny M A (storeName X.env x u) Q E s:=
 yC I b c a r (λs' d _=>h s' d) e
theorem Inv.call' {s':Shared} {ch:List Addr} (I:Inv X NB σ H s) (k:s'.os=s.os) (u:Un (frs X.stack) ch H H' s.heap s'.heap) (a:HOk X.prog X.w H' s'.heap) (i:AllBare s'.gens)
  (d:∀ b∈ch,(b∈X.ex\/X.s₀.heap.objs.size<=b)/\b≠X.env.locals/\(∀ x c,X.env.cells.lookup x=some c->c≠b)/\∀ p∈X.pn++NB,p.1≠b):Inv X NB σ H' s':=by
 obtain⟨h',h,g,f,j⟩:=s';have e:j=s.os:=k;subst e;exact I.call (g':=h) (t':=f) (d':=g) u a i d
end
abbrev XK:=Value->Option Addr->Hp->Prop
abbrev St:=List (Option V)
abbrev VK:=V->Hp->Prop
abbrev TE:=St->Hp->VK->Prop
abbrev TT:=St->Hp->(Bool->Hp->Prop)->Prop
abbrev TA:=St->Hp->(List V->Hp->Prop)->Prop
structure Ends where
 nx:St->Hp->Prop
 rt:VK
 bk:St->Hp->Prop:=λ_ _=>False
 ct:St->Hp->Prop:=λ_ _=>False
abbrev TS:=Ends->St->Hp->Prop
def EP(X:Cx)(b:List (Addr × Obj))(σ:St)(Q:VK)(u:Value)(s':Shared):Prop:=∃ v a,Inv X b σ a s'/\RelV v u/\Q v a
def TP(X:Cx)(c:List (Addr × Obj))(σ:St)(Q:Bool->Hp->Prop)(b:Bool)(s':Shared):Prop:=∃ a,Inv X c σ a s'/\Q b a
def AP(X:Cx)(b:List (Addr × Obj))(σ:St)(Q:List V->Hp->Prop)(us:List Value)(s':Shared):Prop:=∃ vs a,Inv X b σ a s'/\Vals vs us/\Q vs a
def SP(X:Cx)(c:List (Addr × Obj))(D:Ends)(f:Flow)(s':Shared):Prop:=
 match f with
 | .next=>∃ b a,Inv X c b a s'/\D.nx b a
 | .brk=>∃ b a,Inv X c b a s'/\D.bk b a
 | .cont=>∃ b a,Inv X c b a s'/\D.ct b a
 | .ret u=>∃ v b a,Inv X c b a s'/\RelV v u/\D.rt v a
def PE(X:Cx)(e:Expr)(t:TE):Prop:=
 ∀(a:List (Addr × Obj)) (s:Shared) (σ:St) (H:Hp) (Q:VK),Inv X a σ H s->t σ H Q->wpAny (model X.prog X.w) X.A (eval e X.env) (EP X a σ Q) X.xe s
def PT(X:Cx)(e:Expr)(t:TT):Prop:=
 ∀(a:List (Addr × Obj)) (s:Shared) (σ:St) (H:Hp) (Q:Bool->Hp->Prop),Inv X a σ H s->t σ H Q->wpAny (model X.prog X.w) X.A (isTrue e X.env (eval e X.env)) (TP X a σ Q) X.xe s
def PW(X:Cx)(e:Expr)(t:TT):Prop:=
 ∀(b:Sem Value) (a:List (Addr × Obj)) (s:Shared) (σ:St) (H:Hp) (Q:Bool->Hp->Prop),Inv X a σ H s->t σ H Q->wpAny (model X.prog X.w) X.A (isTrue e X.env b) (TP X a σ Q) X.xe s
def PW.pt{X:Cx}{e:Expr}{t:TT}(h:PW X e t):PT X e t:=h _
abbrev P7:=@PW.pt
def PA(X:Cx)(c:List Expr)(t:TA):Prop:=
 ∀(a:Pos) (b:List (Addr × Obj)) (s:Shared) (σ:St) (H:Hp) (Q:List V->Hp->Prop),Inv X b σ H s->t σ H Q->wpAny (model X.prog X.w) X.A (spliced (backTo a (starEach c X.env))) (AP X b σ Q) X.xe s
def PS(X:Cx)(st:Stmt)(t:TS):Prop:=
 ∀(a:List (Addr × Obj)) (s:Shared) (σ:St) (H:Hp) (D:Ends),Inv X a σ H s->t D σ H->wpAny (model X.prog X.w) X.A (exec st X.env) (SP X a D) X.xe s
def PSs(X:Cx)(st:List Stmt)(t:TS):Prop:=
 ∀(a:List (Addr × Obj)) (s:Shared) (σ:St) (H:Hp) (D:Ends),Inv X a σ H s->t D σ H->wpAny (model X.prog X.w) X.A (execs st X.env) (SP X a D) X.xe s
def thn{α:Type}{t:Sem α}{Q b:α->Shared->Prop}{M:Model}{A:Around}{E:Value->Shared->Prop}{s:Shared}(h:wpAny M A t Q E s)(c:∀ a s,Q a s->b a s):wpAny M A t b E s:=OZ h c λ_ _ x=>x
section
variable{X:Cx}
def vB:Option (Option V)->(V->Prop)->Prop
 | some (some v),k=>k v
 | _,_=>False
theorem GZ{o:Option (Option V)}{k:V->Prop}(h:vB o k):∃ v,o=some (some v)/\k v:=by
 rcases o with _ | _ | v
 . cases h
 . cases h
 . exact⟨v,rfl,h⟩
def kJ{o:Option (Option V)}{k:V->Prop}{v:V}(e:o=some (some v))(h:k v):vB o k:=by subst e;exact h
def tVar(i:Nat):TE:=λσ H Q=>vB σ[i]? λv=>Q v H
def tC(v:V):TE:=λ_ H Q=>Q v H
theorem IF{i:Nat}{x:Str}{pos:Pos}(n:X.N[i]? =some x)(t:Vis X.env.scope x)(g:(x==("__debug__":Str))=false:=by decide)(f:(x==("__classdict__":Str))=false:=by decide):PE X (.Name x pos) (tVar i):=by
 intro k s σ H Q I h;obtain⟨v,e,h⟩:=GZ h;obtain⟨m,o,q⟩:=I.loc;obtain⟨u,r,l⟩:=q i x v n e t;have d:EP X k σ Q u s:=⟨v,H,I,r,h⟩;rcases l with ⟨b,p⟩ | ⟨b,c,j,a⟩
 . exact Q9 (wpAny_loadName_local I.ok.kind b o p d) g
 . rcases b with b | b
   . exact Q9 (wpAny_loadName_cell I.ok.kind b j a d) g
   . exact Q9 (wpAny_loadName_free I.ok.kind b j a d f) g
def ae{i j pos}:PE X (.Constant (.int i) j pos) (tC (.int i)):=λ_ _ _ H _ I h=>wpAny_Constant_int ⟨.int i,H,I.tok _,⟨_,rfl⟩,h⟩
def bA{b j pos}:PE X (.Constant (.bool b) j pos) (tC (.bl b)):=λ_ _ _ H _ I h=>Constant_bool ⟨.bl b,H,I,rfl,h⟩
def gw{j pos}:PE X (.Constant .none j pos) (tC .non):=λ_ _ _ H _ I h=>Constant_none ⟨.non,H,I,rfl,h⟩
def aF{x j pos}:PE X (.Constant (.str x) j pos) (tC (.str x)):=λ_ _ _ H _ I h=>Calls.Constant_str ⟨.str x,H,I.tok _,⟨_,rfl⟩,h⟩
def Gl(X:Cx)(x:Str):Prop:=X.env.kindOf x=some .globalImplicit
def tL {E:Value->Shared->Prop} {c:List (Addr × Obj)} {s:Shared} {σ:St} {H:Hp} {x:Str} {u:Value} {pos:Pos} {Q:Value->Shared->Prop} (I:Inv X c σ H s) (d:Gl X x) (a:X.mg x=some u) (h:Q u s)
  (b:(x==("__debug__":Str))=false:=by decide):wpAny (model X.prog X.w) X.A (eval (.Name x pos) X.env) Q E s:=
 QC I.ok.kind d (Calls.loadGlobal_global (by rw[I.ok.glob];exact I.mod.glob.keeps I.bk) a h) b
theorem fm {E:Value->Shared->Prop} {a:List (Addr × Obj)} {s:Shared} {σ:St} {H:Hp} {x:Str} {u:Value} {pos:Pos} {Q:Value->Shared->Prop} (I:Inv X a σ H s) (e:Gl X x) (c:X.mg x=none) (f:bootBuiltins x=some u) (h:Q u s)
  (b:x≠"__name__":=by decide) (d:(x==("__debug__":Str))=false:=by decide):wpAny (model X.prog X.w) X.A (eval (.Name x pos) X.env) Q E s:=by
 obtain⟨g,h1,h2⟩:=I.mod.blt;exact QC I.ok.kind e (Calls.loadGlobal_builtin (by rw[I.ok.glob];exact I.mod.glob.keeps I.bk) c (by rw[I.ok.blt];exact h1.keeps I.bk) ((h2 x b).trans f) h) d
theorem dQ{x:Str}{v:V}{u:Value}{pos:Pos}(c:Gl X x)(b:X.mg x=some u)(r:RelV v u)(a:(x==("__debug__":Str))=false:=by decide):PE X (.Name x pos) (tC v):=
 λ_ _ _ H _ I h=>tL I c b ⟨v,H,I,r,h⟩ a
theorem dR{x:Str}{v:V}{u:Value}{pos:Pos}(d:Gl X x)(b:X.mg x=none)(e:bootBuiltins x=some u)(r:RelV v u)(a:x≠"__name__":=by decide)(c:(x==("__debug__":Str))=false:=by decide):PE X (.Name x pos) (tC v):=
 λ_ _ _ H _ I h=>fm I d b e ⟨v,H,I,r,h⟩ a c
variable{a b:Expr}{ta tb:TE}{pos:Pos}
def tB(t:TE):TT:=λσ H Q=>t σ H λx a=>∃ c,x=.bl c/\Q c a
theorem aJ{e:Expr}{t:TE}(h:PE X e t)(he:∀ a,isTrue e X.env a=(do let v ← a;standAt e.pos;holding [v] (truthy v)):=by intro _;rfl):PT X e (tB t):=by
 intro c s σ H Q I hw;refine isTrue_plain (thn (h c s σ H _ I hw) λv s1 ⟨x,g,f,r1,b⟩=>?_) (he _);obtain⟨d,rfl,q⟩:=b;cases r1;exact Po ⟨g,f,q⟩
variable{tA tB':TT}{rest:List Expr}
def tAnd(t u:TT):TT:=λσ H Q=>t σ H λc a=>if c=true then u σ a Q else Q false a
def tOr(t u:TT):TT:=λσ H Q=>t σ H λc a=>if c=true then Q true a else u σ a Q
def tNot(t:TT):TT:=λσ H Q=>t σ H λc a=>Q (!c) a
theorem xE(d:PT X a tA):PW X (.BoolOp .And [a] pos) tA:=by
 intro f b s σ H Q I h;refine isTrue_and (thn (d b s σ H Q I h) λc s1 e=>?_)
 cases c with
 | true=>exact isTrue_and_nil e
 | false=>exact e
theorem b8(d:PT X a tA):PW X (.BoolOp .Or [a] pos) tA:=by
 intro f b s σ H Q I h;refine isTrue_or (thn (d b s σ H Q I h) λc s1 e=>?_)
 cases c with
 | false=>exact isTrue_or_nil e
 | true=>exact e
theorem Ai(j:PT X a tA)(k:PW X (.BoolOp .And (b::rest) pos) tB'):PW X (.BoolOp .And (a::b::rest) pos) (tAnd tA tB'):=by
 intro i e s σ H Q I h;refine isTrue_and (thn (j e s σ H _ I h) λc s1 ⟨g,f,d⟩=>?_)
 cases c with
 | true=>exact k i e s1 σ g Q f d
 | false=>exact⟨g,f,d⟩
theorem bV(j:PT X a tA)(k:PW X (.BoolOp .Or (b::rest) pos) tB'):PW X (.BoolOp .Or (a::b::rest) pos) (tOr tA tB'):=by
 intro i e s σ H Q I h;refine isTrue_or (thn (j e s σ H _ I h) λc s1 ⟨g,f,d⟩=>?_)
 cases c with
 | true=>exact⟨g,f,d⟩
 | false=>exact k i e s1 σ g Q f d
theorem bp(e:PT X a tA):PT X (.UnaryOp .Not a pos) (tNot tA):=by
 intro d s σ H Q I h;exact isTrue_not (e d s σ H (λc b=>Q (!c) b) I h)
def tAndV(ta tb:TE):TE:=λσ H Q=>ta σ H λx a=>∃ c,x=.bl c/\if c=true then tb σ a Q else Q (.bl false) a
def tOrV(ta tb:TE):TE:=λσ H Q=>ta σ H λx a=>∃ c,x=.bl c/\if c=true then Q (.bl true) a else tb σ a Q
def tNotV(ta:TE):TE:=λσ H Q=>ta σ H λx a=>∃ c,x=.bl c/\Q (.bl (!c)) a
def bY{op}{t:TE}(h:PE X a t):PE X (.BoolOp op [a] pos) t:=λb s σ H Q I hw=>BoolOp_one (h b s σ H Q I hw)
theorem bF(i:PE X a ta)(j:PE X (.BoolOp .And (b::rest) pos) tb):PE X (.BoolOp .And (a::b::rest) pos) (tAndV ta tb):=by
 intro e s σ H Q I h;refine BoolOp_and (thn (i e s σ H _ I h) λv s1 ⟨x,g,f,r1,d⟩=>?_);obtain⟨c,rfl,d⟩:=d;cases r1;refine Po ?_
 cases c with
 | true=>exact j e s1 σ g Q f d
 | false=>exact⟨.bl false,g,f,rfl,d⟩
theorem vA(i:PE X a ta)(j:PE X (.BoolOp .Or (b::rest) pos) tb):PE X (.BoolOp .Or (a::b::rest) pos) (tOrV ta tb):=by
 intro e s σ H Q I h;refine BoolOp_or (thn (i e s σ H _ I h) λv s1 ⟨x,g,f,r1,d⟩=>?_);obtain⟨c,rfl,d⟩:=d;cases r1;refine Po ?_
 cases c with
 | false=>exact j e s1 σ g Q f d
 | true=>exact⟨.bl true,g,f,rfl,d⟩
theorem Ep(e:PE X a ta):PE X (.UnaryOp .Not a pos) (tNotV ta):=by
 intro d s σ H Q I h;refine UnaryOp_ (thn (e d s σ H _ I h) λv s1 ⟨x,g,f,r1,b⟩=>?_);obtain⟨c,rfl,b⟩:=b;cases r1;exact not_of (Po ⟨.bl (!c),g,f,rfl,b⟩)
def tIf(t:TT)(ta tb:TE):TE:=λσ H Q=>t σ H λc a=>if c=true then ta σ a Q else tb σ a Q
theorem ka{c:Expr}(l:PT X c tA)(j:PE X a ta)(k:PE X b tb):PE X (.IfExp c a b pos) (tIf tA ta tb):=by
 intro e s σ H Q I h;refine wpAny_IfExp (thn (l e s σ H _ I h) λd s1 ⟨i,g,f⟩=>?_)
 cases d with
 | true=>exact j e s1 σ i Q g f
 | false=>exact k e s1 σ i Q g f
end
def SqL(K:Frag)(H:Hp)(a:Addr)(xs:List V):Prop:=
 Rd H a (.lst xs)\/
  ∃(o:Obj) (b:Array Value) (n:Nat),K.lookup a=some o/\o.cls=.type "list"/\o.dict=none/\o.data=.seq b n/\b.size<=sizeLine/\Vals xs b.toList
def SqT(K:Frag)(H:Hp)(a:Addr)(xs:List V):Prop:=
 Rd H a (.tup xs)\/
  ∃(o:Obj) (b:Array Value) (n:Nat),K.lookup a=some o/\o.cls=.type "tuple"/\o.data=.seq b n/\b.size<=sizeLine/\Vals xs b.toList
def absV:Value->Option V
 | .none=>some .non
 | .bool b=>some (.bl b)
 | .int i _=>⇑i
 | .str x _=>some (.str x)
 | .bytes b _=>some (.byt b)
 | .float b _=>some (.flt b)
 | .ref a=>↑a
 | .type n=>some (.ty n)
 | _=>none
variable{u:Value}
theorem RelV.abs{x:V}(r:RelV x u):absV u=some x:=by
 cases x with
 | non=>cases r;rfl
 | bl _=>cases r;rfl
 | int _=>obtain⟨t,rfl⟩:=r;rfl
 | str _=>obtain⟨t,rfl⟩:=r;rfl
 | byt _=>obtain⟨t,rfl⟩:=r;rfl
 | flt _=>obtain⟨t,rfl⟩:=r;rfl
 | ref _=>cases r;rfl
 | ty _=>cases r;rfl
def RelV.inj{x y:V}(r:RelV x u)(q:RelV y u):x=y:=Pi (r.abs.symm.trans q.abs)
theorem Vals.inj:∀{xs ys:List V} {us:List Value},Vals xs us->Vals ys us->xs=ys
 | _,_,_,.nil,.nil=>rfl
 | _,_,_,.cons r t,.cons r' t'=>by rw[r.inj r',Vals.inj t t']
section
variable{X:Cx}{NB:List (Addr × Obj)}{σ:St}{H:Hp}{s:Shared}{a:Addr}{xs ys:List V}
def SqL.of{K:Frag}(h:H a=↥xs):SqL K H a xs:=.inl (.inl h)
abbrev NW:=@SqL.of
def SqT.of{K:Frag}(h:H a=some (.tup xs)):SqT K H a xs:=.inl (.inl h)
abbrev Ry:=@SqT.of
theorem Inv.list(I:Inv X NB σ H s)(h:SqL X.K H a xs):∃ NF:List Value,Vals xs NF/\PlainL s.heap a NF.toArray/\xs.length<=sizeLine:=by
 rcases h with h | ⟨o,NF,n,c,f,d,b,g,r⟩
 . obtain⟨z,NF,n,r,e⟩:=h.ok I.hok;exact⟨NF,r,⟨_,n,e,rfl,rfl,rfl⟩,z⟩
 . refine⟨NF.toList,r,⟨o,n,I.kIn a o c,f,d,by simpa using b⟩,?_⟩;have e:=r.length;simp only[P3]at e;lia
theorem Inv.tuple(I:Inv X NB σ H s)(h:SqT X.K H a xs):∃ NF:List Value,Vals xs NF/\IsTup s.heap a NF.toArray/\xs.length<=sizeLine:=by
 rcases h with h | ⟨o,NF,n,d,b,c,f,r⟩
 . obtain⟨z,NF,r,p⟩:=h.ok I.hok;exact⟨NF,r,p,z⟩
 . refine⟨NF.toList,r,⟨o,I.kIn a o d,b,n,by simpa using c⟩,?_⟩;have e:=r.length;simp only[P3]at e;lia
theorem Inv.list_inj(I:Inv X NB σ H s)(h:SqL X.K H a xs)(h':SqL X.K H a ys):xs=ys:=by
 obtain⟨g,r,⟨o,n,e,_,_,d⟩,_⟩:=I.list h;obtain⟨b,i,⟨k,j,f,_,_,c⟩,_⟩:=I.list h';rw[e]at f;cases f;rw[d]at c;injection c with d1 _;have:g=b:=by simpa using congrArg Array.toList d1
 subst this;exact r.inj i
theorem Inv.tuple_inj(I:Inv X NB σ H s)(h:SqT X.K H a xs)(h':SqT X.K H a ys):xs=ys:=by
 obtain⟨g,r,⟨o,e,_,n,d⟩,_⟩:=I.tuple h;obtain⟨b,i,⟨k,f,_,j,c⟩,_⟩:=I.tuple h';rw[e]at f;cases f;rw[d]at c;injection c with d1 _;have:g=b:=by simpa using congrArg Array.toList d1
 subst this;exact r.inj i
end
abbrev Cx.wish(X:Cx)(E:Value->Shared->Prop):Cx:={X with xe:=E}
abbrev Cx.nox(X:Cx):Cx:=X.wish λ_ _=>False
variable{X:Cx}
def Cx.Ok.wish(a:X.Ok)(E:Value->Shared->Prop):(X.wish E).Ok:=
 ⟨a.mod,a.kind,a.glob,a.blt,a.above,a.inj,a.has,a.cab,a.hd,a.frames,a.stk,a.exf,a.bs,a.bsz,a.noex,a.exfs,a.funs,a.frf⟩
variable{E:Value->Shared->Prop}
def Cx.Ok.unwish(a:(X.wish E).Ok):X.Ok:=
 ⟨a.mod,a.kind,a.glob,a.blt,a.above,a.inj,a.has,a.cab,a.hd,a.frames,a.stk,a.exf,a.bs,a.bsz,a.noex,a.exfs,a.funs,a.frf⟩
section
variable{X:Cx}{NB:List (Addr × Obj)}{σ:St}{H:Hp}{s:Shared}{E:Value->Shared->Prop}
def Inv.wish(I:Inv X NB σ H s)(E:Value->Shared->Prop):Inv (X.wish E) NB σ H s:=⟨I.ok.wish E,I.os,I.bare,I.base,I.loc,I.cell,I.free,I.freeC,I.pin,I.hok,I.len⟩
def Inv.unwish(I:Inv (X.wish E) NB σ H s):Inv X NB σ H s:=⟨I.ok.unwish,I.os,I.bare,I.base,I.loc,I.cell,I.free,I.freeC,I.pin,I.hok,I.len⟩
theorem SP.unwish{D:Ends}{f:Flow}{s':Shared}(h:SP (X.wish E) NB D f s'):SP X NB D f s':=by
 cases f with
 | next=>obtain⟨b,a,I,q⟩:=h;exact⟨b,a,I.unwish,q⟩
 | brk=>obtain⟨b,a,I,q⟩:=h;exact⟨b,a,I.unwish,q⟩
 | cont=>obtain⟨b,a,I,q⟩:=h;exact⟨b,a,I.unwish,q⟩
 | ret u=>obtain⟨v,b,a,I,r,q⟩:=h;exact⟨v,b,a,I.unwish,r,q⟩
def PSs.nox{st:List Stmt}{t:TS}(h:PSs X.nox st t):PSs X st t:=λNB s σ H D I hw=>
 OZ (h NB s σ H D (I.wish _) hw) (λ_ _ q=>q.unwish) λ_ _ z=>False.elim z
end
section
variable{X:Cx}{st:Stmt}{rest:List Stmt}{t u:TS}{e:Expr}{te:TE}{pos:Pos}
def tNext:TS:=λD σ H=>D.nx σ H
def tSeq(t u:TS):TS:=λD σ H=>t {D with nx:=u D} σ H
def ak:PSs X [] tNext:=λ_ _ σ H _ I h=>Qn ⟨σ,H,I,h⟩
theorem ac(h1:PS X st t)(h2:PSs X rest u):PSs X (st::rest) (tSeq t u):=by
 intro a s σ H D I h;refine wpAny_execs_cons (thn (h1 a s σ H {D with nx:=u D} I h) λf s1 q=>?_)
 cases f with
 | next=>
  obtain⟨c,b,d,q⟩:=q;exact h2 a s1 c b D d q
 | ret v=>exact q
 | brk=>exact q
 | cont=>exact q
theorem ad(h1:PS X st t):PSs X [st] t:=by
 intro a s σ H D I h;refine wpAny_execs_cons (thn (h1 a s σ H D I h) λf s1 q=>?_)
 cases f with
 | next=>exact Qn q
 | ret v=>exact q
 | brk=>exact q
 | cont=>exact q
theorem Inv.quiet{a:List (Addr × Obj)}{σ:St}{H:Hp}{s:Shared}(I:Inv X a σ H s):interactive X.env=false:=by simp[interactive,I.ok.kind]
def tDrop(te:TE):TS:=λD σ H=>te σ H λ_ a=>D.nx σ a
theorem bT(he:PE X e te)(d:swapsWith e none pos.line X.env=pure false:=by rfl):PS X (.Expr e pos) (tDrop te):=by
 intro b s σ H D I h;exact wpAny_Expr_any (thn (he b s σ H _ I h) λv s1 ⟨x,f,c,r1,a⟩=>⟨σ,f,c,a⟩) I.quiet d
def tRet(te:TE):TS:=λD σ H=>te σ H D.rt
theorem af(he:PE X e te):PS X (.Return (some e) pos) (tRet te):=by
 intro d s σ H D I h;exact wpAny_Return_some (thn (he d s σ H _ I h) λv s1 ⟨x,c,b,r1,a⟩=>⟨x,σ,c,b,r1,a⟩)
def tRetN:TS:=λD _ H=>D.rt .non H
def tIfS(c:TT)(t u:TS):TS:=λD σ H=>c σ H λb a=>if b=true then t D σ a else u D σ a
theorem aq{c:Expr}{a b:List Stmt}{i:TT}(m:PT X c i)(k:PSs X a t)(l:PSs X b u):PS X (.If c a b pos) (tIfS i t u):=by
 intro e s σ H D I h;refine wpAny_If (thn (m e s σ H _ I h) λd s1 ⟨j,g,f⟩=>?_)
 cases d with
 | true=>exact k e s1 σ j D g f
 | false=>exact l e s1 σ j D g f
def dW:TS:=λ_ _ _=>False
def b9:PS X st dW:=λ_ _ _ _ _ _ h=>h.elim
end
abbrev TG:=V->St->Hp->(St->Hp->Prop)->Prop
abbrev TGs:=List V->St->Hp->(St->Hp->Prop)->Prop
def PG(X:Cx)(a:Expr)(t:TG):Prop:=
 ∀(b:List (Addr × Obj)) (s:Shared) (σ:St) (H:Hp) (v:V) (u:Value) (Q:St->Hp->Prop),Inv X b σ H s->RelV v u->t v σ H Q->
  wpAny (model X.prog X.w) X.A (assign a X.env u) (λ_ e=>∃ d c,Inv X b d c e/\Q d c) X.xe s
def PGs(X:Cx)(ts:List Expr)(t:TGs):Prop:=
 ∀(a:List (Addr × Obj)) (s:Shared) (σ:St) (H:Hp) (vs:List V) (d:List Value) (Q:St->Hp->Prop),Inv X a σ H s->Vals vs d->t vs σ H Q->
  wpAny (model X.prog X.w) X.A (assignInOrder ((assignEach ts X.env).map (·.2)) d) (λ_ e=>∃ c b,Inv X a c b e/\Q c b) X.xe s
abbrev TSet:=V->V->V->Hp->(Hp->Prop)->Prop
section
variable{X:Cx}{pos:Pos}
def gName(i:Nat):TG:=λv σ H Q=>Q (σ.set i (some v)) H
theorem ao{i:Nat}{x:Str}(b:X.N.Nodup)(c:X.N[i]? =some x)(a:Loc X.env.scope x)(e:X.fn x=true\/X.env.scope.names.lookup x=some .local:=by first | exact .inl rfl | exact .inr rfl | assumption):PG X (.Name x pos) (gName i):=by
 intro f s σ H v u Q I r h;exact wpAny_assign_Name (Ah I b c a r (λg d=>⟨_,H,d,h⟩) e)
def gNil:TGs:=λvs σ H Q=>vs=[]/\Q σ H
def gCons(t:TG)(u:TGs):TGs:=λvs σ H Q=>∃ v r,vs=v::r/\t v σ H λb a=>u r b a Q
theorem o4:PGs X [] gNil:=by
 intro a s σ H vs b Q I r h;obtain⟨e,h⟩:=h;subst e;cases r;exact assignInOrder_nil ⟨σ,H,I,h⟩
theorem eX {e:Expr} {a:List Expr} {t:TG} {u:TGs} (h1:PG X e t) (h2:PGs X a u)
  (g:(assignEach (e::a) X.env).map (·.2)=assign e X.env::(assignEach a X.env).map (·.2):=by rfl):PGs X (e::a) (gCons t u):=by
 intro b s σ H vs l Q I r h;obtain⟨v,k,e1,h⟩:=h;subst e1
 cases r with
 | cons r d=>
  rw[g];refine assignInOrder_cons (thn (h1 b s σ H _ _ _ I r h) λ_ s1 ⟨i,j,f,c⟩=>?_);exact h2 b s1 i j _ _ Q f d c
def gTup(K:Frag)(n:Nat)(t:TGs):TG:=λv σ H Q=>∃ a b,v=.ref a/\SqT K H a b/\b.length=n/\t b σ H Q
theorem rE {c:List Expr} {k:Nat} {t:TGs} {n:Nat} (w:X.calm=true) (h:PGs X c t)
  (l:(assignEach c X.env).length=n:=by rfl) (d:(assignEach c X.env).findIdx? (·.1)=none:=by rfl):PG X (.Tuple c k pos) (gTup X.K n t):=by
 intro f s σ H v u Q I r hw;obtain⟨a,j,e1,p,q,hw⟩:=hw;subst e1;cases r;obtain⟨A,g,y,z⟩:=I.tuple p;refine assign_Tuple_tuple (I.ok.hd w) y (by simp[l,← q,g.length]) d λx i=>?_;have m:Inv X f σ H {s with heap:=x}:=I.kept (t':=s.toks) λb o e=>i b o (OF (Oh e)) e;exact h f _ σ H j _ Q m (by simpa using g) hw
def gSub(e c:TE)(t:TSet):TG:=λv σ H Q=>e σ H λo d=>c σ d λi a=>t o i v a λb=>Q σ b
def tAsg(te:TE)(g:TG):TS:=λD σ H=>te σ H λx a=>g x σ a D.nx
def IG {a e:Expr} {te:TE} {g:TG} (he:PE X e te) (i:PG X a g) (f:swapsWithSole [a] e pos.line X.env=pure false:=by rfl) (hw:swappedStores [a] e X.env=pure none:=by rfl)
  (h1:(assignEach [a] X.env).map (·.2)=[assign a X.env]:=by rfl):PS X (.Assign [a] e pos) (tAsg te g):=by
 intro b s σ H D I h;refine wpAny_Assign_stores (thn (he b s σ H _ I h) λv s1 ⟨x,j,d,r1,c⟩=>?_) f hw;rw[h1];exact thn (i b s1 σ j x v _ d r1 c) λ_ k q=>q
def dX{i:Nat}{x:Str}{e:Expr}{te:TE}{a:Pos}(f:X.N.Nodup)(g:X.N[i]? =some x)(b:Loc X.env.scope x)(he:PE X e te)(k:swapsWith e (some (.Name x a)) pos.line X.env=pure false:=by rfl)(m:X.fn x=true\/X.env.scope.names.lookup x=some .local:=by first | exact .inl rfl | exact .inr rfl | assumption):
  PS X (.Assign [.Name x a] e pos) (tAsg te (gName i)):=by
 intro d s σ H D I h;refine wpAny_Assign_Name (thn (he d s σ H _ I h) λv s1 ⟨y,l,j,r1,c⟩=>?_) k;exact Ah j f g b r1 (λo n=>⟨_,l,n,c⟩) m
end
section
variable{X:Cx}{pos:Pos}
def Aj(c:TT)(g:TS):TS:=λD σ H=>∃ W:Nat->St->Hp->Prop,(∃ m,W m σ H)/\∀ m σ H,W m σ H->
 c σ H λb e=>if b=true then ∃ N:St->Hp->Prop,(∀ f a,N f a->∃ d,d<m/\W d f a)/\g {D with nx:=N,ct:=N,bk:=D.nx} σ e else D.nx σ e
theorem Ak{c:Expr}{a:List Stmt}{u:TT}{x:TS}(z:PassesOwn (model X.prog X.w) X.A X.env X.xe)(P:PT X c u)(M:PSs X a x):PS X (.While c a [] pos) (Aj u x):=by
 intro q s σ H D I h;obtain⟨W,⟨K,J⟩,g⟩:=h;refine wpAny_While (codeAny_whileLoop (λn Q=>∃ F B,Inv X q F B Q/\W n F B) ?_ K ⟨σ,H,I,J⟩);rintro n s1 ⟨k,E,G,O⟩;refine Pu z (thn (P q s1 k E _ G (g n k E O)) λb L ⟨C,y,j⟩=>?_)
 cases b with
 | true=>
  obtain⟨N,t,j⟩:=j;rw[Os rfl];refine Pu z (thn (M q L k C _ y j) λf R i=>?_)
  cases f with
  | next=>
   obtain⟨e,d,p,r⟩:=i;obtain⟨l,o,m⟩:=t e d r;exact⟨l,o,e,d,p,m⟩
  | cont=>
   obtain⟨e,d,p,r⟩:=i;obtain⟨l,o,m⟩:=t e d r;exact⟨l,o,e,d,p,m⟩
  | brk=>exact i
  | ret v=>exact i
 | false=>
  rw[Og NV];exact Qn ⟨k,C,y,j⟩
end
structure It where
 go:Nat->Hp->Prop
 yld:Nat->Hp->V->Hp->Prop
 stop:Nat->Hp->Prop
def FpOk(X:Cx)(a:List (Addr × Obj))(H:Hp)(b:Addr):Prop:=
 H b=none/\b≠X.env.locals/\b∉X.fs/\(b∈X.ex\/X.s₀.heap.objs.size<=b)/\(∀ x c,X.env.cells.lookup x=some c->c≠b)/\∀ p∈X.pn++a,p.1≠b
variable{s:Shared}
theorem Inv.fpOk{d:List (Addr × Obj)}{σ:St}{H f:Hp}{b:Addr}(I:Inv X d σ H s)(a:s.heap.objs.size<=b)(g:f b=none):FpOk X d f b:=by
 refine⟨g,Qy (Ox I.lt a),I.nofs a,.inr (NY I.sz a),λx c e z=>?_,λp h z=>?_⟩
 . obtain⟨v,q⟩:=I.cell x c e;exact absurd (Ox q.lt (by rw[z];exact a)) (O0 _)
 . exact absurd (Ox (Oh (I.pin p h).1) (by rw[z];exact a)) (O0 _)
structure Turn(P:Program)(w:World)(K:Frag)(tg:Expr)(J:It)(fp:List Addr)(it:Addr)(tn:Nat->Heap->Prop):Prop where
 mem:it∈fp
 obj:∀ i h,tn i h->∀ b∈fp,∃ o,h.get? b=some o/\∀ v,o.data≠.cell v
 keep:∀ i h h',tn i h->(∀ b∈fp,∀ o,h.get? b=some o->h'.get? b=some o)->tn i h'
 item:∀(X:Cx),X.prog=P->X.w=w->X.K=K->X.calm=true->∀(i:Nat) (NB:List (Addr × Obj)) (s:Shared) (σ:St) (H:Hp) (E:Value->Shared->Prop),Inv X NB σ H s->(∀ b∈fp,FpOk X NB H b)->tn i s.heap->J.go i H->
  wpAny (model P w) X.A (pyNext (.ref it)) (λr s1=>∃ u,r=some u/\
   wpAny (model P w) X.A (letOwnedTupleGo tg (.ref it) u) (λ_ s2=>∃ x H',Inv X NB σ H' s2/\RelV x u/\J.yld i H x H'/\tn (i+1) s2.heap/\∀ b∈fp,H' b=none) E s1) E s
 done:∀(X:Cx),X.prog=P->X.w=w->X.K=K->X.calm=true->∀(i:Nat) (NB:List (Addr × Obj)) (s:Shared) (σ:St) (H:Hp) (E:Value->Shared->Prop),Inv X NB σ H s->(∀ b∈fp,FpOk X NB H b)->tn i s.heap->J.stop i H->
  wpAny (model P w) X.A (pyNext (.ref it)) (λr s1=>r=none/\Inv X NB σ H s1) E s
 self:∀(A:Around) (i:Nat) (s:Shared) (Q:Value->Shared->Prop) (E:Value->Shared->Prop),tn i s.heap->Q (.ref it) s->wpAny (model P w) A (pyIter (.ref it)) Q E s
abbrev TI:=St->Hp->(It->Hp->Prop)->Prop
def PIE(X:Cx)(d:List (Addr × Obj))(σ:St)(i:Expr)(R:It->Hp->Prop)(c:Value)(g:Shared):Prop:=
 ∃(e:Addr) (h:List Addr) (f:Nat->Heap->Prop) (J:It) (a:Hp),c=.ref e/\Inv X d σ a g/\Turn X.prog X.w X.K i J h e f/\f 0 g.heap/\(∀ b∈h,FpOk X d a b)/\R J a
def PI(X:Cx)(d a:Expr)(c:TI):Prop:=
 ∀(b:List (Addr × Obj)) (s:Shared) (σ:St) (H:Hp) (R:It->Hp->Prop),Inv X b σ H s->c σ H R->
  wpAny (model X.prog X.w) X.A (eval a X.env) (λv s1=>wpAny (model X.prog X.w) X.A (pyIter v) (PIE X b σ d R) X.xe s1) X.xe s
variable{tg:Expr}
theorem vC {M:Model} {A:Around} {it:Addr} {o:Obj} {n:String} {vs:Array Value} {Q:Unit->Shared->Prop} (e:s.heap.get? it=some o) (d:o.cls=.type n) (c:o.data=.fields vs)
  (b:["enumerate","zip","dict_itemiterator","dict_reverseitemiterator","odict_iterator","itertools.zip_longest","itertools.pairwise"].contains n=false) (a:Q () s):wpAny M A (letOwnedTupleGo tg (.ref it) u) Q E s:=by
 unfold letOwnedTupleGo
 cases tg <;> first
  | exact OC a
  | (cases u <;> first
    | exact OC a
    | (refine N7 (wpAny_load e ?_)
       rw[d,c];show wpAny M A (if (["enumerate","zip","dict_itemiterator","dict_reverseitemiterator","odict_iterator","itertools.zip_longest","itertools.pairwise"].contains n&&vs[0]? ==some (rawInt _))=true then _ else _) Q E s;rw[Og (by intro h;rw[b,Oc]at h;cases h)];exact OC a))
def Itl(K:Frag)(a:Addr):It:=
 ⟨λi H=>∃ b x,SqL K H a b/\b[i]? =some x,λi H x c=>c=H/\∀ b,SqL K H a b->b[i]? =some x,λi H=>∃ b,SqL K H a b/\b.length<=i⟩
def Itt(K:Frag)(a:Addr):It:=
 ⟨λi H=>∃ b x,SqT K H a b/\b[i]? =some x,λi H x c=>c=H/\∀ b,SqT K H a b->b[i]? =some x,λi H=>∃ b,SqT K H a b/\b.length<=i⟩
def Itr(a:Int)(n:Nat):It:=⟨λi _=>i<n,λi H x b=>b=H/\x=.int (a+i),λi _=>n<=i⟩
variable{P:Program}{w:World}{K:Frag}
def Er(a it:Addr):Turn P w K tg (Itl K a) [it] it (λi h=>h.IsListIter it a i) where
 mem:=by simp
 obj:=λi h f b g=>by
  have e:b=it:=by simpa using g
  subst e;obtain⟨o,e,c,d⟩:=f;exact⟨o,e,λv z=>by rw[d]at z;cases z⟩
 keep:=λi h m f k=>f.at λo e=>k it (by simp) o e
 item:=by
  intro X A hw q L i J s σ H E I n f G;subst A hw q;obtain⟨S,x,l,D⟩:=G;obtain⟨T,y,p,U⟩:=I.list l;obtain⟨u,O,R⟩:=y.get D;obtain⟨r,B,Q,t,C,F⟩:=n it (by simp);refine wpAny_pyNext_list_item f p.isList (x:=u) (by simpa using O) λm j Y=>?_;have M:Inv X J σ H {s with heap:=m}:=I.turned (t':=s.toks) (λb o g e=>(Y.2 b g).trans e) r B t C F;obtain⟨o,e,c,d⟩:=id j;exact⟨u,rfl,vC (s:={s with heap:=m}) e c d #[1] ⟨x,H,M,R,⟨rfl,λys W=>by rw[I.list_inj W l];exact D⟩,j,λb g=>(n b g).1⟩⟩
 done:=by
  intro X A hw q L i J s σ H E I n f G;subst A hw q;obtain⟨S,l,D⟩:=G;obtain⟨T,y,p,U⟩:=I.list l;obtain⟨r,B,Q,t,C,F⟩:=n it (by simp);have Z:=y.length;exact wpAny_pyNext_list_end (I.ok.hd L) f p.isList (by simp;omega) λm N=>⟨rfl,I.turned (t':=s.toks) (λb o g e=>N b o g e) r B t C F⟩
 self:=λ_ _ _ _ _ f h=>wpAny_pyIter_listiter f h
def Df(a it:Addr):Turn P w K tg (Itt K a) [it] it (λi h=>h.IsTupleIter it a i) where
 mem:=by simp
 obj:=λi h f b g=>by
  have e:b=it:=by simpa using g
  subst e;obtain⟨o,e,c,d⟩:=f;exact⟨o,e,λv z=>by rw[d]at z;cases z⟩
 keep:=λi h m f k=>f.at λo e=>k it (by simp) o e
 item:=by
  intro X A hw q M i L s σ H E I n f J;subst A hw q;obtain⟨T,x,l,F⟩:=J;obtain⟨C,y,p,U⟩:=I.tuple l;obtain⟨u,Q,S⟩:=y.get F;obtain⟨r,B,R,t,D,G⟩:=n it (by simp);refine wpAny_pyNext_tuple_item f (show s.heap.IsTuple a C.toArray from p) (x:=u) (by simpa using Q) λm j Y=>?_;have N:Inv X L σ H {s with heap:=m}:=I.turned (t':=s.toks) (λb o g e=>(Y.2 b g).trans e) r B t D G;obtain⟨o,e,c,d⟩:=id j;exact⟨u,rfl,vC (s:={s with heap:=m}) e c d #[1] ⟨x,H,N,S,⟨rfl,λys W=>by rw[I.tuple_inj W l];exact F⟩,j,λb g=>(n b g).1⟩⟩
 done:=by
  intro X A hw q M i L s σ H E I n f J;subst A hw q;obtain⟨T,l,F⟩:=J;obtain⟨C,y,p,U⟩:=I.tuple l;obtain⟨r,B,R,t,D,G⟩:=n it (by simp);have Z:=y.length;exact wpAny_pyNext_tuple_end (I.ok.hd M) f (show s.heap.IsTuple a C.toArray from p) (by simp;omega) λm O=>⟨rfl,I.turned (t':=s.toks) (λb o g e=>O b o g e) r B t D G⟩
 self:=λ_ _ _ _ _ f h=>wpAny_pyIter_tupleiter f h
def Dg(it:Addr)(g:Int)(n:Nat):Turn P w K tg (Itr g n) [it] it (λi h=>IsRangeIter h it (g+(i:Nat)*1) ((n:Int) - (i:Nat)) 1) where
 mem:=by simp
 obj:=λi h a b c=>by
  have e:b=it:=by simpa using c
  subst e
  exact⟨_,a,λv z=>by
   have J:Data.fields _=Data.cell v:=z;cases J⟩
 keep:=λi h f a k=>k it (by simp) _ a
 item:=by
  intro X q hw l A i C s σ H E I j a y;subst q hw l;obtain⟨m,r,G,p,u,x⟩:=j it (by simp);have W:=Walks.range (prog:=X.prog) (w:=X.w) (I.ok.hd A) it g 1 n;refine W.item i s _ _ y a λv f B M d L=>?_;obtain⟨t,rfl⟩:=M;have D:Inv X C σ H {s with heap:=f,toks:=B}:=I.turned (λb o c e=>L b o (by simpa using c) e) m r p u x;refine⟨_,rfl,vC (s:={s with heap:=f,toks:=B}) (n:="range_iterator") d rfl rfl #[1] ⟨.int (g+i),H,D,⟨t,?_⟩,⟨rfl,rfl⟩,d,λb c=>(j b c).1⟩⟩;rw[Int.mul_one]
 done:=by
  intro X q hw l A i C s σ H E I j a y;subst q hw l;obtain⟨m,r,G,p,u,x⟩:=j it (by simp);exact wpAny_pyNext_range_end (I.ok.hd A) a (by have:n<=i:=y;omega) λf F=>⟨rfl,I.turned (t':=s.toks) (λb o c e=>F b o c e) m r p u x⟩
 self:=λ_ _ _ _ _ a h=>wpAny_pyIter_rangeiter a h
section
variable{X:Cx}{tg:Expr}
def iList(K:Frag)(d:TE):TI:=λσ H R=>d σ H λx b=>∃ a,x=.ref a/\(∃ c,SqL K b a c)/\R (Itl K a) b
def iTup(K:Frag)(d:TE):TI:=λσ H R=>d σ H λx b=>∃ a,x=.ref a/\(∃ c,SqT K b a c)/\R (Itt K a) b
theorem ar{l:Expr}{d:TE}(i:PE X l d):PI X tg l (iList X.K d):=by
 intro g s σ H R I h;refine thn (i g s σ H _ I h) λv s1 ⟨x,m,c,r1,f⟩=>?_;obtain⟨a,e,⟨n,j⟩,q⟩:=f;subst e;cases r1;obtain⟨r,u,p,t⟩:=c.list j;refine PP p.isList ?_;refine⟨s1.heap.objs.size,[s1.heap.objs.size],_,_,m,rfl,c.kept (t':=s1.toks) λb o e=>N0 _ e,Er a _,⟨_,Oq _ rfl,rfl,rfl⟩,λb k=>?_,q⟩;have e:b=s1.heap.objs.size:=by simpa using k
 subst e;exact c.fpOk (NZ _) (c.hok.fresh (NZ _))
theorem Al{l:Expr}{d:TE}(i:PE X l d):PI X tg l (iTup X.K d):=by
 intro g s σ H R I h;refine thn (i g s σ H _ I h) λv s1 ⟨x,n,c,r1,f⟩=>?_;obtain⟨a,e,⟨r,j⟩,q⟩:=f;subst e;cases r1;obtain⟨k,u,p,t⟩:=c.tuple j;refine wpAny_pyIter_tuple (show s1.heap.IsTuple a k.toArray from p) ?_;refine⟨s1.heap.objs.size,[s1.heap.objs.size],_,_,n,rfl,c.kept (t':=s1.toks) λb o e=>N0 _ e,Df a _,⟨_,Oq _ rfl,rfl,rfl⟩,λb m=>?_,q⟩;have e:b=s1.heap.objs.size:=by simpa using m
 subst e;exact c.fpOk (NZ _) (c.hok.fresh (NZ _))
theorem Am {d:List (Addr × Obj)} {σ:St} {H:Hp} {s:Shared} {R:It->Hp->Prop} {E:Value->Shared->Prop} {a c:Int} {t u v:Tok} {g:Nat} (I:Inv X d σ H s) (h1: -(2^62)<=a) (h2:a<2^62) (h3: -(2^62)<=c) (h4:c<2^62)
  (q:R (Itr a (c-a).toNat) H):wpAny (model X.prog X.w) X.A (pyIter (.ref s.heap.objs.size)) (PIE X d σ tg R) E {s with heap:=s.heap.push {cls:=.type "range",data:=.fields #[.int a t,.int c u,.int 1 v]},toks:=g}:=by
 refine wpAny_pyIter_range (IsRange.new ..) (small_one h1 h2 h3 h4) ?_;have f:Inv X d σ H {s with heap:=s.heap.push {cls:=.type "range",data:=.fields #[.int a t,.int c u,.int 1 v]},toks:=g}:=I.kept λb o e=>N0 _ e
 refine⟨(s.heap.push {cls:=.type "range",data:=.fields #[.int a t,.int c u,.int 1 v]}).objs.size,[(s.heap.push {cls:=.type "range",data:=.fields #[.int a t,.int c u,.int 1 v]}).objs.size],_,_,H,rfl,
  f.kept (t':=g) λb o e=>N0 _ e,Dg _ a (c-a).toNat,?_,λb h=>?_,q⟩
 . have e1:a+((0:Nat):Int)*1=a:=by simp
   have e2:(((c-a).toNat:Nat):Int) - ((0:Nat):Int)=Builtin.Range.rangeSize a c 1:=by rw[rangeSize_one];split <;> lia
   show IsRangeIter _ _ (a+((0:Nat):Int)*1) ((((c-a).toNat:Nat):Int) - ((0:Nat):Int)) 1;rw[e1,e2];exact Oq _ rfl
 . have e:b=(s.heap.push {cls:=.type "range",data:=.fields #[.int a t,.int c u,.int 1 v]}).objs.size:=by simpa using h
   subst e;exact f.fpOk (NZ _) (f.hok.fresh (NZ _))
def jc(b:TA):TI:=λσ H R=>b σ H λvs a=>∃ j:Int,vs=[.int j]/\ -(2^62)<=j/\j<2^62/\R (Itr 0 j.toNat) a
def tN(b:TA):TI:=λσ H R=>b σ H λvs a=>∃ i j:Int,vs=[.int i,.int j]/\(-(2^62)<=i/\i<2^62/\ -(2^62)<=j/\j<2^62)/\R (Itr i (j-i).toNat) a
theorem gx{a:Expr}{c:TA}{p pos:Pos}(m:Gl X "range")(g:X.mg "range"=none)(f:PA X [a] c)(l:starEach [a] X.env=[(false,eval a X.env)]:=by rfl):PI X tg (.Call (.Name "range" p) [a] [] pos) (jc c):=by
 intro d s σ H R I h;refine Call_ (fm I m g boot_range (OJ (thn (f pos d s σ H _ I h) λu s1 ⟨vs,o,i,r1,b⟩=>?_) l rfl));obtain⟨j,e,b,k,q⟩:=b;subst e
 cases r1 with
 | cons r n=>
  cases n;obtain⟨t,rfl⟩:=r;exact call_range_1 (Am i #[4] #[4] b k (by simpa using q))
theorem yD{a b:Expr}{g:TA}{p pos:Pos}(x:Gl X "range")(u:X.mg "range"=none)(l:PA X [a,b] g)(v:starEach [a,b] X.env=[(false,eval a X.env),(false,eval b X.env)]:=by rfl)(c:starEach [b] X.env=[(false,eval b X.env)]:=by rfl):
  PI X tg (.Call (.Name "range" p) [a,b] [] pos) (tN g):=by
 intro k s σ H R I h;refine Call_ (fm I x u boot_range (OJ (thn (l pos k s σ H _ I h) λB s1 ⟨vs,A,n,r1,d⟩=>?_) (by rw[v,c]) (by rw[c];rfl)));obtain⟨i,j,e,⟨d,o,m,y⟩,q⟩:=d;subst e
 cases r1 with
 | cons r f=>
  cases f with
  | cons w f=>
   cases f;obtain⟨t,rfl⟩:=r;obtain⟨z,rfl⟩:=w;exact call_range_2 (Am n d o m y q)
def tFor(h:TI)(g:TG)(d:TS):TS:=λD σ H=>h σ H λJ j=>∃ W:Nat->Nat->St->Hp->Prop,(∃ m,W 0 m σ j)/\∀ i m σ H,W i m σ H->
 (J.stop i H/\D.nx σ H)\/(J.go i H/\∃ N:St->Hp->Prop,(∀ c a,N c a->∃ b,b<m/\W (i+1) b c a)/\∀ x a,J.yld i H x a->g x σ a λe f=>d {D with nx:=N,ct:=N,bk:=D.nx} e f)
def rF(fp:List Addr)(h:Heap):List (Addr × Obj):=fp.filterMap λb=>(h.get? b).map λo=>(b,o)
def lR{fp:List Addr}{h:Heap}{b:Addr}{o:Obj}(a:b∈fp)(e:h.get? b=some o):(b,o)∈rF fp h:=P8.mpr ⟨b,a,by rw[e];rfl⟩
theorem Es{fp:List Addr}{h:Heap}{p:Addr × Obj}(d:p∈rF fp h):p.1∈fp/\h.get? p.1=some p.2:=by
 obtain⟨b,c,e⟩:=P8.mp d
 cases q:h.get? b with
 | none=>rw[q]at e;cases e
 | some o=>
  rw[q]at e;have a:(b,o)=p:=Pi e;subst a;exact⟨c,q⟩
def Inv.pinned{a:List (Addr × Obj)}{σ:St}{H:Hp}{s:Shared}{fp:List Addr}(I:Inv X a σ H s)(k:∀ b∈fp,FpOk X a H b)(l:∀ b∈fp,∃ o,s.heap.get? b=some o/\∀ v,o.data≠.cell v):Inv X (a++rF fp s.heap) σ H s:=
 I.pins_of λp i=>(Of.mp i).elim (λz=>I.pin p (OG _ z)) λz=>by
  obtain⟨f,e⟩:=Es z;obtain⟨h,g,j,_⟩:=k p.1 f;obtain⟨o,c,d⟩:=l p.1 f;rw[e]at c;cases c;exact⟨e,h,g,j,d⟩
def Inv.unpinned{a pl:List (Addr × Obj)}{σ:St}{H:Hp}{s:Shared}(I:Inv X (a++pl) σ H s):Inv X a σ H s:=I.pins_of λp b=>I.pin p (OG _ (Py _ b))
theorem bf {a:Expr} {z:List Stmt} {wi:TI} {g:TG} {tb:TS} {pos:Pos} (M:PassesOwn (model X.prog X.w) X.A X.env X.xe) (hc:X.calm=true) (hi:PI X tg a wi) (hg:PG X tg g) (l:PSs X z tb)
  (hs:∀ x,foldedSetIterable a X.env x=pure x:=by intro _;rfl):PS X (.For tg a z [] pos) (tFor wi g tb):=by
 intro B s σ H D I h;refine wpAny_For (thn (hi B s σ H _ I h) λv s1 h1=>thn h1 λac s2 h2=>?_) hs;obtain⟨it,O,tn,J,H2,e,I2,T,aa,f2,W,⟨m0,w0⟩,E⟩:=h2;subst e;have j:∀{t:Hp},(∀ b∈O,t b=none)->∀ b∈O,FpOk X B t b:=λhn b l=>⟨hn b l,(f2 b l).2⟩;refine codeAny_forLoop_any (λn s'=>∃ i R t,Inv X B R t s'/\tn i s'.heap/\(∀ b∈O,t b=none)/\W i n R t) ?_ m0 ⟨0,σ,H2,I2,aa,λb l=>(f2 b l).1,w0⟩;rintro n s3 ⟨i,Q,S,I3,F,L,w3⟩;rcases E i n Q S w3 with ⟨G,qn⟩ | ⟨go,N,hN,K⟩
 . refine Pu M (thn (T.done X rfl rfl rfl hc i B s3 Q S X.xe I3 (j L) F G) λr s4 ⟨Y,I4⟩=>?_);subst Y;exact Qn ⟨Q,S,I4,qn⟩
 . refine Pu M (thn (T.item X rfl rfl rfl hc i B s3 Q S X.xe I3 (j L) F go) λr s4 ⟨u,Y,h4⟩=>?_);subst Y;refine Pu M (thn h4 λ_ s5 ⟨x,H5,I5,r5,y5,C,ab⟩=>?_);have U:=I5.pinned (j ab) (T.obj _ _ C);refine Pu M (thn (hg _ s5 Q H5 x u _ U r5 (K x H5 y5)) λ_ s6 ⟨σ6,H6,I6,q6⟩=>?_);refine Pu M (thn (l _ s6 σ6 H6 _ I6 q6) λf Z y=>?_)
   have k:∀{q:St} {p:Hp},Inv X (B++rF O s5.heap) q p Z->N q p->∃ m,m<n/\∃ i R t,Inv X B R t Z/\tn i Z.heap/\(∀ b∈O,t b=none)/\W i m R t:=λ{q p} c P=>by
    obtain⟨m',hm,w7⟩:=hN q p P;refine⟨m',hm,i+1,q,p,c.unpinned,T.keep _ _ _ C λb l o e=>(c.pin (b,o) (OG _ (OG _ (lR l e)))).1,λb l=>?_,w7⟩;obtain⟨o,e,d⟩:=T.obj _ _ C b l;exact(c.pin (b,o) (OG _ (OG _ (lR l e)))).2.1
   cases f with
   | next=>obtain⟨q,p,c,P⟩:=y;exact k c P
   | cont=>obtain⟨q,p,c,P⟩:=y;exact k c P
   | brk=>obtain⟨q,p,c,y⟩:=y;exact⟨q,p,c.unpinned,y⟩
   | ret v=>obtain⟨x7,q,p,c,r7,y⟩:=y;exact⟨x7,q,p,c.unpinned,r7,y⟩
end
theorem bc {K:Frag} {a:Addr} {xs:List V} {g:TG} {k:TS} {D:Ends} {σ:St} {H:Hp} (b:Nat->St->Hp->Prop) (h0:b 0 σ H) (n:∀ i σ H,i<=xs.length->b i σ H->SqL K H a xs)
  (r:∀ i x σ H,xs[i]? =some x->b i σ H->g x σ H λf h=>k {D with nx:=b (i+1),ct:=b (i+1),bk:=D.nx} f h) (s:∀ σ H,b xs.length σ H->D.nx σ H):
  ∃ W:Nat->Nat->St->Hp->Prop,(∃ m,W 0 m σ H)/\∀ i m σ H,W i m σ H->
   ((Itl K a).stop i H/\D.nx σ H)\/((Itl K a).go i H/\∃ N:St->Hp->Prop,(∀ j c,N j c->∃ m',m'<m/\W (i+1) m' j c)/\∀ x c,(Itl K a).yld i H x c->g x σ c λf h=>k {D with nx:=N,ct:=N,bk:=D.nx} f h):=by
 refine⟨λi m σ H=>m=xs.length-i/\i<=xs.length/\b i σ H,⟨xs.length,by simp,OP _,h0⟩,?_⟩;rintro i m σ H ⟨rfl,l,p⟩;have q:=n i σ H l p;by_cases d:i<xs.length
 . refine .inr ⟨⟨xs,xs[i],q,by simp[d]⟩,b (i+1),λj c o=>⟨xs.length - (i+1),by lia,rfl,d,o⟩,λx c y=>?_⟩;obtain⟨e,y⟩:=y;subst e;exact r i x σ _ (y xs q) p
 . have e:i=xs.length:=by lia
   subst e;exact .inl ⟨⟨xs,q,NZ _⟩,s σ H p⟩
theorem no {d:Int} {n:Nat} {g:TG} {k:TS} {D:Ends} {σ:St} {H:Hp} (a:Nat->St->Hp->Prop) (h0:a 0 σ H)
  (o:∀ i σ H,i<n->a i σ H->g (.int (d+i)) σ H λf h=>k {D with nx:=a (i+1),ct:=a (i+1),bk:=D.nx} f h) (q:∀ σ H,a n σ H->D.nx σ H):
  ∃ W:Nat->Nat->St->Hp->Prop,(∃ m,W 0 m σ H)/\∀ i m σ H,W i m σ H->
   ((Itr d n).stop i H/\D.nx σ H)\/((Itr d n).go i H/\∃ N:St->Hp->Prop,(∀ j c,N j c->∃ m',m'<m/\W (i+1) m' j c)/\∀ x c,(Itr d n).yld i H x c->g x σ c λf h=>k {D with nx:=N,ct:=N,bk:=D.nx} f h):=by
 refine⟨λi m σ H=>m=n-i/\i<=n/\a i σ H,⟨n,by simp,OP _,h0⟩,?_⟩;rintro i m σ H ⟨rfl,r,p⟩;by_cases b:i<n
 . refine .inr ⟨b,a (i+1),λj c l=>⟨n - (i+1),by lia,rfl,b,l⟩,λx c y=>?_⟩;obtain⟨e,y⟩:=y;subst e y;exact o i σ _ b p
 . have e:i=n:=by lia
   subst e;exact .inl ⟨NZ _,q σ H p⟩
abbrev R2:=V->V->Hp->VK->Prop
def OpR(X:Cx)(f:Value->Value->Sem Value)(r:R2):Prop:=
 ∀(a:List (Addr × Obj)) (s:Shared) (σ:St) (H:Hp) (x y:V) (v u:Value) (Q:VK),Inv X a σ H s->RelV x v->RelV y u->r x y H Q->
  wpAny (model X.prog X.w) X.A (f v u) (EP X a σ Q) X.xe s
def UnR(X:Cx)(f:Value->Sem Value)(r:V->Hp->VK->Prop):Prop:=
 ∀(a:List (Addr × Obj)) (s:Shared) (σ:St) (H:Hp) (x:V) (v:Value) (Q:VK),Inv X a σ H s->RelV x v->r x H Q->
  wpAny (model X.prog X.w) X.A (f v) (EP X a σ Q) X.xe s
def CallR(X:Cx)(f:Value)(r:List V->Hp->VK->Prop):Prop:=
 ∀(b:List (Addr × Obj)) (s:Shared) (σ:St) (H:Hp) (a:List V) (c:List Value) (Q:VK),Inv X b σ H s->Vals a c->r a H Q->
  wpAny (model X.prog X.w) X.A (call f c) (EP X b σ Q) X.xe s
def tOp(r:R2)(d a:TE):TE:=λσ H Q=>d σ H λx b=>a σ b λy c=>r x y c Q
def tUn(r:V->Hp->VK->Prop)(b:TE):TE:=λσ H Q=>b σ H λx a=>r x a Q
def rI(C:Int->Int->Prop)(g:Int->Int->V):R2:=λx y H Q=>∃ i j,x=.int i/\y=.int j/\C i j/\Q (g i j) H
def rI0(g:Int->Int->V):R2:=λx y H Q=>∃ i j,x=.int i/\y=.int j/\Q (g i j) H
def rU(g:Int->V):V->Hp->VK->Prop:=λx H Q=>∃ i,x=.int i/\Q (g i) H
section
variable{X:Cx}{a b c:Expr}{ta tb tc:TE}{pos:Pos}
theorem binT (l:PE X a ta) (p:PE X b tb) {d:List (Addr × Obj)} {s:Shared} {σ:St} {H:Hp} {R:V->V->Hp->Prop} (I:Inv X d σ H s)
  (h:ta σ H λx g=>tb σ g λy c=>R x y c) {Q:Value->Shared->Prop} {f:Value->Value->Sem Value}
  (q:∀ v u e x y c,Inv X d σ c e->RelV x v->RelV y u->R x y c->wpAny (model X.prog X.w) X.A (f v u) Q X.xe e):
  wpAny (model X.prog X.w) X.A (eval a X.env) (λv o=>wpAny (model X.prog X.w) X.A (eval b X.env) (λu k=>wpAny (model X.prog X.w) X.A (f v u) Q X.xe k) X.xe o) X.xe s:=by
 refine thn (l d s σ H _ I h) λv s1 ⟨x,g,m,r1,i⟩=>?_;refine thn (p d s1 σ g _ m i) λu e ⟨y,c,r,j,n⟩=>?_;exact q v u e x y c r r1 j n
theorem au{c:Operator}{r:R2}(m:OpR X (binaryOp c) r)(i:PE X a ta)(k:PE X b tb):PE X (.BinOp a c b pos) (tOp r ta tb):=by
 intro f s σ H Q I h;exact wpAny_BinOp (binT i k I h λv u j x y e l d g q=>m f j σ e x y v u Q l d g q)
theorem G0{c:UnaryOp}{r:V->Hp->VK->Prop}(i:UnR X (unaryOp c) r)(e:PE X a ta):PE X (.UnaryOp c a pos) (tUn r ta):=by
 intro b s σ H Q I h;exact UnaryOp_ (thn (e b s σ H _ I h) λv s1 ⟨x,g,f,r1,d⟩=>i b s1 σ g x v Q f r1 d)
theorem opI {f:Value->Value->Sem Value} {C:Int->Int->Prop} {g:Int->Int->Int}
  (a:∀(i j:Int) (t u:Tok) (s:Shared) (Q:Value->Shared->Prop) (E:Value->Shared->Prop),C i j->Q (.int (g i j) s.toks) {s with toks:=s.toks+1}->wpAny (model X.prog X.w) X.A (f (.int i t) (.int j u)) Q E s):
  OpR X f (rI C λi j=>.int (g i j)):=by
 intro k s σ H x y v u Q I c e h;obtain⟨i,j,rfl,rfl,d,q⟩:=h;obtain⟨t,rfl⟩:=c;obtain⟨b,rfl⟩:=e;exact a i j t b s _ _ d ⟨.int (g i j),H,I.tok _,⟨_,rfl⟩,q⟩
theorem Gb {f:Value->Value->Sem Value} {g:Int->Int->Int}
  (a:∀(i j:Int) (t u:Tok) (s:Shared) (Q:Value->Shared->Prop) (E:Value->Shared->Prop),Q (.int (g i j) s.toks) {s with toks:=s.toks+1}->wpAny (model X.prog X.w) X.A (f (.int i t) (.int j u)) Q E s):
  OpR X f (rI0 λi j=>.int (g i j)):=by
 intro e s σ H x y v u Q I c d h;obtain⟨i,j,rfl,rfl,q⟩:=h;obtain⟨t,rfl⟩:=c;obtain⟨b,rfl⟩:=d;exact a i j t b s _ _ ⟨.int (g i j),H,I.tok _,⟨_,rfl⟩,q⟩
theorem Dh {f:Value->Value->Sem Value} {g:Int->Int->Bool}
  (a:∀(i j:Int) (t u:Tok) (s:Shared) (Q:Value->Shared->Prop) (E:Value->Shared->Prop),Q (.bool (g i j)) s->wpAny (model X.prog X.w) X.A (f (.int i t) (.int j u)) Q E s):
  OpR X f (rI0 λi j=>.bl (g i j)):=by
 intro e s σ H x y v u Q I c d h;obtain⟨i,j,rfl,rfl,q⟩:=h;obtain⟨t,rfl⟩:=c;obtain⟨b,rfl⟩:=d;exact a i j t b s _ _ ⟨.bl (g i j),H,I,rfl,q⟩
def CDiv(i j:Int):Prop:=0<j/\j<1073741824
def CPow(i j:Int):Prop:=0<=j/\j<=1000000/\i.natAbs<2^64
def CMul(i j:Int):Prop:=(-(2^64)<i/\i<2^64)\/(-(2^64)<j/\j<2^64)
theorem CMul.ok{i j:Int}(h:CMul i j):IntMulOk i j:=by
 rcases h with ⟨h1,h2⟩ | ⟨h1,h2⟩
 . exact .of_left (intBits_le_64 h1 h2)
 . exact .of_right (intBits_le_64 h1 h2)
theorem Di(k:Nat):(0:Int)<=2^k:=by
 rw[two_pow_cast];exact Int.natCast_nonneg _
def IH:OpR X (binaryOp .Add) (rI0 λi j=>.int (i+j)):=Gb λ_ _ _ _ _ _ _ q=>add_int q
def II:OpR X (binaryOp .Sub) (rI0 λi j=>.int (i-j)):=Gb λ_ _ _ _ _ _ _ q=>sub_int q
def IJ:OpR X (binaryOp .Mult) (rI CMul λi j=>.int (i*j)):=opI λ_ _ _ _ _ _ _ a q=>mul_int q a.ok
def Hi:OpR X (binaryOp .FloorDiv) (rI CDiv λi j=>.int (i/j)):=opI λi j _ _ _ _ _ a q=>by
 have h1:(0:Int)<j:=a.1;have h2:j<1073741824:=a.2;exact floordiv_int #[0] (by rw[QD i #[0]];exact q) (.inl (PyProof.noPylong_small #[0]))
def IK:OpR X (binaryOp .Mod) (rI (λ_ j=>0<j) λi j=>.int (i%j)):=opI λi j _ _ _ _ _ a q=>by
 have h1:(0:Int)<j:=a;exact mod_int' #[0] (by rw[Int.fmod_eq_emod_of_nonneg i #[0]];exact q)
def IL:OpR X (binaryOp .RShift) (rI (λ_ j=>0<=j) λi j=>.int (i/2^j.toNat)):=opI λi j _ _ _ _ _ a q=>
 rshift_int a (by rw[QD i (Di _)];exact q)
def JR:OpR X (binaryOp .BitOr) (rI0 λi j=>.int (Builtin.bitOr i j)):=Gb λ_ _ _ _ _ _ _ q=>or_int q
theorem unI {f:Value->Sem Value} {g:Int->Int}
  (a:∀(i:Int) (t:Tok) (s:Shared) (Q:Value->Shared->Prop) (E:Value->Shared->Prop),Q (.int (g i) s.toks) {s with toks:=s.toks+1}->wpAny (model X.prog X.w) X.A (f (.int i t)) Q E s):
  UnR X f (rU λi=>.int (g i)):=by
 intro c s σ H x v Q I b h;obtain⟨i,rfl,q⟩:=h;obtain⟨t,rfl⟩:=b;exact a i t s _ _ ⟨.int (g i),H,I.tok _,⟨_,rfl⟩,q⟩
def Et:UnR X (unaryOp .USub) (rU λi=>.int (-i)):=unI λ_ _ _ _ _ q=>neg_int q
end
def scal:V->V->Bool
 | .non,.non=>true | .non,.int _=>true | .int _,.non=>true | .non,.bl _=>true | .bl _,.non=>true | .non,.str _=>true | .str _,.non=>true
 | .int _,.int _=>true | .bl _,.bl _=>true | .str _,.str _=>true | .byt _,.byt _=>true
 | .int _,.str _=>true | .str _,.int _=>true | .bl _,.str _=>true | .str _,.bl _=>true
 | _,_=>false
def rEq:R2:=λx y H Q=>scal x y=true/\Q (.bl (decide (x=y))) H
def rNe:R2:=λx y H Q=>scal x y=true/\Q (.bl (!decide (x=y))) H
theorem CL{i j:Int}:decide (V.int i=V.int j)=(i==j):=by
 rw[Om];simp
theorem Eu{i j:Bool}:decide (V.bl i=V.bl j)=(i==j):=by
 rw[Om];simp
theorem CM{i j:Str}:decide (V.str i=V.str j)=(i==j):=by
 rw[Om];simp
theorem CN{i j:Array UInt8}:decide (V.byt i=V.byt j)=(i.toList==j.toList):=by
 rw[Om];cases i;cases j;simp
section
variable{X:Cx}{a b c:Expr}{ta tb tc:TE}{pos:Pos}
theorem aU{b:List (Addr × Obj)}{σ:St}{H:Hp}{s:Shared}{Q:VK}{k a:Bool}(I:Inv X b σ H s)(q:Q (.bl k) H)(e:k=a):EP X b σ Q (.bool a) s:=by
 subst e;exact⟨.bl k,H,I,rfl,q⟩
theorem Dj:OpR X (compareOp .Eq) rEq:=by
 intro e s σ H x y v u Q I d a h;obtain⟨c,q⟩:=h
 cases x with
 | non=>
  cases d
  cases y with
  | non=>cases a;exact PySem.EqNone.eq_none_none (aU I q (by simp))
  | bl j=>cases a;exact PySem.EqNone.eq_none_bool (aU I q (by simp))
  | int j=>obtain⟨b,rfl⟩:=a;exact PySem.EqNone.eq_none_int (aU I q (by simp))
  | str j=>obtain⟨b,rfl⟩:=a;exact PySem.EqNone.eq_none_str (aU I q (by simp))
  | _=>exact absurd (show false=true from c) NV
 | bl i=>
  cases d
  cases y with
  | non=>cases a;exact PySem.EqNone.eq_bool_none (aU I q (by simp))
  | bl j=>cases a;exact eq_bool (aU I q Eu)
  | str j=>obtain⟨b,rfl⟩:=a;exact PySem.EqMixed.eq_bool_str (aU I q (by simp))
  | _=>exact absurd (show false=true from c) NV
 | int i=>
  obtain⟨t,rfl⟩:=d
  cases y with
  | non=>cases a;exact PySem.EqNone.eq_int_none (aU I q (by simp))
  | int j=>obtain⟨b,rfl⟩:=a;exact eq_int (aU I q CL)
  | str j=>obtain⟨b,rfl⟩:=a;exact PySem.EqMixed.eq_int_str (aU I q (by simp))
  | _=>exact absurd (show false=true from c) NV
 | str i=>
  obtain⟨t,rfl⟩:=d
  cases y with
  | non=>cases a;exact PySem.EqNone.eq_str_none (aU I q (by simp))
  | bl j=>cases a;exact PySem.EqMixed.eq_str_bool (aU I q (by simp))
  | int j=>obtain⟨b,rfl⟩:=a;exact PySem.EqMixed.eq_str_int (aU I q (by simp))
  | str j=>obtain⟨b,rfl⟩:=a;exact eq_str (aU I q CM)
  | _=>exact absurd (show false=true from c) NV
 | byt i=>
  obtain⟨t,rfl⟩:=d
  cases y with
  | byt j=>obtain⟨b,rfl⟩:=a;exact PySem.W.eq_bytes (aU I q CN)
  | _=>exact absurd (show false=true from c) NV
 | _=>cases y <;> exact absurd (show false=true from c) NV
theorem Dk:OpR X (compareOp .NotEq) rNe:=by
 intro e s σ H x y v u Q I d a h;obtain⟨c,q⟩:=h
 cases x with
 | non=>
  cases d
  cases y with
  | non=>cases a;exact PySem.EqNone.ne_none_none (aU I q (by simp))
  | bl j=>cases a;exact PySem.EqNone.ne_none_bool (aU I q (by simp))
  | int j=>obtain⟨b,rfl⟩:=a;exact PySem.EqNone.ne_none_int (aU I q (by simp))
  | str j=>obtain⟨b,rfl⟩:=a;exact PySem.EqNone.ne_none_str (aU I q (by simp))
  | _=>exact absurd (show false=true from c) NV
 | bl i=>
  cases d
  cases y with
  | non=>cases a;exact PySem.EqNone.ne_bool_none (aU I q (by simp))
  | bl j=>cases a;exact ne_bool (aU I q (congrArg not Eu))
  | str j=>obtain⟨b,rfl⟩:=a;exact PySem.EqMixed.ne_bool_str (aU I q (by simp))
  | _=>exact absurd (show false=true from c) NV
 | int i=>
  obtain⟨t,rfl⟩:=d
  cases y with
  | non=>cases a;exact PySem.EqNone.ne_int_none (aU I q (by simp))
  | int j=>obtain⟨b,rfl⟩:=a;exact ne_int (aU I q (congrArg not CL))
  | str j=>obtain⟨b,rfl⟩:=a;exact PySem.EqMixed.ne_int_str (aU I q (by simp))
  | _=>exact absurd (show false=true from c) NV
 | str i=>
  obtain⟨t,rfl⟩:=d
  cases y with
  | non=>cases a;exact PySem.EqNone.ne_str_none (aU I q (by simp))
  | bl j=>cases a;exact PySem.EqMixed.ne_str_bool (aU I q (by simp))
  | int j=>obtain⟨b,rfl⟩:=a;exact PySem.EqMixed.ne_str_int (aU I q (by simp))
  | str j=>obtain⟨b,rfl⟩:=a;exact ne_str (aU I q (congrArg not CM))
  | _=>exact absurd (show false=true from c) NV
 | byt i=>
  obtain⟨t,rfl⟩:=d
  cases y with
  | byt j=>obtain⟨b,rfl⟩:=a;exact PySem.W.ne_bytes (aU I q (congrArg not CN))
  | _=>exact absurd (show false=true from c) NV
 | _=>cases y <;> exact absurd (show false=true from c) NV
def JS:OpR X (compareOp .Lt) (rI0 λi j=>.bl (decide (i<j))):=Dh λ_ _ _ _ _ _ _ q=>lt_int q
def JT:OpR X (compareOp .LtE) (rI0 λi j=>.bl (decide (i<=j))):=Dh λ_ _ _ _ _ _ _ q=>le_int q
def JU:OpR X (compareOp .Gt) (rI0 λi j=>.bl (decide (j<i))):=Dh λ_ _ _ _ _ _ _ q=>gt_int q
def JV:OpR X (compareOp .GtE) (rI0 λi j=>.bl (decide (j<=i))):=Dh λ_ _ _ _ _ _ _ q=>ge_int q
theorem Ev:OpR X (compareOp .In) (λx y H Q=>∃ i j,x=.str i/\y=.str j/\Q (.bl (!(Builtin.Str.occurrences j i 0 j.length 1).isEmpty)) H):=by
 intro c s σ H x y v u Q I a b h;obtain⟨i,j,rfl,rfl,q⟩:=h;obtain⟨t,rfl⟩:=a;obtain⟨d,rfl⟩:=b;exact in_str (aU I q rfl)
theorem rG:OpR X (compareOp .Is) (λx y H Q=>y=.non/\Q (.bl (decide (x=.non))) H):=by
 intro c s σ H x y v u Q I a b h;obtain⟨rfl,q⟩:=h;cases b;refine is_none_gen (aU I q ?_)
 cases x <;> first
  | (cases a;rfl)
  | (obtain⟨t,rfl⟩:=a;rfl)
theorem Hj:OpR X (compareOp .IsNot) (λx y H Q=>y=.non/\Q (.bl (!decide (x=.non))) H):=by
 intro c s σ H x y v u Q I a b h;obtain⟨rfl,q⟩:=h;cases b;refine isnot_none_gen (aU I q ?_)
 cases x <;> first
  | (cases a;rfl)
  | (obtain⟨t,rfl⟩:=a;rfl)
theorem ai(b:Expr){a:CmpOp}(h:a≠.In:=by decide)(h2:a≠.NotIn:=by decide):behindInMarks a b=false:=by
 have e1:(a==CmpOp.In)=false:=by cases a <;> first | rfl | exact absurd rfl h
 have e2:(a==CmpOp.NotIn)=false:=by cases a <;> first | rfl | exact absurd rfl h2
 cases b <;> simp[behindInMarks,e1,e2]
theorem ay{c:CmpOp}{r:R2}(n:OpR X (compareOp c) r)(i:PE X a ta)(l:PE X b tb)(j:behindInMarks c b=false):PE X (.Compare a [c] [b] pos) (tOp r ta tb):=by
 intro f s σ H Q I h;exact wpAny_Compare1 (binT i l I h λv u k x y e m d g q=>n f k σ e x y v u Q m d g q) j
def tTest(t:TE):TT:=λσ H Q=>t σ H λx a=>∃ k,x=.bl k/\Q k a
theorem aj{d:CmpOp}{r:R2}(l:OpR X (compareOp d) r)(q:PE X a ta)(A:PE X b tb)(n:behindInMarks d b=false):PT X (.Compare a [d] [b] pos) (tTest (tOp r ta tb)):=by
 intro f s σ H Q I h
 refine wpAny_isTrue_Compare1 (thn (q f s σ H _ I h) λv s1 ⟨x,o,i,r1,B⟩=>thn (A f s1 σ o _ i B) λu w ⟨y,C,E,m,j⟩=>
  thn (l f w σ C x y v u _ E r1 m j) λc F ⟨z,D,t,p,k,e,g⟩=>?_) n
 subst e;cases p;exact Po ⟨D,t,g⟩
theorem me:(sizeLine:Nat)<2^63:=by rw[sizeLine_eq];decide
theorem Dl:OpR X (binaryOp .Add) (λx y H Q=>∃ i j,x=.str i/\y=.str j/\i.length+j.length<=sizeLine/\Q (.str (i++j)) H):=by
 intro e s σ H x y v u Q I c d h;obtain⟨i,j,rfl,rfl,b,q⟩:=h;obtain⟨t,rfl⟩:=c;obtain⟨a,rfl⟩:=d;exact add_str (λa f=>⟨.str (i++j),H,I.tok _,⟨_,rfl⟩,q⟩) b
theorem d7{x:V}{us:List Value}(r:Vals [x] us):∃ u,us=[u]/\RelV x u:=by
 cases r with
 | cons r1 a=>cases a;exact⟨_,rfl,r1⟩
theorem G1{x y:V}{us:List Value}(r:Vals [x,y] us):∃ u a,us=[u,a]/\RelV x u/\RelV y a:=by
 cases r with
 | cons r1 c=>
  cases c with
  | cons b d=>cases d;exact⟨_,_,rfl,r1,b⟩
theorem yE:CallR X (.type "int") (λxs H Q=>(∃ i,xs=[.int i]/\Q (.int i) H)\/∃ k,xs=[.bl k]/\Q (.int (if k then 1 else 0)) H):=by
 intro a s σ H xs b Q I r h;rcases h with ⟨i,rfl,q⟩ | ⟨k,rfl,q⟩
 . obtain⟨u,rfl,t,rfl⟩:=d7 r;exact call_int_int ⟨.int i,H,I,⟨_,rfl⟩,q⟩
 . obtain⟨u,rfl,r1⟩:=d7 r;cases r1;exact call_int_bool ⟨.int (if k then 1 else 0),H,I.tok _,⟨_,rfl⟩,q⟩
end
structure ObjM(h:Heap)(x dx C:Addr)(mA:Str->Option Value):Prop where
 obj:h.get? x=some (PySem.W.instObj C dx)
 ns:h.Ns1 dx mA
 ne:dx≠x
variable{mA:Str->Option Value}
theorem Ew{h:Heap}{c:Addr}(n:h.Ns1 c mA):∃ d,h.get? c=some d/\∀ name,PySem.W.lookIn name d=some (mA name):=by
 obtain⟨o,f,p,m,j,i,_,g⟩:=n;refine⟨o,m,λname=>?_⟩;have e:=g name;unfold nsFind findBy at e;rw[← Array.find?_toList]at e;unfold PySem.W.lookIn;rw[j];dsimp only
 split
 . rename_i y q
   rw[q]at e;exact congrArg some e
 . rename_i q
   rw[q]at e
   have a:f.toList.any (·.refKey)=false:=by
    rw[List.any_eq_false];intro y l;obtain⟨z,t,b⟩:=i y (Array.mem_toList_iff.mp l);simp[DictEntry.refKey,b]
   have k:¬ f.toList.any (·.refKey)=true:=by rw[a];exact NV
   rw[Og k];exact congrArg some e
variable{C:Addr}
def ObjM.look{h:Heap}{x b:Addr}(I:ObjM h x b C mA):∃ a,PySem.W.InstAt h x (PySem.W.instObj C b) C (some a)/\∀ name,PySem.W.lookIn name a=some (mA name):=
 let ⟨a,d,c⟩:=Ew I.ns
 ⟨a,⟨I.obj,rfl,rfl,d⟩,c⟩
section
variable{prog:Program}{w:World}{A:Around}{E:Value->Shared->Prop}{s:Shared}{K:Frag}{x dx C f:Addr}{mA:Str->Option Value}{name:Str}{v:Value}
theorem Hk {a:Bool} {Q:Value->Shared->Prop} (X:K.In s.heap) (I:ObjM s.heap x dx C mA) (e:PySem.W.plainGet K C name=true) (g:PySem.W.hasDictIn K C=true)
  (c:findIn K (.ref C) name=some none) (f:mA name=some v) (b:PySem.W.handedIn v=true) (h:Q v {s with toks:=s.toks+1}):
  wpAny (model prog w) A (getAttr (.ref x) name a) Q E s:=by
 obtain⟨i,J,d⟩:=I.look;exact PySem.W.get_value X J (Qs e).1 (PySem.W.findObj_own g c rfl (by rw[d,f])) b h
theorem Gc {pl:Sem Bool} {Q:Value × List Value->Shared->Prop} (X:K.In s.heap) (I:ObjM s.heap x dx C mA) (a:PySem.W.plainGet K C name=true)
  (e:findIn K (.ref C) name=some ↑f) (g:isFn K (.ref f)=true) (c:mA name=none) (h:Q (.ref f,[.ref x]) s):
  wpAny (model prog w) A (getMethod (.ref x) name pl) Q E s:=by
 obtain⟨d,J,b⟩:=I.look;exact PySem.W.method_fn X J (Qs a).1 (Qs a).2 e (PQ.mp g) (by show(PySem.W.lookIn name d).map (·.isSome)=some false;rw[b,c];rfl) h
theorem Hl {ns:List Str} {Q:Unit->Shared->Prop} (X:K.In s.heap) (I:ObjM s.heap x dx C mA)
  (o:findIn K (.ref C) "__setattr__"=some (some (.builtin "object.__setattr__"))) (k:PySem.W.plainOver K C=true) (n:PySem.W.takerIn K C name=some none) (l:PySem.W.hasDictIn K C=true)
  (hw:PySem.Within mA ns) (p:ns.length<=sizeLine)
  (h:∀ h',ObjM h' x dx C (λy=>if y=name then some v else mA y)->Heap.SameBut dx s.heap h'->Q () {s with heap:=h',toks:=s.toks+2}):
  wpAny (model prog w) A (setAttr (.ref x) name v) Q E s:=by
 obtain⟨z,J,D⟩:=I.look;refine PySem.W.set_plain X J o (PySem.W.osa_open (s:={s with toks:=s.toks+1}) (r:=none) X J k n λb=>?_);obtain⟨B,t,e⟩:=PySem.W.any_some l;have m:s.heap.get? x=some ⟨.ref C,some dx,.plain,#[]⟩:=I.obj;refine N7 (OC (N7 (N7 (wpAny_loadPart m (N7 (PySem.W.Looks.here (s:={s with toks:=s.toks+1}) (PySem.W.looks_clsIn X t) ?_))))));rw[e];refine OC (a:=some dx) (N7 (OC (N7 ?_)));refine wpAny_nsSet1 (s:={s with toks:=s.toks+1}) I.ns λh' c d=>?_;obtain⟨u,q,j,g,f,i⟩:=c.count (PySem.Within.cons name v hw);refine N7 (wpAny_lookBehind g (by rw[f];exact pastItsLine_dict (NY i (by rw[OA];lia))) ?_);exact OC (h _ ⟨(d.2 _ (Q7 I.ne)).trans I.obj,c,I.ne⟩ d)
theorem Gd {R:Result->Shared->Prop} {vs:List Value} {b:List (Str × Value)} (X:K.In s.heap) (e:PySem.W.makesIn K C=true)
  (c:findIn K (.ref C) "__init__"=some ↑f) (i:PySem.W.typeIn K (.ref f)=some (.type "function"))
  (h:codeAny (model prog w) (A.under (.builtin "type.__call__" ⟨.ref C::vs,b⟩)) (.call (.ref f) ⟨.ref (s.heap.objs.size+1)::vs,b⟩) (PySem.W.InitBack (s.heap.objs.size+1) R)
   {s with heap:=(s.heap.push PySem.W.emptyDict).push (PySem.W.instObj C s.heap.objs.size)}):
  codeAny (model prog w) A (.call (.ref C) ⟨vs,b⟩) R s:=by
 obtain⟨j,g,d,t,k⟩:=s;exact PySem.W.make_core (PySem.W.makes_of X e) (PySem.W.looks_findIn X c) (λa=>PySem.W.bind_fn X a i) (.inl rfl) h
end
def putF(f:Str)(v:V):List (Str × V)->List (Str × V)
 | []=>[(f,v)]
 | (g,x)::r=>if g=f then(g,v)::r else(g,x)::putF f v r
theorem ui(f g:Str)(v:V):∀ c:List (Str × V),(putF f v c).lookup g=if g=f then some v else c.lookup g
 | []=>by
  show List.lookup g [(f,v)]=_;by_cases h:g=f
  . have a:(g==f)=true:=PQ.mpr h;simp only[List.lookup,a,Os h]
  . have a:(g==f)=false:=P2.mpr h;simp only[List.lookup,a,Og h]
 | (k,x)::r=>by
  have d:=ui f g v r;rw[show putF f v ((k,x)::r)=(if k=f then(k,v)::r else(k,x)::putF f v r) from rfl];by_cases b:k=f
  . rw[Os b];by_cases h:g=k
    . have a:(g==k)=true:=PQ.mpr h;simp only[List.lookup,a,Os (h.trans b)]
    . have a:(g==k)=false:=P2.mpr h;simp only[List.lookup,a,Og (λe:g=f=>h (e.trans b.symm))]
  . rw[Og b];by_cases h:g=k
    . have a:(g==k)=true:=PQ.mpr h;simp only[List.lookup,a,Og (λe:g=f=>b (h.symm.trans e))]
    . have a:(g==k)=false:=P2.mpr h;simp only[List.lookup,a];exact d
theorem rH(f:Str)(v:V):∀ a:List (Str × V),f∈(putF f v a).map (·.1)/\∀ g,g∈a.map (·.1)->g∈(putF f v a).map (·.1)
 | []=>⟨by simp[putF],λg h=>by simp at h⟩
 | (k,x)::r=>by
  obtain⟨c,d⟩:=rH f v r;rw[show putF f v ((k,x)::r)=(if k=f then(k,v)::r else(k,x)::putF f v r) from rfl];by_cases b:k=f
  . rw[Os b];subst b;exact⟨by simp,λg h=>by simpa using h⟩
  . rw[Og b];refine⟨?_,λg h=>?_⟩
    . rw[OD];exact N5 _ c
    . rw[OD]at h ⊢;rcases N4.mp h with e | e
      . exact N4.mpr (.inl e)
      . exact N5 _ (d g e)
theorem uj(f:Str)(v:V):∀ a:List (Str × V),(putF f v a).length<=a.length+1
 | []=>by simp[putF]
 | (k,x)::r=>by
  have c:=uj f v r;rw[show putF f v ((k,x)::r)=(if k=f then(k,v)::r else(k,x)::putF f v r) from rfl];by_cases b:k=f
  . rw[Os b,OA,OA];lia
  . rw[Og b,OA,OA];lia
variable{o:Option Value}
theorem RelO.some_of{v:V}(r:RelO (some v) o):∃ u,o=some u/\RelV v u:=by
 cases o with
 | none=>exact(show False from r).elim
 | some u=>exact⟨u,rfl,r⟩
abbrev RH:=@RelO.some_of
theorem RelO.none_of(r:RelO none o):o=none:=by
 cases o with
 | none=>rfl
 | some u=>exact(show False from r).elim
theorem Ex{v:V}{u:Value}(r:RelV v u):PySem.W.handedIn u=true:=by
 cases v with
 | non=>cases (show u=Value.none from r);rfl
 | bl b=>cases (show u=Value.bool b from r);rfl
 | int i=>obtain⟨t,e⟩:=(show ∃ t,u=Value.int i t from r);cases e;rfl
 | str x=>obtain⟨t,e⟩:=(show ∃ t,u=Value.str x t from r);cases e;rfl
 | byt b=>obtain⟨t,e⟩:=(show ∃ t,u=Value.bytes b t from r);cases e;rfl
 | flt b=>obtain⟨t,e⟩:=(show ∃ t,u=Value.float b t from r);cases e;rfl
 | ref a=>cases (show u=Value.ref a from r);rfl
 | ty n=>cases (show u=Value.type n from r);rfl
section
variable{P:Program}{w:World}{H H':Hp}{h h':Heap}{a C dx:Addr}{fs fs':List (Str × V)}
theorem tO(b:HOk P w H h)(e:H a=some (.ins C dx fs)):∃ mA,ObjM h a dx C mA/\(∀ f,RelO (fs.lookup f) (mA f))/\PySem.Within mA (fs.map (·.1))/\fs.length<=1000/\H dx=some (.own a):=by
 obtain⟨d,z,g,c,mA,n,r,q⟩:=(show ObjOk P w H h a (.ins C dx fs) from b a _ e);exact⟨mA,⟨c,n,g⟩,r,q,z,d⟩
end
structure Cls(K:Frag)(C:Addr):Prop where
 pg:PySem.W.plainGet K C Str.empty=true
 hd:PySem.W.hasDictIn K C=true
 po:PySem.W.plainOver K C=true
 sa:findIn K (.ref C) "__setattr__"=some (some (.builtin "object.__setattr__"))
def Cls.get{K:Frag}(c:Cls K C)(f:Str):PySem.W.plainGet K C f=true:=c.pg
def NoAttr(K:Frag)(C:Addr)(f:Str):Prop:=findIn K (.ref C) f=some none
theorem NoAttr.taker{K:Frag}{f:Str}(n:NoAttr K C f):PySem.W.takerIn K C f=some none:=by
 unfold PySem.W.takerIn;rw[show findIn K (.ref C) f=some none from n];rfl
structure Meth(K:Frag)(C:Addr)(m:Str)(f:Addr):Prop where
 at_:findIn K (.ref C) m=some ↑f
 fn:isFn K (.ref f)=true
 kp:keepIn K (.ref f)=true
section
variable{X:Cx}{NB:List (Addr × Obj)}{σ:St}{H:Hp}{s:Shared}{a C dx:Addr}{fs:List (Str × V)}{f:Str}{v:V}{A:Around}{E:Value->Shared->Prop}
theorem Dm {b:Bool} {Q:Value->Shared->Prop} (I:Inv X NB σ H s) (e:H a=some (.ins C dx fs)) (c:Cls X.K C) (n:NoAttr X.K C f) (l:fs.lookup f=some v)
  (h:∀ u s',Inv X NB σ H s'->RelV v u->Q u s'):wpAny (model X.prog X.w) A (getAttr (.ref a) f b) Q E s:=by
 obtain⟨mA,O,r,_,_,_⟩:=tO I.hok e;obtain⟨u,g,d⟩:=RH (v:=v) (o:=mA f) (by rw[← l];exact r f);exact Hk I.kIn O (c.get f) c.hd n g (Ex d) (h u _ (I.tok _) d)
theorem vD {m:Str} {g:Addr} {pl:Sem Bool} {Q:Value × List Value->Shared->Prop} (I:Inv X NB σ H s) (e:H a=some (.ins C dx fs)) (c:Cls X.K C) (k:Meth X.K C m g) (l:fs.lookup m=none)
  (h:Q (.ref g,[.ref a]) s):wpAny (model X.prog X.w) A (getMethod (.ref a) m pl) Q E s:=by
 obtain⟨mA,O,r,_,_,_⟩:=tO I.hok e;have b:mA m=none:=RelO.none_of (by rw[← l];exact r m);exact Gc I.kIn O (c.get m) k.at_ k.fn b h
theorem Dn {y:V} {u:Value} {Q:Unit->Shared->Prop} (I:Inv X NB σ H s) (e:H a=some (.ins C dx fs)) (c:Cls X.K C) (n:NoAttr X.K C f) (F:fs.length<1000) (l:RelV y u)
  (h:∀ s',Inv X NB σ (upd H a (.ins C dx (putF f y fs))) s'->Q () s'):wpAny (model X.prog X.w) A (setAttr (.ref a) f u) Q E s:=by
 obtain⟨mA,O,r,i,_,j⟩:=tO I.hok e;have D:(fs.map (·.1)).length<=sizeLine:=by rw[NM,sizeLine_eq];lia
 refine Hl I.kIn O c.sa c.po n.taker c.hd i D λB d k=>h _ ?_;have m:∃ o,B.get? dx=some o:=let ⟨o,_,_,t,_⟩:=d.ns;⟨o,t⟩;refine I.write (x:=a) (e:=dx) (by rw[e];exact True.intro) (.inr j) (λb q v z=>(k.2 b v).trans z) m ?_;refine⟨by rw[ah O.ne];exact j,?_,O.ne,d.obj,_,d.ns,λg=>?_,λg p=>?_⟩
 . have:=uj f y fs;lia
 . show RelO ((putF f y fs).lookup g) (if g=f then some u else mA g);rw[ui];by_cases q:g=f
   . rw[Os q,Os q];exact l
   . rw[Og q,Og q];exact r g
 . by_cases q:g=f
   . rw[q];exact(rH f y fs).1
   . refine(rH f y fs).2 g (i g λz=>p ?_);show(if g=f then some u else mA g)=none;rw[Og q];exact z
theorem Inv.made(I:Inv X NB σ H s):Inv X NB σ (upd (upd H s.heap.objs.size (.own (s.heap.objs.size+1))) (s.heap.objs.size+1) (.ins C s.heap.objs.size []))
  {s with heap:=(s.heap.push PySem.W.emptyDict).push (PySem.W.instObj C s.heap.objs.size)}:=by
 have e1:(s.heap.push PySem.W.emptyDict).get? s.heap.objs.size=some PySem.W.emptyDict:=Oq s.heap rfl
 have e2:((s.heap.push PySem.W.emptyDict).push (PySem.W.instObj C s.heap.objs.size)).get? (s.heap.objs.size+1)=some (PySem.W.instObj C s.heap.objs.size):=by
  have:=Oq (s.heap.push PySem.W.emptyDict) (o:=PySem.W.instObj C s.heap.objs.size) rfl
  rwa [Ps]at this
 have g:(s.heap.push PySem.W.emptyDict).Ns s.heap.objs.size (λ_=>none):=⟨PySem.W.emptyDict,#[],_,e1,rfl,(λe he=>absurd he (by simp)),λ_=>rfl⟩;have f:=I.laid (a:=s.heap.objs.size) (o:=.own (s.heap.objs.size+1)) (h':=s.heap.push PySem.W.emptyDict) (t':=s.toks) (λb u q=>N0 _ q) (NZ _) ⟨_,e1⟩;refine f.laid (a:=s.heap.objs.size+1) (o:=.ins C s.heap.objs.size []) (t':=s.toks) (λb u q=>N0 _ q) (Nat.le_of_eq (Ps _ _)) ?_;have c:s.heap.objs.size≠s.heap.objs.size+1:=OF (PX _);refine⟨by rw[ah c,ag],OP _,c,e2,λ_=>none,(Heap.Ns1.of_empty g).at λo q=>N0 _ q,λ_=>True.intro,λy d=>absurd rfl d⟩
def Hm {prog:Program} {w:World} {env:Env} {e:Expr} {f:Str} {pos:Pos} {s:Shared} {Q:Value->Shared->Prop} (b:attributeBase e f env (eval e env)=eval e env)
  (h:wpAny (model prog w) A (eval e env) (λo a=>wpAny (model prog w) A (getAttr o f true) Q E a) E s):wpAny (model prog w) A (eval (.Attribute e f pos) env) Q E s:=
 Attribute_any_ h (by rw[arm_eval_Attribute,b])
end
section
variable{X:Cx}{o e value:Expr}{f:Str}{pos pos' tpos:Pos}{ta tv:TE}
end
section
variable{X:Cx}{NB:List (Addr × Obj)}{σ:St}{H:Hp}{s:Shared}{A:Around}{E:Value->Shared->Prop}{Q:Value->Shared->Prop}{c:Value}{b:Bool}
inductive TyOf(K:Frag)(H:Hp):V->Value->Prop where
 | non:TyOf K H .non (.type "NoneType")
 | bl (x:Bool):TyOf K H (.bl x) (.type "bool")
 | int (i:Int):TyOf K H (.int i) (.type "int")
 | str (x:Str):TyOf K H (.str x) (.type "str")
 | flt (x:UInt64):TyOf K H (.flt x) (.type "float")
 | lst {a:Addr} {xs:List V} (e:H a=↥xs):TyOf K H (.ref a) (.type "list")
 | frz {a:Addr} {o:Obj} {xs:List V} (e:H a=some (.frz o (.lst xs))):TyOf K H (.ref a) (.type "list")
 | tup {a:Addr} {xs:List V} (e:H a=some (.tup xs)):TyOf K H (.ref a) (.type "tuple")
 | dK {a:Addr} {NE:List (Key × V)} (e:H a=some (.dK NE)):TyOf K H (.ref a) (.type "dict")
 | dT {a:Addr} {NE:List (List Key × V)} (e:H a=some (.dT NE)):TyOf K H (.ref a) (.type "dict")
 | ins {a C dx:Addr} {fs:List (Str × V)} (e:H a=some (.ins C dx fs)) (cl:Cls K C) (ha:findIn K (.ref C) "__class__"=some (some (.builtin "object.__class__")))
   (hn:PySem.W.specialIn K (.builtin "object.__class__") "__get__"=some (some (.builtin "getset_descriptor.__get__"))) (htk:PySem.W.takesIn K (.builtin "object.__class__")=some true)
   (hm:PySem.W.mroIn K C (.type "object")=some true):TyOf K H (.ref a) (.ref C)
theorem Ey{x:V}{u t:Value}(I:Inv X NB σ H s)(d:RelV x u)(G:TyOf X.K H x t)(e:PySem.W.kitOne X.K t c=some b)(h:∀ L,Q (.bool b) {s with toks:=L}):
  wpAny (model X.prog X.w) A (call (.builtin "isinstance") [u,c]) Q E s:=by
 cases G with
 | non=>cases (show u=Value.none from d);exact O1 PySem.W.kitx_none I.kIn True.intro e (λz=>nomatch z) h
 | bl y=>cases (show u=Value.bool y from d);exact O1 PySem.W.kitx_bool I.kIn True.intro e (λz=>nomatch z) h
 | int i=>obtain⟨t,q⟩:=(show ∃ t,u=Value.int i t from d);cases q;exact O1 PySem.W.kitx_int I.kIn True.intro e (λz=>nomatch z) h
 | str y=>obtain⟨t,q⟩:=(show ∃ t,u=Value.str y t from d);cases q;exact O1 PySem.W.kitx_str I.kIn True.intro e (λz=>nomatch z) h
 | flt y=>obtain⟨t,q⟩:=(show ∃ t,u=Value.float y t from d);cases q;exact O1 PySem.W.kitx_float I.kIn True.intro e (λz=>nomatch z) h
 | @lst a g f=>
  cases (show u=Value.ref a from d);obtain⟨_,_,n,_,h1⟩:=(show ObjOk X.prog X.w H s.heap a (.lst g) from I.hok a _ f);exact O1 PySem.W.kitx_list I.kIn ⟨_,h1,rfl⟩ e (λz=>nomatch z) h
 | @frz a F g f=>
  cases (show u=Value.ref a from d);obtain⟨_,_,_,n,_,h1⟩:=(show ObjOk X.prog X.w H s.heap a (.frz F (.lst g)) from I.hok a _ f);exact O1 PySem.W.kitx_list I.kIn ⟨_,h1,rfl⟩ e (λz=>nomatch z) h
 | @tup a g f=>
  cases (show u=Value.ref a from d);obtain⟨_,_,_,p⟩:=(show ObjOk X.prog X.w H s.heap a (.tup g) from I.hok a _ f);obtain⟨o,h1,h2,_⟩:=p;exact O1 PySem.W.kitx_tuple I.kIn ⟨o,h1,h2⟩ e (λz=>nomatch z) h
 | @dK a j f=>
  cases (show u=Value.ref a from d);obtain⟨_,_,vs,_,p⟩:=(show ObjOk X.prog X.w H s.heap a (.dK j) from I.hok a _ f);obtain⟨o,v,m,h1,h2,_⟩:=p;exact O1 PySem.W.kitx_dict I.kIn ⟨o,h1,h2.1⟩ e (λz=>nomatch z) h
 | @dT a j f=>
  cases (show u=Value.ref a from d);obtain⟨_,_,g,_,o,v,m,h1,h2,_⟩:=(show ObjOk X.prog X.w H s.heap a (.dT j) from I.hok a _ f);exact O1 PySem.W.kitx_dict I.kIn ⟨o,h1,h2.1⟩ e (λz=>nomatch z) h
 | @ins a C N M f l r B k D=>
  cases (show u=Value.ref a from d);obtain⟨mA,O,_⟩:=tO I.hok f;obtain⟨P,J,_⟩:=O.look;exact O1 (PySem.W.kitx_own (l.get _) l.hd r B k D) I.kIn J e (λz=>nomatch z) h
end
structure Room(k:Nat)(A:Around):Prop where
 hd:A.handled=none
 dp:A.depth+3*k+5<recursionLimit
 un:A.units+16*k+200<cLine
variable{A:Around}
def Room.mono{j k:Nat}(r:Room k A)(h:j<=k):Room j A:=⟨r.hd,by have:=r.dp;omega,by have:=r.un;omega⟩
def Room.deeper{k:Nat}(r:Room (k+1) A)(env:Env):Room k (A.deeper env):=
 ⟨r.hd,by have:=r.dp;show A.depth+1+3*k+5<_;omega,by have:=r.un;show A.units+3+16*k+200<_;omega⟩
variable{us:List Value}{kw:List (Str × Value)}
theorem Do{C:Addr}:(A.under (.builtin "type.__call__" ⟨.ref C::us,kw⟩)).depth=A.depth+1:=by
 first | rfl | simp[Around.under,Code.weight,Code.isCreation,Code.isGuard,Code.isCaller,Code.frames,Code.isFrame,guardIds]
theorem Dp{C:Addr}:(A.under (.builtin "type.__call__" ⟨.ref C::us,kw⟩)).units=A.units+1:=by
 first | rfl | simp[Around.under,Code.cUnits,Code.frames,Code.isFrame]
def Room.make{k:Nat}(r:Room (k+1) A)(C:Addr)(us:List Value)(kw:List (Str × Value)):Room k (A.under (.builtin "type.__call__" ⟨.ref C::us,kw⟩)):=
 ⟨r.hd,by have:=r.dp;rw[Do];omega,by have:=r.un;rw[Dp];omega⟩
def Room.depth{k:Nat}(r:Room k A):A.depth<recursionLimit:=by have:=r.dp;omega
def Room.units{k:Nat}(r:Room k A):A.units+64<cLine:=by have:=r.un;omega
def tNil:TA:=λ_ H Q=>Q [] H
def tCons(d:TE)(c:TA):TA:=λσ H Q=>d σ H λx e=>c σ e λa b=>Q (x::a) b
section
variable{X:Cx}{e:Expr}{es:List Expr}{te:TE}{t:TA}{pos:Pos}
def ab:PA X [] tNil:=λ_ _ _ _ H Q I h=>Pz ⟨[],H,I,.nil,h⟩
theorem aa(g:PE X e te)(n:PA X es t)(k:starEach (e::es) X.env=(false,eval e X.env)::starEach es X.env:=by rfl):PA X (e::es) (tCons te t):=by
 intro pos a s σ H Q I h;rw[k];show wpAny _ _ (spliced ((false,eval e X.env)::backTo pos (starEach es X.env))) _ _ s;refine Pt (thn (g a s σ H _ I h) λu s1 ⟨x,m,i,r1,b⟩=>?_);exact thn (n pos a s1 σ m _ i b) λus o ⟨c,d,l,f,j⟩=>⟨x::c,d,l,.cons r1 f,j⟩
def tTup(t:TA):TE:=λσ H Q=>t σ H λa b=>a.length<=sizeLine/\∀ p,b p=none->Q (.ref p) (upd b p (.tup a))
def tLst(t:TA):TE:=λσ H Q=>t σ H λa b=>a.length<=sizeLine/\∀ p,b p=none->Q (.ref p) (upd b p (.lst a))
theorem cQ{x1}(h:PA X es t):PE X (.Tuple es x1 pos) (tTup t):=by
 intro f s σ H Q I g;refine wpAny_Tuple_spliced (thn (h pos f s σ H _ I g) λus s1 ⟨d,c,a,r,z,q⟩=>⟨by rw[← r.length];exact z,?_⟩);have i:c s1.heap.objs.size=none:=a.hok.fresh (NZ _);refine⟨.ref s1.heap.objs.size,upd c s1.heap.objs.size (.tup d),a.laid (t':=s1.toks) (λb u e=>N0 _ e) (NZ _) ?_,rfl,q _ i⟩;exact⟨z,us,r,⟨_,Oq _ rfl,rfl,_,rfl⟩⟩
theorem aA(h:PA X es t):PE X (.List es pos) (tLst t):=by
 intro f s σ H Q I g;refine wpAny_List_spliced (thn (h pos f s σ H _ I g) λus s1 ⟨d,c,a,r,z,q⟩=>⟨by rw[← r.length];exact z,?_⟩);have i:c s1.heap.objs.size=none:=a.hok.fresh (NZ _);refine⟨.ref s1.heap.objs.size,upd c s1.heap.objs.size (.lst d),a.laid (t':=s1.toks) (λb u e=>N0 _ e) (NZ _) ?_,rfl,q _ i⟩;exact⟨z,us,0,r,Oq _ rfl⟩
end
abbrev Sp:=List V->Hp->VK->XK->Prop
abbrev CXT:=List Env->Hp->Shared->XK->Value->Shared->Prop
structure Env0(P:Program)(w:World)(K:Frag)(mg:Str->Option Value)(base:Heap)(A:Around)(outer:List Env)(s:Shared)(H:Hp):Prop where
 frames:A.frames=some outer
 mod:Mod K mg base
 bs:∀ b o,base.get? b=some o->s.heap.get? b=some o/\H b=none
 bsz:base.objs.size<=s.heap.objs.size
 funs:s.heap.FunFrames base outer
 frf:∀ b∈frs outer,H b=none
 hok:HOk P w H s.heap
 bare:AllBare s.gens
def CE(a:List Env)(P:Program)(w:World)(H:Hp)(s:Shared)(Q:VK)(u:Value)(s':Shared):Prop:=
 ∃ v b,s'.os=s.os/\AllBare s'.gens/\Un (frs a) [] H b s.heap s'.heap/\HOk P w b s'.heap/\RelV v u/\Q v b
def CR(CX:CXT)(a:List Env)(P:Program)(w:World)(H:Hp)(s:Shared)(Q:VK)(E:XK)(r:Result)(s':Shared):Prop:=
 match r with
 | .ok (.ret u)=>CE a P w H s Q u s'
 | .ok _=>False
 | .error e=>CX a H s E e s'
structure FnOk(P:Program)(w:World)(K:Frag)(mg:Str->Option Value)(base:Heap)(CX:CXT)(k:Nat)(f:Addr)(fd:FuncData)(ps:List Str)(sp:Sp):Prop where
 len:∀ vs H Q E,sp vs H Q E->vs.length=ps.length
 run:∀(A:Around) (outer:List Env) (s:Shared) (H:Hp) (args:Args) (us:List Value) (vs:List V) (Q:VK) (E:XK),Room k A->Env0 P w K mg base A outer s H->BindsTo s fd args (ps.zip us)->Vals vs us->sp vs H Q E->
  codeAny (model P w) A (.call (.ref f) args) (CR CX outer P w H s Q E) s
variable{P:Program}{w:World}{K:Frag}{mg:Str->Option Value}{base:Heap}{CX:CXT}{f:Addr}{fd:FuncData}{ps:List Str}
def FnOk.mono{j k:Nat}{sp:Sp}(F:FnOk P w K mg base CX j f fd ps sp)(h:j<=k):
  FnOk P w K mg base CX k f fd ps sp:=⟨F.len,λA a s H b us vs Q E c=>F.run A a s H b us vs Q E (c.mono h)⟩
def FnOk.imp {k:Nat} {sp c:Sp} (F:FnOk P w K mg base CX k f fd ps sp)
  (h:∀ vs H Q E,c vs H Q E->sp vs H Q E):FnOk P w K mg base CX k f fd ps c:=
 ⟨λvs H Q E q=>F.len vs H Q E (h _ _ _ _ q),λA a s H b us vs Q E i he e g d=>F.run A a s H b us vs Q E i he e g (h _ _ _ _ d)⟩
variable{outer:List Env}
def Env0.make{s:Shared}{H:Hp}(e:Env0 P w K mg base A outer s H)(C:Addr)(us:List Value)(kw:List (Str × Value)):
  Env0 P w K mg base (A.under (.builtin "type.__call__" ⟨.ref C::us,kw⟩)) outer s H:=⟨by first | exact e.frames | (simpa [Around.under,Code.envs,Code.isFrame,pushEnvs] using e.frames),e.mod,e.bs,e.bsz,e.funs,e.frf,e.hok,e.bare⟩
section
variable{X:Cx}{NB:List (Addr × Obj)}{σ:St}{H:Hp}{s s':Shared}
def Inv.env0(I:Inv X NB σ H s):Env0 X.prog X.w X.K X.mg X.base X.A X.stack s H:=
 ⟨I.ok.frames,I.ok.mod,I.bs,NY I.ok.bsz I.sz,I.stack,I.stkFree,I.hok,I.bare⟩
theorem Inv.after{Q:VK}{u:Value}(I:Inv X NB σ H s)(h:CE X.stack X.prog X.w H s Q u s'):EP X NB σ Q u s':=by
 obtain⟨v,f,j,a,k,c,r,q⟩:=h;obtain⟨i,g,d,t,e⟩:=s';obtain rfl:e=s.os:=j;exact⟨v,f,I.call (h':=i) (g':=g) (d':=d) (t':=t) (ch:=[]) k c a (λb z=>absurd z (by simp)),r,q⟩
end
def tCall(sp:Sp)(a:List V)(E:XK)(t:TA):TE:=λσ H Q=>t σ H λvs b=>sp (vs++a) b Q E
def tMake(C:Addr)(sp:Sp)(b:List V)(E:XK)(t:TA):TE:=λσ H Q=>t σ H λvs c=>∀ x a,c x=none->c a=none->a≠x->
 sp (.ref x::(vs++b)) (upd (upd c a (.own x)) x (.ins C a [])) (λv d=>v=.non/\Q (.ref x) d) E
def Binds(K:Frag)(fd:FuncData)(ps:List Str)(a:List Value):Prop:=
 ∀(s:Shared) (us:List Value),K.In s.heap->(us++a).length=ps.length->BindsTo s fd ⟨us,[]⟩ (ps.zip (us++a))
def Binds.all(h:∀ us:List Value,us.length=ps.length->bindArgs fd ⟨us,[]⟩=pure (ps.zip us)):Binds K fd ps []:=λs us _ a=>by
 rw[Rl]at a ⊢;exact .of_eq (h us a)
def o5(CX:CXT)(X:Cx)(E:XK):Prop:=∀(b:List (Addr × Obj)) (σ:St) (H:Hp) (s:Shared) (e:Value) (a:Shared),Inv X b σ H s->CX X.stack H s E e a->X.xe e a
section
variable{X:Cx}{CX:CXT}{k:Nat}{f C:Addr}{fd:FuncData}{ps:List Str}{sp:Sp}{dvs:List V}{ds:List Value}{E:XK}{x m:Str}{p pos apos:Pos}{e o:Expr}{es:List Expr}{ta:TE}{t:TA}
theorem vE {b:List (Addr × Obj)} {σ:St} {H:Hp} {s:Shared} {Q:VK} {us:List Value} {vs:List V} (F:FnOk X.prog X.w X.K X.mg X.base CX k f fd ps sp) (m:Room k X.A) (l:Binds X.K fd ps ds) (i:Vals dvs ds) (d:o5 CX X E)
  (I:Inv X b σ H s) (r:Vals vs us) (h:sp (vs++dvs) H Q E):wpAny (model X.prog X.w) X.A (call (.ref f) us) (EP X b σ Q) X.xe s:=by
 have c:Vals (vs++dvs) (us++ds):=r.append i;have g:(us++ds).length=ps.length:=by rw[← c.length];exact F.len _ _ _ _ h
 refine wpAny_call (RI (F.run X.A X.stack s H ⟨us,[]⟩ (us++ds) (vs++dvs) Q E m I.env0 (l s us I.kIn g) c h) λr n a=>?_)
 cases r with
 | error e=>exact d b σ H s e n I a
 | ok j=>
  cases j with
  | ret u=>exact I.after a
  | next=>exact False.elim a
  | brk=>exact False.elim a
  | cont=>exact False.elim a
theorem Hn (F:FnOk X.prog X.w X.K X.mg X.base CX k f fd ps sp) (u:Room k X.A) (n:Gl X x) (j:X.mg x=↑f) (l:keepIn X.K (.ref f)=true) (o:Binds X.K fd ps ds) (m:Vals dvs ds) (d:o5 CX X E)
  (i:PA X (e::es) t) (b:(x==("__debug__":Str))=false:=by decide) (he:starEach (e::es) X.env=(false,eval e X.env)::starEach es X.env:=by rfl) (a:(backTo pos (starEach es X.env)).any (·.1)=false:=by rfl):
  PE X (.Call (.Name x p) (e::es) [] pos) (tCall sp dvs E t):=by
 intro g s σ H Q I h;refine OW (tL I n j ?_ b);refine QE (h₀:=X.base) I.ok.mod.kin l (thn (i pos g s σ H _ I h) λus s1 ⟨vs,v,c,r,q⟩=>⟨c.kIn,?_⟩) he a;exact vE F u o m d c r q
theorem Ge (F:FnOk X.prog X.w X.K X.mg X.base CX k f fd ps sp) (j:Room k X.A) (g:Gl X x) (c:X.mg x=↑f) (d:keepIn X.K (.ref f)=true) (i:Binds X.K fd ps ds) (e:Vals dvs ds) (b:o5 CX X E)
  (a:(x==("__debug__":Str))=false:=by decide):PE X (.Call (.Name x p) [] [] pos) (tCall sp dvs E tNil):=by
 intro l s σ H Q I h;refine OW (tL I g c ?_ a);exact PySem.W.callWith_K0 I.kIn d (vE (us:=[]) F j i e b I .nil h)
structure Mk(K:Frag)(C f:Addr):Prop where
 makes:PySem.W.makesIn K C=true
 init:findIn K (.ref C) "__init__"=some ↑f
 fn:isFn K (.ref f)=true
 kp:keepIn K (.ref C)=true
theorem Gf {d:List (Addr × Obj)} {σ:St} {H:Hp} {s:Shared} {Q:VK} {us:List Value} {vs:List V} (M:Mk X.K C f) (F:FnOk X.prog X.w X.K X.mg X.base CX k f fd ps sp) (n:Room (k+1) X.A) (y:Binds X.K fd ps ds) (D:Vals dvs ds)
  (z:o5 CX X E) (I:Inv X d σ H s) (r:Vals vs us)
  (h:∀ x b,H x=none->H b=none->b≠x->sp (.ref x::(vs++dvs)) (upd (upd H b (.own x)) x (.ins C b [])) (λv B=>v=.non/\Q (.ref x) B) E):
  wpAny (model X.prog X.w) X.A (call (.ref C) us) (EP X d σ Q) X.xe s:=by
 have g:=h (s.heap.objs.size+1) s.heap.objs.size (I.hok.fresh (Ql _)) (I.hok.fresh (NZ _)) (OF (PX _));have c:=Inv.made (C:=C) I;have i:Vals (V.ref (s.heap.objs.size+1)::(vs++dvs)) (Value.ref (s.heap.objs.size+1)::(us++ds)):=.cons rfl (r.append D)
 have p:(Value.ref (s.heap.objs.size+1)::us++ds).length=ps.length:=by
  have e:=i.length;rw[F.len _ _ _ _ g]at e;exact e.symm
 refine wpAny_call (Gd (f:=f) I.kIn M.makes M.init (PQ.mp M.fn) (RI (F.run _ X.stack _ _ ⟨Value.ref (s.heap.objs.size+1)::us,[]⟩ (Value.ref (s.heap.objs.size+1)::(us++ds)) _ _ E (n.make C us [])
  (c.env0.make C us []) (y _ (Value.ref (s.heap.objs.size+1)::us) c.kIn p) i g) λr G a=>?_))
 cases r with
 | error e=>exact z d σ _ _ e G c a
 | ok t=>
  cases t with
  | ret u=>
   obtain⟨v,q,o,m,l,j⟩:=c.after a;subst l;exact⟨m,⟨V.ref (s.heap.objs.size+1),q,o,rfl,j⟩⟩
  | next=>exact False.elim a
  | brk=>exact False.elim a
  | cont=>exact False.elim a
theorem Ho (M:Mk X.K C f) (F:FnOk X.prog X.w X.K X.mg X.base CX k f fd ps sp) (o:Room (k+1) X.A) (m:Gl X x) (j:X.mg x=↑C) (n:Binds X.K fd ps ds) (l:Vals dvs ds) (d:o5 CX X E)
  (i:PA X (e::es) t) (b:(x==("__debug__":Str))=false:=by decide) (he:starEach (e::es) X.env=(false,eval e X.env)::starEach es X.env:=by rfl) (a:(backTo pos (starEach es X.env)).any (·.1)=false:=by rfl):
  PE X (.Call (.Name x p) (e::es) [] pos) (tMake C sp dvs E t):=by
 intro g s σ H Q I h;refine OW (tL I m j ?_ b);refine QE (h₀:=X.base) I.ok.mod.kin M.kp (thn (i pos g s σ H _ I h) λus s1 ⟨vs,u,c,r,q⟩=>⟨c.kIn,?_⟩) he a;exact Gf M F o n l d c r q
end
section
variable{X:Cx}{CX:CXT}{k:Nat}{f C:Addr}{fd:FuncData}{ps ks:List Str}{sp:Sp}{E:XK}{x m:Str}{p pos apos kpos:Pos}{e o:Expr}{es:List Expr}{kws:List Keyword}{te ta:TE}{t tk:TA}{nm:Option Str}
variable{g:List Value->List Value->List Value}{gV:List V->List V->List V}
end
structure iY(N P:List Str)(sc:Scope):Prop where
 kind:sc.kind=.function
 co:sc.isCoroutine=false
 gen:sc.isGenerator=false
 nd:N.Nodup
 pre:N.take P.length=P
 par:∀ x∈P,sc.names.lookup x=some .local\/sc.names.lookup x=some .cell
 nofree:∀ y∈sc.names,y.2≠.free
theorem yF{b:Str->Option NameKind}{x:Str}:∀{a:List (Str × Value)} {m:Str->Option Value},(∀ v,(x,v)∉a)->bindL b a m x=m x
 | [],_,_=>rfl
 | (n,v)::r,m,h=>by
  unfold bindL;rw[yF λw hw=>h w (N5 _ hw)]
  split
  . have:x≠n:=by rintro rfl;exact h v Oa
    simp[this]
  . rfl
theorem yG{b:Str->Option NameKind}{x:Str}:∀{a:List (Str × Value)} {m:Str->Option Value},(∀ v,(x,v)∉a)->bindC b a m x=m x
 | [],_,_=>rfl
 | (n,v)::r,m,h=>by
  unfold bindC;rw[yG λw hw=>h w (N5 _ hw)]
  split
  . rfl
  . have:x≠n:=by rintro rfl;exact h v Oa
    simp[this]
theorem yH{a:Str->Option NameKind}{x:Str}{v:Value}:∀{P:List Str} {vs:List Value} {i:Nat} {m:Str->Option Value},P.Nodup->P[i]? =some x->vs[i]? =some v->a x=some .local->
  bindL a (P.zip vs) m x=some v
 | [],_,_,_,_,h,_,_=>by simp at h
 | _::_,[],_,_,_,_,h,_=>by simp at h
 | p::P,w::vs,0,m,nd,h1,h2,hk=>by
  simp at h1 h2;subst h1;subst h2;show bindL a ((p,w)::P.zip vs) m p=_;unfold bindL;rw[yF λv b=>(OR.mp nd).1 (Rm b).1,Os hk];simp
 | p::P,w::vs,i+1,m,nd,h1,h2,hk=>by
  show bindL a ((p,w)::P.zip vs) m x=_;unfold bindL;exact yH (i:=i) (OR.mp nd).2 (by simpa using h1) (by simpa using h2) hk
theorem yI{a:Str->Option NameKind}{x:Str}{v:Value}:∀{P:List Str} {vs:List Value} {i:Nat} {m:Str->Option Value},P.Nodup->P[i]? =some x->vs[i]? =some v->a x≠some .local->
  bindC a (P.zip vs) m x=some v
 | [],_,_,_,_,h,_,_=>by simp at h
 | _::_,[],_,_,_,_,h,_=>by simp at h
 | p::P,w::vs,0,m,nd,h1,h2,hk=>by
  simp at h1 h2;subst h1;subst h2;show bindC a ((p,w)::P.zip vs) m p=_;unfold bindC;rw[yG λv b=>(OR.mp nd).1 (Rm b).1,Og hk];simp
 | p::P,w::vs,i+1,m,nd,h1,h2,hk=>by
  show bindC a ((p,w)::P.zip vs) m x=_;unfold bindC;exact yI (i:=i) (OR.mp nd).2 (by simpa using h1) (by simpa using h2) hk
def start(N:List Str)(vs:List V):St:=vs.map some++List.replicate (N.length-vs.length) none
def cxOf(CX:CXT)(P:Program)(w:World)(K:Frag)(mg:Str->Option Value)(base:Heap)(N:List Str)(a:Str)(scope:Scope)(f:Addr)(c:Value)(A:Around)(outer:List Env)(s:Shared)(H:Hp)(E:XK):Cx where
 prog:=P
 w:=w
 K:=K
 mg:=mg
 base:=base
 A:=A.deeper (envOfC a scope s.heap.objs.size f c)
 N:=N
 s₀:=s
 H₀:=H
 env:=envOfC a scope s.heap.objs.size f c
 outer:=outer
 stack:=envOfC a scope s.heap.objs.size f c::outer
 ex:=[]
 calm:=true
 fn:=λ_=>true
 pn:=[]
 xe:=λe d=>wpAny (model P w) (A.deeper (envOfC a scope s.heap.objs.size f c)) (leaving (envOfC a scope s.heap.objs.size f c) e) (λ_ b=>CX outer H s E e b) (λg b=>CX outer H s E g b) d
theorem qe{a:Scope}{n:Nat}{x:Str}(h:a.names.lookup x=some .cell):∃ c,(cellsFrom n a.names []).lookup x=some c:=by
 have q:=Ra a.names n [] (.inl h);exact Option.isSome_iff_exists.mp q
variable{scope:Scope}
theorem Ez {N:List Str} {d:Str} {B:Value} {s s1:Shared} {H:Hp} {E:XK} {vs:List V}
  (S:iY N ps scope) (I:A.handled=none) (g:Env0 P w K mg base A outer s H) (L:vs.length=ps.length) (r:Vals vs us)
  (x:InCallC s s.heap.objs.size (bindL (envOfC d scope s.heap.objs.size f B).kindOf (ps.zip us) λ_=>none) (cellsFrom (s.heap.objs.size+1) scope.names []) (bindC (envOfC d scope s.heap.objs.size f B).kindOf (ps.zip us) λ_=>none) s1):
  Inv (cxOf CX P w K mg base N d scope f B A outer s H E) [] (start N vs) H s1:=by
 have G:ps.length<=N.length:=by have:=congrArg List.length S.pre;rw[OL]at this;lia
 obtain⟨h1,M,rfl,C⟩:=x.done;have l:∀ b:Addr,b∉(cxOf CX P w K mg base N d scope f B A outer s H E).ex:=λb z=>absurd (show b∈([]:List Addr) from z) (by simp)
 refine⟨⟨g.mod,S.kind,rfl,rfl,NZ _,λy z c h1 h2=>?_,λy j=>?_,λy c _ h=>?_,λ_=>I,Around.frames_deeper g.frames,.inr ⟨rfl,rfl⟩,λb z=>absurd z (l b),g.bs,g.bsz,λb _ _=>l b,λb z=>absurd z (l b),g.funs,g.frf⟩,
  rfl,g.bare,Un.kept C,⟨_,x.toInCall.ns,λi y v h1 h2 h3=>?_⟩,λy c h=>⟨_,x.cell y c h⟩,g.hok.fresh (NZ _),λy c h=>?_,λp m=>absurd (show p∈([]:List (Addr × Obj)) from m) (by simp),g.hok.kept C,?_⟩
 . exact name_of_addr x.apart (OY h1) (OY h2)
 . have j:scope.names.lookup y=some .cell\/scope.names.lookup y=some .free:=j;rcases j with j | j
   . exact qe j
   . exact absurd rfl (S.nofree _ (OY j))
 . exact OH (x.above y c (OY h))
 . have t:i<vs.length:=by
    unfold start at h2;by_cases t:i<vs.length
    . exact t
    . rw[Ot (by simpa using t)]at h2;rw[List.getElem?_replicate]at h2
      split at h2 <;> cases h2
   have F:vs[i]? =some v:=by
    unfold start at h2;rw[Ow (by simpa using t),NR]at h2
    cases e:vs[i]? with
    | none=>rw[e]at h2;cases h2
    | some a=>rw[e]at h2;cases h2;rfl
   obtain⟨u,D,J⟩:=r.get F
   have m:ps[i]? =some y:=by
    rw[← S.pre,List.getElem?_take_of_lt #[4]];exact h1
   have o:ps.Nodup:=by rw[← S.pre];exact S.nd.sublist (List.take_sublist _ _)
   refine⟨u,J,?_⟩;rcases S.par y (NS m) with k | k
   . exact .inl ⟨k,yH o m D k⟩
   . obtain⟨c,e⟩:=qe (n:=s.heap.objs.size+1) k;refine .inr ⟨.inl k,c,e,?_⟩;have q:=x.cell y c e;rw[yI o m D (by show scope.names.lookup y≠_;rw[k];decide)]at q;exact q
 . exact g.hok.fresh (OH (x.above y c (OY h)))
 . unfold start;show _=N.length;rw[Oy,NM,Rr];lia
theorem G2 {k:Nat} {name a:Str} {c:Arguments} {d:List Stmt} {Y kV m U h ct oc:Value} {Z od:Option Addr}
  {F:Array (Option Value)} {N ps:List Str} {sp:Sp} (lk:K.lookup f=some ⟨oc,od,.func (fnOf name a c d scope Y kV m U Z h ct),F⟩) (G:codeIn K h a=true) (S:iY N ps scope)
  (z:∀ vs H Q E,sp vs H Q E->vs.length=ps.length)
  (i:∀(A:Around) (outer:List Env) (s:Shared) (H:Hp) (vs:List V) (Q:VK) (E:XK),Room k (A.deeper (envOfC a scope s.heap.objs.size f h))->sp vs H Q E->
   ∃ t,PSs (cxOf CX P w K mg base N a scope f h A outer s H E) d t/\t {nx:=λ_ g=>Q .non g,rt:=Q} (start N vs) H):
  FnOk P w K mg base CX (k+1) f (fnOf name a c d scope Y kV m U Z h ct) ps sp:=by
 refine⟨z,λA outer s H T us vs Q E M C hb r p=>?_⟩;have hl:=z _ _ _ _ p;have X:K.In s.heap:=C.mod.kin.keeps λb o e=>(C.bs b o e).1;have O:s.heap.NoLimit:=C.mod.nolimit.keeps λb o e=>(C.bs b o e).1
 have j:∀ y∈ps.zip us,scope.names.lookup y.1=some .local\/(scope.names.lookup y.1=some .cell/\((cellsFrom (s.heap.objs.size+1) scope.names []).lookup y.1).isSome=true):=λ⟨n,v⟩ hy=>by
  rcases S.par n (Rm hy).1 with q | q
  . exact .inl q
  . exact .inr ⟨q,Ra _ _ _ (.inl q)⟩
 refine codeAny_call_function M.depth (X _ _ lk) rfl S.co S.gen rfl (PySem.W.codeRec_of X G) (hb _ _ _ _ ?_);refine wpAny_newFunctionEnv_cells S.kind j λaa he s1 x=>?_;subst he;refine⟨O.keeps x.toInCall.keep,codeAny_func ?_⟩;obtain⟨t,ht,hq⟩:=i A outer s H vs Q E (M.deeper _) p;have I:Inv (cxOf CX P w K mg base N a scope f h A outer s H E) [] (start N vs) H s1:=Ez S M.hd C hl r x;refine OZ (ht [] s1 (start N vs) H _ I hq) (λfl R l=>?_) λe R l=>l
 have B:∀{D:St} {g:Hp} {v:V} {u:Value},Inv (cxOf CX P w K mg base N a scope f h A outer s H E) [] D g R->RelV v u->Q v g->CE outer P w H s Q u R:=
  λ{D g v u} J L q=>⟨v,g,J.os,J.bare,J.base,J.hok,L,q⟩
 cases fl with
 | ret u=>
  obtain⟨v,D,g,J,L,q⟩:=l;exact B J L q
 | next=>
  obtain⟨D,g,J,q⟩:=l;exact B (v:=V.non) (u:=Value.none) J rfl q
 | brk=>
  obtain⟨_,_,_,q⟩:=l;exact False.elim q
 | cont=>
  obtain⟨_,_,_,q⟩:=l;exact False.elim q
section
variable{X:Cx}{x:Str}{p pos:Pos}{e:Expr}{es:List Expr}{t:TA}{id T:String}{r:List V->Hp->VK->Prop}
def tCB(r:List V->Hp->VK->Prop)(t:TA):TE:=λσ H Q=>t σ H λvs a=>r vs a Q
theorem ap (n:CallR X (.builtin id) r) (k:Gl X x) (i:X.mg x=none) (l:bootBuiltins x=some (.builtin id)) (f:PA X (e::es) t) (g:x≠"__name__":=by decide) (b:(x==("__debug__":Str))=false:=by decide)
  (he:starEach (e::es) X.env=(false,eval e X.env)::starEach es X.env:=by rfl) (a:(backTo pos (starEach es X.env)).any (·.1)=false:=by rfl):PE X (.Call (.Name x p) (e::es) [] pos) (tCB r t):=by
 intro c s σ H Q I h;refine OW (fm I k i l ?_ g b);exact Qg (thn (f pos c s σ H _ I h) λus s1 ⟨vs,m,j,r1,d⟩=>n c s1 σ m vs us Q j r1 d) he a
theorem cW (n:CallR X (.type T) r) (k:Gl X x) (i:X.mg x=none) (l:bootBuiltins x=some (.type T)) (f:PA X (e::es) t) (g:x≠"__name__":=by decide) (b:(x==("__debug__":Str))=false:=by decide)
  (he:starEach (e::es) X.env=(false,eval e X.env)::starEach es X.env:=by rfl) (a:(backTo pos (starEach es X.env)).any (·.1)=false:=by rfl):PE X (.Call (.Name x p) (e::es) [] pos) (tCB r t):=by
 intro c s σ H Q I h;refine OW (fm I k i l ?_ g b);exact OJ (thn (f pos c s σ H _ I h) λus s1 ⟨vs,m,j,r1,d⟩=>n c s1 σ m vs us Q j r1 d) he a
end
end L2
namespace HT
open PySem PyProof.Rows
section
open PySem.SeqAt
open PySem.AutoSeq1 (wpAny_loadPart')
open PySem.MeetsSeq PySem.MeetsSeq2 PySem.MeetsSeq3
end
section
variable{prog:Program}{w:World}{A:Around}{E:Value->Shared->Prop}{s:Shared}
def sIx(n d:Nat):Option Int->Nat
 | none=>d
 | some v=>if v<0 then(v+(n:Int)).toNat else min v.toNat n
def sIx_none(n d:Nat):sIx n d none=d:=rfl
theorem sIx_nat(n d k:Nat):sIx n d (some (k:Int))=min k n:=by
 show(if (k:Int)<0 then((k:Int)+(n:Int)).toNat else min (k:Int).toNat n)=min k n;rw[if_neg #[4],Int.toNat_natCast]
end
end HT
namespace L2
open PySem PySem.Spec PyProof.Rows
abbrev TO:=St->Hp->(Option Int->Hp->Prop)->Prop
def PO(X:Cx)(e:Option Expr)(t:TO):Prop:=
 ∀(b:List (Addr × Obj)) (s:Shared) (σ:St) (H:Hp) (Q:Option Int->Hp->Prop),Inv X b σ H s->t σ H Q->
  wpAny (model X.prog X.w) X.A (evalPart e X.env) (λu c=>∃ o a,Inv X b σ a c/\IsPart u o/\Q o a) X.xe s
def gb:TO:=λ_ H Q=>Q none H
def tPart(t:TE):TO:=λσ H Q=>t σ H λx a=>∃ i,x=.int i/\Q (some i) a
theorem vF{ns:∅}:∀{us:List Value},Vals (ns.map V.int) us->IntsAre us ns:=by
 induction ns with
 | nil=>intro us r;rw[List.map_nil]at r;cases r;exact .nil
 | cons n ns a=>
  intro us r;rw[OD]at r
  cases r with
  | cons r1 b=>
   obtain⟨t,e⟩:=r1;subst e;exact .cons n t (a b)
section
variable{X:Cx}{e:Expr}{te:TE}{lo hi:Option Expr}{tl th:TO}{pos p2:Pos}
theorem gN:PO X none gb:=by
 intro a s σ H Q I h;rw[evalPart_none];exact OC ⟨none,H,I,.none,h⟩
theorem eh(h:PE X e te):PO X (some e) (tPart te):=by
 intro d s σ H Q I hw;rw[evalPart_some];refine thn (h d s σ H _ I hw) λu s1 ⟨x,b,c,r1,a⟩=>?_;obtain⟨i,rfl,q⟩:=a;obtain⟨t,rfl⟩:=r1;exact⟨some i,b,c,.int i t,q⟩
def SlR(X:Cx)(r:V->Option Int->Option Int->Hp->VK->Prop):Prop:=
 ∀(c:List (Addr × Obj)) (s:Shared) (σ:St) (H:Hp) (x:V) (v b a:Value) (lo hi:Option Int) (d:Addr) (Q:VK),Inv X c σ H s->RelV x v->s.heap.IsSliceOf d b a .none->IsPart b lo->IsPart a hi->r x lo hi H Q->
  ∃ T id,typeLookup (.type T) "__getitem__"=pure (some (.builtin id))/\s.TypeIs v T/\wpAny (model X.prog X.w) X.A (getItem v (.ref d)) (EP X c σ Q) X.xe s
def tSl(r:V->Option Int->Option Int->Hp->VK->Prop)(te:TE)(tl th:TO):TE:=λσ H Q=>te σ H λx a=>tl σ a λl b=>th σ b λu c=>r x l u c Q
theorem fC{r:V->Option Int->Option Int->Hp->VK->Prop}(y:SlR X r)(he:PE X e te)(B:PO X lo tl)(n:PO X hi th):PE X (.Subscript e (.Slice lo hi none p2) pos) (tSl r te tl th):=by
 intro c s σ H Q I h;refine Subscript_ (thn (he c s σ H _ I h) λv s1 ⟨x,K,j,r1,E⟩=>?_);refine wpAny_Slice (thn (B c s1 σ K _ j E) λf C ⟨l,F,t,p,k⟩=>thn (n c C σ F _ t k) λd a ⟨u,g,z,G,i⟩=>?_);rw[evalPart_none];refine OC ?_;have o:Inv X c σ g {a with heap:=a.heap.push {cls:=.type "slice",data:=.fields #[f,d,.none]}}:=z.kept (t':=a.toks) λb L q=>N0 _ q;obtain⟨T,id,m,D,J⟩:=y c {a with heap:=a.heap.push {cls:=.type "slice",data:=.fields #[f,d,.none]}} σ g x v f d l u a.heap.objs.size Q o r1 (Heap.IsSliceOf.new ..) p G i;show wpAny (model X.prog X.w) X.A (subscriptTail e (.Slice lo hi none p2) v (.ref a.heap.objs.size)) (EP X c σ Q) X.xe {a with heap:=a.heap.push {cls:=.type "slice",data:=.fields #[f,d,.none]}};exact RJ (ops:=[.ref a.heap.objs.size,v]) D m J (by with_unfolding_all rfl)
def cutV(xs:List V)(lo hi:Option Int):List V:=(xs.drop (HT.sIx xs.length 0 lo)).take (HT.sIx xs.length xs.length hi-HT.sIx xs.length 0 lo)
theorem B8(xs:List V)(lo hi:Option Int):(cutV xs lo hi).length<=xs.length:=by
 unfold cutV;rw[OL,List.length_drop];lia
end
def ixN(n:Nat)(i:Int):Option Nat:=if 0<=i then(if i<n then some i.toNat else none) else if -(n:Int)<=i then some (i+n).toNat else none
def atI{α:Type}(xs:List α)(i:Int):Option α:=(ixN xs.length i).bind λj=>xs[j]?
theorem Hq{n:Nat}{i:Int}{j:Nat}(h:ixN n i=some j):seqIndex? i n=some j/\j<n/\ -(n:Int)<=i/\i<n:=by
 unfold ixN at h;by_cases h0:0<=i
 . rw[Os h0]at h;by_cases h1:i<n
   . rw[Os h1]at h;have e:i.toNat=j:=Pi h;exact⟨by rw[seqIndex_of h0 h1,e],by lia,by lia,h1⟩
   . rw[Og h1]at h;cases h
 . rw[Og h0]at h;by_cases h1: -(n:Int)<=i
   . rw[Os h1]at h;have e:(i+n).toNat=j:=Pi h;exact⟨by rw[seqIndex_neg #[4] h1,e],by lia,h1,by lia⟩
   . rw[Og h1]at h;cases h
theorem xG{α:Type}{xs:List α}{i:Int}{v:α}(h:atI xs i=some v):∃ j,seqIndex? i xs.length=some j/\xs[j]? =some v/\j<xs.length/\ -(xs.length:Int)<=i/\i<xs.length:=by
 unfold atI at h
 cases e:ixN xs.length i with
 | none=>rw[e]at h;cases h
 | some j=>
  rw[e]at h;obtain⟨h1,h2,h3,h4⟩:=Hq e;exact⟨j,h1,h,h2,h3,h4⟩
theorem gc{α:Type}{xs:List α}{j:Nat}{v:α}(h:xs[j]? =some v):atI xs (j:Int)=some v:=by
 have a:j<xs.length:=(NO.mp h).1
 have e:ixN xs.length (j:Int)=some j:=by
  unfold ixN;rw[Os #[4],Os #[4]];simp
 unfold atI;rw[e];exact h
def xH(b:Expr):Prop:=∀ o i,subscripted b false o i=operate [o,i] (getItem o i)
def IxR(X:Cx)(r:R2):Prop:=
 ∀(b a:Expr) (c:List (Addr × Obj)) (s:Shared) (σ:St) (H:Hp) (x y:V) (v u:Value) (Q:VK),Inv X c σ H s->RelV x v->RelV y u->r x y H Q->
  subscripted a false v u=operate [v,u] (getItem v u)->wpAny (model X.prog X.w) X.A (subscriptTail b a v u) (EP X c σ Q) X.xe s
def MtR(X:Cx)(id:String)(r:V->List V->Hp->VK->Prop):Prop:=
 ∀(b:List (Addr × Obj)) (s:Shared) (σ:St) (H:Hp) (x:V) (a:List V) (v:Value) (c:List Value) (Q:VK),Inv X b σ H s->RelV x v->Vals a c->r x a H Q->
  wpAny (model X.prog X.w) X.A (call (.builtin id) (v::c)) (EP X b σ Q) X.xe s
section
variable{X:Cx}{a b:Expr}{ta tb:TE}{pos:Pos}
theorem z8{r:R2}(m:IxR X r)(g:PE X a ta)(k:PE X b tb)(i:xH b):PE X (.Subscript a b pos) (tOp r ta tb):=by
 intro e s σ H Q I h;exact Subscript_ (binT g k I h λv u j x y d l c f q=>m a b e j σ d x y v u Q l c f q (i _ _))
def rIxL(K:Frag):R2:=λx y H Q=>∃ p a i v,x=.ref p/\y=.int i/\SqL K H p a/\atI a i=some v/\Q v H
def rIxT(K:Frag):R2:=λx y H Q=>∃ p a i v,x=.ref p/\y=.int i/\SqT K H p a/\atI a i=some v/\Q v H
def rIxS:R2:=λx y H Q=>∃ z i c,x=.str z/\y=.int i/\z.length<=sizeLine/\atI z.cps.toList i=some c/\Q (.str ⟨#[c]⟩) H
theorem CO:IxR X (rIxL X.K):=by
 intro c d g s σ H x y v u Q I A B h l;obtain⟨p,D,i,z,rfl,rfl,m,he,q⟩:=h;cases A;obtain⟨t,rfl⟩:=B;obtain⟨o,r,b,F⟩:=I.list m;obtain⟨j,h1,h2,h3,h4,h5⟩:=xG he;obtain⟨w,k,e⟩:=r.get h2;have n:=r.length;have E:=me;have a:EP X g σ Q w s:=⟨z,H,I,e,q⟩;by_cases h0:0<=i
 . have f:i.toNat=j:=by
    rw[seqIndex_of h0 h5]at h1;exact Pi h1
   exact item_listR b.isList h0 #[4] (by rw[f];simpa using k) a l
 . have f:(i+(o.toArray.size:Int)).toNat=j:=by
    rw[seqIndex_neg #[4] h4]at h1;rw[N8,← n];exact Pi h1
   exact Rb (x:=w) b.isList.typeIs slot_list_getitem.lookup
    (wpAny_getItem_list_neg (Q:=λr C=>r=w/\EP X g σ Q r C) b.isList #[4] (by rw[N8] <;> lia) #[4] (by rw[f];simpa using k) ⟨rfl,a⟩) l
theorem IM:IxR X (rIxT X.K):=by
 intro a b e s σ H x y v u Q I n o h m;obtain⟨p,B,i,z,rfl,rfl,g,he,q⟩:=h;cases n;obtain⟨t,rfl⟩:=o;obtain⟨D,r,f,E⟩:=I.tuple g;obtain⟨j,h1,h2,h3,h4,h5⟩:=xG he;obtain⟨w,l,c⟩:=r.get h2;have k:=r.length;have C:=me;have d:EP X e σ Q w s:=⟨z,H,I,c,q⟩
 exact Rb (x:=w) f.typeIs slot_tuple_getitem.lookup
  (getItem_tuple (j:=j) (Q:=λr A=>r=w/\EP X e σ Q r A) f #[4] #[4] (by rw[N8,← k];exact h1) (by simpa using l) ⟨rfl,d⟩) m
theorem IN:IxR X rIxS:=by
 intro a b k s σ H x y v u Q I f g h e;obtain⟨z,i,c,rfl,rfl,n,he,q⟩:=h;obtain⟨t,rfl⟩:=f;obtain⟨l,rfl⟩:=g;obtain⟨j,h1,h2,h3,h4,h5⟩:=xG he;have d:z.cps.toList.length=z.length:=by simp[Str.length]
 rw[d]at h1 h4 h5;have m:=me
 exact RJ (Qh s z t) slot_str_getitem.lookup (getItem_str (c:=c) (by
  have e1:decide (i < -(2^63:Int))=false:=NQ #[4];have e2:decide (i ≥ 2^63)=false:=NQ #[4];rw[e1,e2,Bool.or_false]) (by rw[h1];simpa using h2) ⟨.str ⟨#[c]⟩,H,I.tok _,⟨_,rfl⟩,q⟩) e
theorem Inv.lst{a:List (Addr × Obj)}{σ:St}{H:Hp}{s:Shared}{p:Addr}{xs:List V}(I:Inv X a σ H s)(h:H p=↥xs):
  ∃(NF:List Value) (n:Nat),Vals xs NF/\s.heap.get? p=some {cls:=.type "list",data:=.seq NF.toArray n}/\xs.length<=sizeLine:=by
 obtain⟨z,NF,n,r,e⟩:=I.hok p _ h;exact⟨NF,n,r,e,z⟩
theorem An(a b:Option Int)(n:Nat):(sliceBounds a b none n).1=((HT.sIx n 0 a:Nat):Int)/\(sliceBounds a b none n).2.1=((HT.sIx n n b:Nat):Int)/\(sliceBounds a b none n).2.2=1:=by
 refine⟨?_,?_,rfl⟩
 . cases a with
   | none=>simp[sliceBounds,HT.sIx]
   | some i=>
    simp only[sliceBounds,HT.sIx,Option.getD_none,show(1:Int)>0 by decide,RL];by_cases h:i<0
    . simp only[h,RL] <;> lia
    . simp only[h,if_false] <;> lia
 . cases b with
   | none=>simp[sliceBounds,HT.sIx]
   | some i=>
    simp only[sliceBounds,HT.sIx,Option.getD_none,show(1:Int)>0 by decide,RL];by_cases h:i<0
    . simp only[h,RL] <;> lia
    . simp only[h,if_false] <;> lia
theorem zo(NF:List Value)(a b:Option Int):slicePick NF.toArray a b none=((NF.drop (HT.sIx NF.length 0 a)).take (HT.sIx NF.length NF.length b-HT.sIx NF.length 0 a)).toArray:=by
 obtain⟨h1,h2,h3⟩:=An a b NF.toArray.size;unfold slicePick;rw[h1,h2,h3];simp only[sliceRange_one,pick_run,N8] <;> rfl
def rSlL(K:Frag):V->Option Int->Option Int->Hp->VK->Prop:=λx c d H Q=>∃ a b,x=.ref a/\SqL K H a b/\∀ p,H p=none->Q (.ref p) (upd H p (.lst (cutV b c d)))
theorem Hr:SlR X (rSlL X.K):=by
 intro u s σ H x v p y d e t Q I n k i j h;obtain⟨a,c,rfl,g,q⟩:=h;cases n;obtain⟨z,r,f,m⟩:=I.list g;have l:=r.length;refine⟨"list",_,slot_list_getitem.lookup,f.isList.typeIs,?_⟩;refine QP f.isList k i j .none (by simp) ?_ (by rw[N8] <;> lia);rw[zo,← l];refine⟨.ref s.heap.objs.size,_,I.laid (t':=s.toks) (o:=.lst (cutV c d e)) (λb w q=>N0 _ q) (NZ _) ?_,rfl,q _ (I.hok.fresh (NZ _))⟩;exact⟨NY (B8 c d e) m,_,0,(r.drop (HT.sIx c.length 0 d)).take (HT.sIx c.length c.length e-HT.sIx c.length 0 d),Oq _ rfl⟩
def flatV:V->Bool
 | .non=>true
 | .bl _=>true
 | .int _=>true
 | .str _=>true
 | _=>false
def eqV:V->V->Bool
 | .non,.non=>true
 | .bl a,.bl b=>a==b
 | .bl a,.int b=>(if a then 1 else 0)==b
 | .int a,.bl b=>a==(if b then 1 else 0)
 | .int a,.int b=>a==b
 | .str a,.str b=>a==b
 | _,_=>false
theorem IO{A:Around}{s:Shared}{y x:V}{u v:Value}(f:RelV y u)(c:RelV x v)(g:flatV y=true)(e:flatV x=true):SeqAt.EqAt A s u v (eqV y x):=by
 cases y with
 | non=>
  cases f
  cases x with
  | non=>cases c;exact SeqAt.EqAt.same _
  | bl b=>cases c;exact SeqAt.EqAt.none_bool b
  | int b=>obtain⟨t,rfl⟩:=c;exact SeqAt.EqAt.none_int b t
  | str b=>obtain⟨t,rfl⟩:=c;exact SeqAt.EqAt.none_str b t
  | _=>exact absurd (show false=true from e) NV
 | bl a=>
  cases f
  cases x with
  | non=>cases c;exact SeqAt.EqAt.bool_none a
  | bl b=>cases c;exact SeqAt.EqAt.bool_bool a b
  | int b=>obtain⟨t,rfl⟩:=c;exact SeqAt.EqAt.bool_int a b t
  | str b=>obtain⟨t,rfl⟩:=c;exact SeqAt.EqAt.bool_str a b t
  | _=>exact absurd (show false=true from e) NV
 | int a=>
  obtain⟨d,rfl⟩:=f
  cases x with
  | non=>cases c;exact SeqAt.EqAt.int_none a d
  | bl b=>cases c;exact SeqAt.EqAt.int_bool a d b
  | int b=>obtain⟨t,rfl⟩:=c;exact SeqAt.EqAt.int_int a d b t
  | str b=>obtain⟨t,rfl⟩:=c;exact SeqAt.EqAt.int_str a d b t
  | _=>exact absurd (show false=true from e) NV
 | str a=>
  obtain⟨d,rfl⟩:=f
  cases x with
  | non=>cases c;exact SeqAt.EqAt.str_none a d
  | bl b=>cases c;exact SeqAt.EqAt.str_bool a d b
  | int b=>obtain⟨t,rfl⟩:=c;exact SeqAt.EqAt.str_int a d b t
  | str b=>obtain⟨t,rfl⟩:=c;exact SeqAt.EqAt.str_str a d b t
  | _=>exact absurd (show false=true from e) NV
 | _=>exact absurd (show false=true from g) NV
def eqU(x:V)(u:Value):Bool:=match u with
 | .none=>eqV .non x
 | .bool b=>eqV (.bl b) x
 | .int i _=>eqV (.int i) x
 | .str z _=>eqV (.str z) x
 | _=>false
theorem EA{x y:V}{u:Value}(r:RelV y u)(f:flatV y=true):eqU x u=eqV y x:=by
 cases y with
 | non=>cases r;rfl
 | bl b=>cases r;rfl
 | int i=>obtain⟨t,rfl⟩:=r;rfl
 | str z=>obtain⟨t,rfl⟩:=r;rfl
 | _=>exact absurd (show false=true from f) NV
theorem o6{x:V}:∀{xs:List V} {us:List Value},Vals xs us->xs.all flatV=true->us.any (eqU x)=xs.any λy=>eqV y x
 | _,_,.nil,_=>rfl
 | y::xs,u::us,.cons r t,f=>by
  rw[P6,OB]at f;rw[QQ,QQ,EA r f.1,o6 t f.2]
theorem mf{A:Around}{s:Shared}{x:V}{v:Value}(b:RelV x v)(c:flatV x=true):∀{xs:List V} {us:List Value},Vals xs us->xs.all flatV=true->∀ u∈us,SeqAt.EqAt A s u v (eqU x u)
 | _,_,.nil,_=>λu a=>by cases a
 | y::xs,u::us,.cons r t,f=>λd a=>by
  rw[P6,OB]at f;rcases N4.mp a with rfl | a
  . rw[EA r f.1];exact IO r b f.1 c
  . exact mf b c t f.2 d a
def inV(x:V)(xs:List V):Bool:=xs.any λy=>eqV y x
def rIn(K:Frag)(b:Bool):R2:=λx y H Q=>∃ p a,y=.ref p/\(SqL K H p a\/SqT K H p a)/\flatV x=true/\a.all flatV=true/\Q (.bl (if b then !inV x a else inV x a)) H
theorem np:OpR X (compareOp .In) (rIn X.K false):=by
 intro k s σ H x y v u Q I f i h;obtain⟨p,j,rfl,a,e,c,q⟩:=h;cases i;rcases a with a | a
 . obtain⟨b,r,d,g⟩:=I.list a;refine SeqAt.in_listAt (eqU x) d.isList (λw hw=>mf f e r c w (by simpa using hw)) ⟨.bl _,H,I,rfl,?_⟩;rw[show b.toArray.any (eqU x)=b.any (eqU x) by simp,o6 r c];exact q
 . obtain⟨b,r,d,g⟩:=I.tuple a;refine SeqAt.in_tupleAt (eqU x) d (λw hw=>mf f e r c w (by simpa using hw)) ⟨.bl _,H,I,rfl,?_⟩;rw[show b.toArray.any (eqU x)=b.any (eqU x) by simp,o6 r c];exact q
theorem rJ:OpR X (compareOp .NotIn) (rIn X.K true):=by
 intro k s σ H x y v u Q I f i h;obtain⟨p,j,rfl,a,e,c,q⟩:=h;cases i;rcases a with a | a
 . obtain⟨b,r,d,g⟩:=I.list a;refine SeqAt.notIn_listAt (eqU x) d.isList (λw hw=>mf f e r c w (by simpa using hw)) ⟨.bl _,H,I,rfl,?_⟩;rw[show b.toArray.any (eqU x)=b.any (eqU x) by simp,o6 r c];exact q
 . obtain⟨b,r,d,g⟩:=I.tuple a;refine SeqAt.notIn_tupleAt (eqU x) d (λw hw=>mf f e r c w (by simpa using hw)) ⟨.bl _,H,I,rfl,?_⟩;rw[show b.toArray.any (eqU x)=b.any (eqU x) by simp,o6 r c];exact q
theorem Ao:OpR X (compareOp .NotIn) (λx y H Q=>∃ i j,x=.str i/\y=.str j/\Q (.bl (!(!(Builtin.Str.occurrences j i 0 j.length 1).isEmpty))) H):=by
 intro c s σ H x y v u Q I a b h;obtain⟨i,j,rfl,rfl,q⟩:=h;obtain⟨t,rfl⟩:=a;obtain⟨d,rfl⟩:=b;exact notIn_str ⟨.bl _,H,I,rfl,q⟩
theorem rK:CallR X (.builtin "len") (λxs H Q=>∃ p ys,xs=[.ref p]/\(SqL X.K H p ys\/SqT X.K H p ys)/\Q (.int ys.length) H):=by
 intro i s σ H xs k Q I r h;obtain⟨p,ys,rfl,a,q⟩:=h;obtain⟨u,rfl,g⟩:=d7 r;cases g;have j:=me;rcases a with a | a
 . obtain⟨e,c,b,f⟩:=I.list a;have d:=c.length;exact Calls.call_len_list b.isList (by simp only[N8] <;> lia) ⟨.int ys.length,H,I.tok _,⟨s.toks+1,by rw[N8,d]⟩,q⟩
 . obtain⟨e,c,b,f⟩:=I.tuple a;have d:=c.length;exact len_tuple b (by simp only[N8] <;> lia) ⟨.int ys.length,H,I.tok _,⟨s.toks+1,by rw[N8,d]⟩,q⟩
theorem Ap:CallR X (.builtin "len") (λxs H Q=>∃ z,xs=[.str z]/\z.length<=sizeLine/\Q (.int z.length) H):=by
 intro c s σ H xs d Q I r h;obtain⟨z,rfl,a,q⟩:=h;obtain⟨u,rfl,t,rfl⟩:=d7 r;have b:=me;exact len_str #[4] ⟨.int z.length,H,I.tok _,⟨_,rfl⟩,q⟩
theorem rL:CallR X (.type "list") (λxs H Q=>∃ p ys,xs=[.ref p]/\(SqL X.K H p ys\/SqT X.K H p ys)/\∀ l,H l=none->Q (.ref l) (upd H l (.lst ys))):=by
 intro z s σ H xs C Q I r h;obtain⟨p,ys,rfl,j,q⟩:=h;obtain⟨u,rfl,B⟩:=d7 r;cases B
 have i:∀(c:List Value),Vals ys c->ys.length<=sizeLine->∀(a:Heap) (d:Nat),(∀ b y,s.heap.get? b=some y->a.get? b=some y)->
   a.get? s.heap.objs.size=some {cls:=.type "list",dict:=none,data:=.seq c.toArray d,slots:=#[]}->EP X z σ Q (.ref s.heap.objs.size) {s with heap:=a}:=λc f k a d g e=>
  ⟨.ref s.heap.objs.size,_,I.laid (t':=s.toks) g (NZ _) (show ObjOk X.prog X.w _ a _ (.lst ys) from⟨k,c,d,f,e⟩),rfl,q _ (I.hok.fresh (NZ _))⟩
 rcases j with j | j
 . obtain⟨c,f,m,k⟩:=I.list j;have A:=f.length;obtain⟨o,x,v,n,t⟩:=m.isList;exact call_list_seq p (.inl rfl) x v t (λa d g e=>i c f k a d g e) (by simp only[N8] <;> lia)
 . obtain⟨c,f,m,k⟩:=I.tuple j;have A:=f.length;obtain⟨o,x,v,n,t⟩:=m;exact call_list_seq p (.inr rfl) x v t (λa d g e=>i c f k a d g e) (by simp only[N8] <;> lia)
theorem zp:CallR X (.type "tuple") (λxs H Q=>∃ p ys,xs=[.ref p]/\((SqL X.K H p ys/\∀ l,H l=none->Q (.ref l) (upd H l (.tup ys)))\/(SqT X.K H p ys/\Q (.ref p) H))):=by
 intro i s σ H xs x Q I r h;obtain⟨p,ys,rfl,h⟩:=h;obtain⟨u,rfl,m⟩:=d7 r;cases m;rcases h with ⟨d,q⟩ | ⟨d,q⟩
 . obtain⟨f,g,c,k⟩:=I.list d;have v:=g.length;refine call_tuple_list c.isList (λa n=>?_) (by simp only[N8] <;> lia);have j:Inv X i σ H {s with heap:=a}:=I.kept (t':=s.toks) n
   have t:Inv X i σ (upd H a.objs.size (.tup ys)) {s with heap:=a.push {cls:=.type "tuple",data:=.seq f.toArray}}:=
    j.laid (t':=s.toks) (λb o e=>N0 _ e) (NZ _) (show ObjOk X.prog X.w _ _ _ (.tup ys) from⟨k,f,g,IsTup.new _ _⟩)
   exact⟨.ref a.objs.size,_,t,rfl,q _ (j.hok.fresh (NZ _))⟩
 . obtain⟨f,g,c,k⟩:=I.tuple d;exact call_tuple_same c ⟨.ref p,H,I,rfl,q⟩
def tyV(K:Frag)(T:String)(x:V)(H:Hp):Prop:=match x with
 | .str _=>T="str"
 | .int _=>T="int"
 | .ref p=>(T="list"/\∃ b,SqL K H p b)\/(T="tuple"/\∃ o,K.lookup p=some o/\o.cls=.type "tuple"/\o.dict=none)\/
   (T="dict"/\((∃ a,H p=some (.dK a))\/∃ a,H p=some (.dT a)))\/(T="set"/\∃ S n,H p=some (.set S n))
 | _=>False
theorem EB{k:List (Addr × Obj)}{σ:St}{H:Hp}{s:Shared}{T:String}{x:V}{v:Value}(I:Inv X k σ H s)(r:RelV x v)(f:tyV X.K T x H):
  s.TypeIs v T/\∀ a,v=.ref a->∃ j,s.heap.get? a=some j/\j.dict=none:=by
 cases x with
 | str z=>
  obtain⟨t,rfl⟩:=r;cases (show T="str" from f);exact⟨Qh s z t,λ_ e=>nomatch e⟩
 | int i=>
  obtain⟨t,rfl⟩:=r;cases (show T="int" from f);exact⟨typeIs_int s i t,λ_ e=>nomatch e⟩
 | ref p=>
  cases r;rcases f with ⟨rfl,u,l⟩ | ⟨rfl,o,b,m,g⟩ | ⟨rfl,b⟩ | ⟨rfl,S,n,b⟩
  . obtain⟨w,_,h,_⟩:=I.list l;refine⟨h.isList.typeIs,λa e=>?_⟩;cases e;obtain⟨o,n,e,c,g,_⟩:=h;exact⟨o,e,g⟩
  . refine⟨⟨o,I.kIn p o b,m⟩,λa e=>?_⟩;cases e;exact⟨o,I.kIn _ o b,g⟩
  . have z:∃ o,s.heap.get? p=some o/\o.ExactDict:=by
     rcases b with ⟨q,b⟩ | ⟨q,b⟩
     . obtain⟨_,_,_,_,o,_,_,e,d,_⟩:=I.hok p _ b;exact⟨o,e,d⟩
     . obtain⟨_,_,_,_,o,_,_,e,d,_⟩:=I.hok p _ b;exact⟨o,e,d⟩
    obtain⟨o,e,d⟩:=z;refine⟨⟨o,e,d.1⟩,λa e2=>?_⟩;cases e2;exact⟨o,e,d.2.1⟩
  . obtain⟨o,_,_,_,e,d,_⟩:=I.hok p _ b;refine⟨⟨o,e,d.1⟩,λa e2=>?_⟩;cases e2;exact⟨o,e,d.2.1⟩
 | _=>exact False.elim f
def Aq(K:Frag)(T:String)(r:V->List V->Hp->VK->Prop)(b:TE):TE:=λσ H Q=>b σ H λx a=>tyV K T x a/\r x [] a Q
def tBM(K:Frag)(T:String)(r:V->List V->Hp->VK->Prop)(d:TE)(t:TA):TE:=λσ H Q=>d σ H λx a=>tyV K T x a/\t σ a λb c=>r x b c Q
variable{o e:Expr}{es:List Expr}{to:TE}{t:TA}{name:Str}{apos cpos:Pos}{T id:String}{r:V->List V->Hp->VK->Prop}
theorem Ar (i:PlainAttrs T) (c:Slot T name id) (d:typeOf (.builtin id)=pure (.type "method_descriptor")) (j:MtR X id r) (m:PE X o to)
  (b:attributeBase o name X.env (eval o X.env)=eval o X.env:=by rfl) (a:(apos.endLine==cpos.line)=true:=by rfl):PE X (.Call (.Attribute o name apos) [] [] cpos) (Aq X.K T r to):=by
 intro e s σ H Q I h;refine wpAny_Call_method0_late b a (thn (m e s σ H _ I h) λv s1 ⟨x,k,f,r1,l,g⟩=>?_);obtain⟨h1,h2⟩:=EB f r1 l;exact⟨T,id,i,c,d,h1,h2,Rc rfl (PySem.evalArgs_none (j e s1 σ k x [] v [] Q f r1 .nil g))⟩
theorem bS (C:PlainAttrs T) (f:Slot T name id) (g:typeOf (.builtin id)=pure (.type "method_descriptor")) (p:MtR X id r) (m:PE X o to) (y:PA X (e::es) t)
  (c:attributeBase o name X.env (eval o X.env)=eval o X.env:=by rfl)
  (d:((backTo cpos (starEach (e::es) X.env)).all (λx=>!x.1)&&(backToKw cpos (keywordEach [] X.env)).all (λx=>x.1.isSome)
   &&decide ((e::es).length+([]:List Keyword).length+(if ([]:List Keyword).isEmpty then 0 else 1)<30))=true:=by rfl)
  (b:(apos.endLine==cpos.line)=true:=by rfl) (D:starEach (e::es) X.env=(false,eval e X.env)::starEach es X.env:=by rfl) (a:(backTo cpos (starEach es X.env)).any (·.1)=false:=by rfl):
  PE X (.Call (.Attribute o name apos) (e::es) [] cpos) (tBM X.K T r to t):=by
 intro i s σ H Q I h;refine wpAny_Call_method_late c d b rfl (thn (m i s σ H _ I h) λv s1 ⟨x,q,j,r1,u,A⟩=>?_);obtain⟨h1,h2⟩:=EB j r1 u;refine⟨T,id,C,f,g,h1,h2,?_⟩;have k:=y cpos i s1 σ q _ j A;rw[D]at k ⊢;refine Rc (by show(false||(backTo cpos (starEach es X.env)).any (·.1))=false;rw[a] <;> rfl) (Calls.evalArgs_plain ?_);exact thn k λw z ⟨vs,B,E,n,l⟩=>p i z σ B x vs v w Q E r1 n l
end
def MtM(X:Cx)(id:String)(r:V->List V->Hp->VK->Prop):Prop:=
 ∀(b:List (Addr × Obj)) (s:Shared) (σ:St) (H:Hp) (x:V) (a:List V) (v:Value) (c:List Value) (Q:VK),Inv X b σ H s->RelV x v->Vals a c->r x a H Q->
  wpAny (model X.prog X.w) X.A (call (.builtin id) (v::c)) (EP X b σ Q) X.xe s
theorem Vals.one:∀{x:V} {us:List Value},Vals [x] us->∃ u,us=[u]/\RelV x u
 | _,_,.cons r .nil=>⟨_,rfl,r⟩
theorem Vals.zero:∀{us:List Value},Vals [] us->us=[]
 | _,.nil=>rfl
theorem Vals.eraseIdx:∀{xs:List V} {us:List Value} (i:Nat),Vals xs us->Vals (xs.eraseIdx i) (us.eraseIdx i)
 | _,_,_,.nil=>.nil
 | _,_,0,.cons _ t=>t
 | _,_,i+1,.cons r t=>.cons r (Vals.eraseIdx i t)
theorem Vals.reverse{xs:List V}{us:List Value}(h:Vals xs us):Vals xs.reverse us.reverse:=by
 induction h with
 | nil=>exact .nil
 | cons r t a=>rw[List.reverse_cons,List.reverse_cons];exact Vals.append a (.cons r .nil)
theorem Vals.rep{xs:List V}{us:List Value}(h:Vals xs us):∀ k:Nat,Vals (List.replicate k xs).flatten (List.replicate k us).flatten
 | 0=>.nil
 | k+1=>by
  rw[O4,O4,PB,PB];exact Vals.append h (Vals.rep h k)
theorem yJ{α:Type}:∀(l:List α) (i:Nat),(l.eraseIdx i).length<=l.length
 | [],_=>NZ _
 | _::_,0=>Ql _
 | _::r,i+1=>Nat.succ_le_succ (yJ r i)
theorem yK(NF:List Value):∀(k:Nat) (a:List Value),
  List.foldl (λb c=>b++c) a.toArray (List.replicate k NF.toArray)=(a++(List.replicate k NF).flatten).toArray
 | 0,a=>by simp
 | k+1,a=>by
  have e:a.toArray++NF.toArray=(a++NF).toArray:=by simp
  have e2:(a++NF)++(List.replicate k NF).flatten=a++(List.replicate (k+1) NF).flatten:=by
   rw[O4,PB,O5]
  rw[← e2,← yK NF k (a++NF),← e,O4,O9]
section
variable{X:Cx}{NB:List (Addr × Obj)}{σ:St}{H:Hp}{s:Shared}{l b:Addr}{xs ys zs:List V}
theorem Inv.lset {NF its':List Value} {n:Nat} {f:Array Value->Array Value} {t':Nat} (I:Inv X NB σ H s) (a:H l=↥xs)
  (e:s.heap.get? l=some {cls:=.type "list",data:=.seq NF.toArray n}) (h:f NF.toArray=its'.toArray) (d:Vals ys its') (g:ys.length<=sizeLine):
  Inv X NB σ (upd H l (.lst ys)) {s with heap:=s.heap.update l (Obj.mapSeq f),toks:=t'}:=by
 have q:=PySem.IsL.update e f;rw[h]at q;refine I.write (x:=l) (e:=l) (by rw[a];exact trivial) (.inl rfl) (λi u c b=>(Heap.get?_update_other s.heap (Obj.mapSeq f) (Q7 c)).trans b) ⟨_,q⟩ ?_;exact⟨g,its',_,d,q⟩
def Inv.lnew{NF:List Value}{t':Nat}(I:Inv X NB σ H s)(b:Vals ys NF)(a:ys.length<=sizeLine):
  Inv X NB σ (upd H s.heap.objs.size (.lst ys)) {s with heap:=s.heap.push {cls:=.type "list",data:=.seq NF.toArray},toks:=t'}:=
 I.laid (λ_ _ q=>N0 _ q) (NZ _) ⟨a,NF,0,b,Oq _ rfl⟩
def Inv.fresh(I:Inv X NB σ H s):H s.heap.objs.size=none:=I.hok.fresh (NZ _)
theorem Inv.lstM(I:Inv X NB σ H s)(a:H l=↥xs):xs.length<=sizeLine/\∃(NF:List Value) (n:Nat),Vals xs NF/\xs.length=NF.length/\s.heap.get? l=some {cls:=.type "list",data:=.seq NF.toArray n}:=by
 obtain⟨z,NF,n,r,e⟩:=I.hok l _ a;exact⟨z,NF,n,r,r.length,e⟩
theorem As{n:Nat}(h:n<=sizeLine):Builtin.List.listTooLong n=false:=by
 unfold Builtin.List.listTooLong;exact NQ #[4]
end
section
variable{X:Cx}
def Hs:V->List V->Hp->VK->Prop:=λx vs H Q=>∃ l a y,x=.ref l/\vs=[y]/\H l=↥a/\a.length<sizeLine/\Q .non (upd H l (.lst (a++[y])))
theorem yL:MtM X "list.append" Hs:=by
 intro i s σ H x vs v m Q I d f h;obtain⟨l,g,y,rfl,rfl,a,k,q⟩:=h;cases d;obtain⟨u,rfl,c⟩:=f.one;obtain⟨z,b,n,r,j,e⟩:=I.lstM a;refine PD F.slot_list_append ⟨_,e,rfl⟩ F.entry_list_append (F.args_list_append_2 _ _) (PySem.list_append l b.toArray n u (by rw[N8];lia)) ⟨e,?_⟩;refine⟨.non,_,I.lset (its':=b++[u]) a e (by simp) (r.append (.cons c .nil)) ?_,rfl,q⟩;rw[Oy,Rs];lia
def Ht:V->List V->Hp->VK->Prop:=λx vs H Q=>∃ l b a c,x=.ref l/\vs=[.ref b]/\H l=↥a/\H b=↥c/\a.length+c.length<=sizeLine/\Q .non (upd H l (.lst (a++c)))
theorem EC:MtM X "list.extend" Ht:=by
 intro D s σ H x vs v B Q I t j h;obtain⟨l,b,y,w,rfl,rfl,g,p,A,q⟩:=h;cases t;obtain⟨u,rfl,i⟩:=j.one;cases i;obtain⟨z,d,n,r,C,e⟩:=I.lstM g;obtain⟨E,a,o,k,m,e2⟩:=I.lstM p;have f:d.toArray.size+a.toArray.size<=sizeLine:=by rw[N8,N8];lia
 have c:¬ (!d.toArray.isEmpty&&Builtin.List.listTooLong (d.toArray.size+a.toArray.size))=true:=by
  rw[As f,Bool.and_false];exact NV
 refine PD F.slot_list_extend ⟨_,e,rfl⟩ F.entry_list_extend (F.args_list_extend_2 _ _)
  (AutoSeq1.list_extend_list_list_0 l d.toArray n b a.toArray o c (by rw[N8];lia) #[4]) ⟨e,e2,?_⟩
 refine⟨.non,_,I.lset (its':=d++a) g e (by simp) (r.append k) ?_,rfl,q⟩;rw[Oy];lia
def IP:V->List V->Hp->VK->Prop:=λx vs H Q=>∃ l a i k y,x=.ref l/\vs=[.int i]/\H l=↥a/\ -(2^63)<=i/\i<2^63/\seqIndex? i a.length=some k/\a[k]? =some y/\Q y (upd H l (.lst (a.eraseIdx k)))
theorem Gh:MtM X "list.pop" IP:=by
 intro A s σ H x vs v B Q I o p h;obtain⟨l,d,i,k,y,rfl,rfl,c,h1,h2,g,j,q⟩:=h;cases o;obtain⟨u,rfl,m⟩:=p.one;obtain⟨t,rfl⟩:=m;obtain⟨z,a,n,r,f,e⟩:=I.lstM c;obtain⟨w,hw,b⟩:=r.get j
 refine PD F.slot_list_pop ⟨_,e,rfl⟩ F.entry_list_pop (F.args_list_pop_2 _ _)
  (MeetsSeq.list_pop_at l a.toArray n i t k w (fitsIndex_both h1 h2) (by rw[N8,← f];exact g) (by rw[← Rt];exact hw) (by rw[N8];lia)) ⟨e,?_⟩
 refine⟨y,_,I.lset (its':=a.eraseIdx k) c e ?_ (r.eraseIdx k) ?_,b,q⟩
 . show a.toArray.eraseIdxIfInBounds k=(a.eraseIdx k).toArray;rw[List.eraseIdxIfInBounds_toArray]
 . have:=yJ d k;lia
def IQ:V->List V->Hp->VK->Prop:=λx vs H Q=>∃ l a,x=.ref l/\vs=[]/\H l=↥a/\Q .non (upd H l (.lst []))
theorem Gi:MtM X "list.clear" IQ:=by
 intro i s σ H x vs v k Q I d f h;obtain⟨l,g,rfl,rfl,b,q⟩:=h;cases d;have a:=f.zero;subst a;obtain⟨z,c,n,r,j,e⟩:=I.lstM b;refine PD F.slot_list_clear ⟨_,e,rfl⟩ F.entry_list_clear (F.args_list_clear_1 _) (AutoSeq1.list_clear_list_0 l c.toArray n (by rw[N8];lia)) ⟨e,?_⟩;exact⟨.non,_,I.lset (its':=[]) (ys:=[]) b e rfl .nil (OP _),rfl,q⟩
def rCat:R2:=λx y H Q=>∃ l b a c,x=.ref l/\y=.ref b/\H l=↥a/\H b=↥c/\a.length+c.length<=sizeLine/\∀ p,H p=none->Q (.ref p) (upd H p (.lst (a++c)))
theorem IR:OpR X (binaryOp .Add) rCat:=by
 intro p s σ H x y v u Q I k m h;obtain⟨l,b,o,w,rfl,rfl,d,g,C,q⟩:=h;cases k;cases m;obtain⟨z,c,n,r,t,e⟩:=I.lstM d;obtain⟨A,a,B,f,j,e2⟩:=I.lstM g;refine PySem.P.add_list e e2 ?_ (by rw[N8,N8];lia);have i:c.toArray++a.toArray=(c++a).toArray:=by simp
 rw[i];exact⟨.ref _,_,I.lnew (t':=s.toks) (r.append f) (by rw[Oy];lia),rfl,q _ I.fresh⟩
def rRep:R2:=λx y H Q=>∃ l k a,x=.ref l/\y=.int k/\H l=↥a/\ -(2^63)<=k/\k<2^63/\a.length*k.toNat<=sizeLine/\
 ∀ p,H p=none->Q (.ref p) (upd H p (.lst (List.replicate k.toNat a).flatten))
theorem Hu{α:Type}(xs:List α)(k:Nat):(List.replicate k xs).flatten.length=k*xs.length:=by
 induction k with
 | zero=>simp
 | succ k a=>rw[O4,PB,Oy,a,RM,Nat.add_comm]
theorem IS:OpR X (binaryOp .Mult) rRep:=by
 intro J s σ H x y v u Q I D E h;obtain⟨l,k,G,rfl,rfl,w,h1,h2,o,q⟩:=h;cases D;obtain⟨t,rfl⟩:=E;obtain⟨z,b,n,r,B,e⟩:=I.lstM w;have C:b.toArray.size*k.toNat<=sizeLine:=by rw[N8,← B];exact o
 have d:¬ b.toArray.size*k.toNat > (2^63-1)/8:=by
  have:(sizeLine:Nat)<=(2^63-1)/8:=by decide
  lia
 have g:¬ (!Builtin.List.listFitsIndex k)=true:=by
  rw[fitsIndex_both h1 h2];exact NV
 have c:¬ Builtin.List.listTooLong (b.toArray.size*k.toNat)=true:=by
  rw[As C];exact NV
 have f:List.foldl (λj i=>j++i) #[] (List.replicate (if b.toArray.isEmpty=true then 0 else k.toNat) b.toArray)=(List.replicate k.toNat b).flatten.toArray:=by
  have A:∀ m:Nat,List.foldl (λj i=>j++i) #[] (List.replicate m b.toArray)=(List.replicate m b).flatten.toArray:=λm=>by
   have:=yK b m [];rw[List.nil_append]at this;exact this
  rw[A]
  cases b with
  | nil=>simp
  | cons a K=>rw[Og (by simp)]
 refine wpAny_binaryOp_repeat_ref (T:="list") (U:="int") #[1] ⟨_,e,rfl⟩ (λp=>typeIs_int p k t) noFill_list_mul F.fills_int_mul F.slot_int_rmul repeat_list F.slot_int_index.lookup
  (PD F.slot_int_rmul (typeIs_int s k t) F.entry_int_rmul (F.args_int_rmul_2 _ _) (int___rmul___int_list k t l b.toArray n)
   ⟨e,rfl,⟨_,e,rfl⟩,PD F.slot_list_mul ⟨_,e,rfl⟩ F.entry_list_mul (F.args_list_mul_2 _ _) (AutoListH.list___mul___list_int_3 l b.toArray n k t g d c) ⟨e,?_⟩⟩)
 rw[f];exact⟨.ref _,_,I.lnew (t':=s.toks) (r.rep k.toNat) (by rw[Hu,Nat.mul_comm];exact o),rfl,q _ I.fresh⟩
end
end L2
namespace Att
open PySem PySem.W PySem.Calls PyProof.Rows
theorem ints_of_wellAll{P:Params}{h:Heap}:∀(ns:∅) (vs:List Value),WellAll P h vs (ns.map WData.int)->IntsAre vs ns:=by
 intro ns
 induction ns with
 | nil=>
  intro vs w;rw[List.map_nil]at w;cases w;exact .nil
 | cons n ns c=>
  intro vs w;rw[List.map_cons]at w
  cases w with
  | cons a b=>
   cases a;exact .cons _ _ (c _ b)
theorem script_of {l:OpenLaw} {n:Nat} (m:l.most=some n) {P:Params} {h:Heap} {args:List WData} {b:List Value}
  (c:l.row.toRowW.claim.pre args=true) (g:WellAll P h b args):
  ∃ a vs ns,b=[Value.ref a]/\args=[WData.list (ns.map WData.int)]/\h.get? a=some {cls:=.type "list",data:=.seq vs.toArray}/\IntsAre vs ns/\ns.length<=n:=by
 have f:WShape.hasAll [] args [.list .int]=true:=(pre_splitW c).1;have i:l.pre.holds [] {args:=args}=true:=(pre_splitW c).2;obtain⟨d,r,rfl,h1,h2⟩:=hasAllW_cons f;obtain rfl:=hasAllW_nil h2;obtain⟨t,rfl,h3⟩:=hasW_list h1;obtain⟨ns,rfl⟩:=items_int h3
 have p:ns.length<=n:=by
  unfold OpenLaw.pre at i
  have h4:(WTm.not (.lt (.lit (.int (n:Int))) (.len (.arg 0)))).holds [] {args:=[.list (ns.map .int)]}=true:=by
   have h4:=(holds_andW i).1;rw[m]at h4;exact h4
  have h5:=condW_of h4 (w_not (w_lt w_lit (w_len_list (w_arg rfl))));rw[List.length_map]at h5;refine Nat.le_of_not_lt λq=>?_;have k:(n:Int) < ((ns.length:Nat):Int):=by lia
  first
   | (rw[decide_eq_true k]at h5;exact absurd h5 #[1])
   | (simp at h5;lia)
 cases g with
 | cons o j=>
  cases j
  cases o with
  | list s e=>exact⟨_,_,ns,rfl,rfl,s,ints_of_wellAll ns _ e,p⟩
def post_true(l:OpenLaw)(args:List WData):l.row.toRowW.claim.post args (.bool true) args=true:=
 postW_of (r:=l.row.toRowW) (X:=(true==true))
  (show WShape.has [] (.bool true) .bool=true by first | rfl | decide | simp[WShape.has,WShape.arms,WShape.armsAll])
  (show(WTm.eq .res (.lit (.bool true))).value [] {args:=args,res:=some (.bool true),after:=args}=some (.bool (true==true)) from w_eq_bool (w_res rfl) w_lit) rfl
def attach_call {l:OpenLaw} {n:Nat} {q:Program} {b:List Str} {C:(Str->Option Value)->Heap->Prop} {F:World->Heap->Prop} {d:DefRec}
  (J:l.most=some n) (u:d.params.defaults=[])
  (j:∀(w:World) (x c:Shared) (m y:Str->Option Value) (i:Addr) (o:Obj) (v p e:Value) (a:Addr) (vs:List Value) (ns:∅),
   Ground q b [] C w x m y c.heap->F w c.heap->
   c.heap.get? i=some o->o.data=.func (docDef d.name d.params d.body d.scope v p e)->c.heap.CodeRec p d.name->m d.name=↑i->
   c.heap.get? a=some {cls:=.type "list",data:=.seq vs.toArray}->IntsAre vs ns->ns.length<=n->c.gens=#[]->
   codeAny (model l.prog w) callerA (.call (.ref i) ⟨[.ref a],[]⟩) (λr s'=>r=.ok (.ret (.bool true))/\OldK c.heap s'.heap/\s'.os=c.os/\AllBare s'.gens) c):
  WalkO q b C F l.row.toRowW d [] (λf vs=>PySem.call f vs):=by
 intro w x c m y G Y i o v p e M O I Q s E t R A D S k B P z L;obtain rfl:M=.none:=Dflts.none E u;obtain rfl:O=.none:=Dflts.noKw E;obtain⟨a,vs,ns,rfl,rfl,h,g,N⟩:=script_of J k z;refine enter_call (codeAny_mono (j w x c m y i o v p e a vs ns G Y I (fd_plain Q) s t h g N R) λr s' H=>?_);obtain⟨rfl,h2,h3,h4⟩:=H;exact⟨.inl ⟨.bool true,.bool true,[],rfl,λ_=>rfl,.bool true,post_true l _,λ_=>⟨List.Pairwise.nil,λ_ K=>(nomatch K)⟩⟩,h2,h3,h4⟩
section
variable{prog:Program}{w:World}{A:Around}{E:Value->Shared->Prop}{s:Shared}{K:Frag}
end
end Att
namespace L2
open PySem PySem.Spec PyProof.Rows
theorem rM:∀{vs:List Value} {ns:∅},IntsAre vs ns->Vals (ns.map V.int) vs
 | _,_,.nil=>.nil
 | _,_,.cons n t h=>.cons ⟨t,rfl⟩ (rM h)
def c6(s:Stmt):Arguments:=match s with
 | .FunctionDef _ a _ _ _ _ _ _ _ _=>a
 | _=>{posonlyargs:=[],args:=[],vararg:=none,kwonlyargs:=[],kw_defaults:=[],kwarg:=none,defaults:=[]}
def bZ(s:Stmt):List Stmt:=match s with
 | .FunctionDef _ _ b _ _ _ _ _ _ _=>b
 | _=>[]
def aN(s:Stmt):Scope:=match s with
 | .FunctionDef _ _ _ _ _ _ a _ _ _=>a
 | _=>{kind:=.function,names:=[],isGenerator:=false,isCoroutine:=false}
abbrev CX0:CXT:=λ_ _ _ _ _ _=>False
abbrev E0:XK:=λ_ _ _=>False
def vG{X:Cx}:o5 CX0 X E0:=λ_ _ _ _ _ _ _ h=>h.elim
structure Fun(K:Frag)(x qual:Str)(st:Stmt)(f:Addr)(fd:FuncData):Prop where
 ex:∃(oc:Value) (od:Option Addr) (kV doc pm:Value) (an:Option Addr) (ND ct:Value) (osl:Array (Option Value)),
  fd=fnOf x qual (c6 st) (bZ st) (aN st) .none kV doc pm an ND ct/\K.lookup f=some ⟨oc,od,.func fd,osl⟩/\codeIn K ND qual=true
 kp:keepIn K (.ref f)=true
section
variable{P:Program}{w:World}{K:Frag}{mg:Str->Option Value}{base:Heap}
theorem Fun.ok {x b:Str} {st:Stmt} {f:Addr} {l:FuncData} {N j:List Str} {k:Nat} {sp:Sp} (F:Fun K x b st f l) (S:iY N j (aN st)) (i:∀ vs H Q E,sp vs H Q E->vs.length=j.length)
  (c:∀(d:Value) (A:Around) (a:List Env) (s:Shared) (H:Hp) (vs:List V) (Q:VK) (E:XK),Room k (A.deeper (envOfC b (aN st) s.heap.objs.size f d))->sp vs H Q E->
   ∃ t,PSs (cxOf CX0 P w K mg base N b (aN st) f d A a s H E).nox (bZ st) t/\t {nx:=λ_ p=>Q .non p,rt:=Q} (start N vs) H):FnOk P w K mg base CX0 (k+1) f l j sp:=by
 obtain⟨y,u,B,n,v,z,d,C,m,rfl,r,e⟩:=F.ex;refine G2 r e S i λA a s H vs Q E o g=>?_;obtain⟨t,h,q⟩:=c d A a s H vs Q E o g;exact⟨t,h.nox,q⟩
theorem Fun.binds {x a:Str} {st:Stmt} {f:Addr} {j:FuncData} {c:List Str} (F:Fun K x a st f j)
  (h:∀(i b g:Value) (e:Option Addr) (d ct:Value) (us:List Value),us.length=c.length->bindArgs (fnOf x a (c6 st) (bZ st) (aN st) .none i b g e d ct) ⟨us,[]⟩=pure (c.zip us)):Binds K j c []:=by
 obtain⟨n,o,i,b,g,e,d,ct,k,rfl,m,l⟩:=F.ex;exact .all (h i b g e d ct)
def ED {x a:Str} {st:Stmt} {f:Addr} {j:Value} {m g:Option Addr} {d:Array (Option Value)} {i b h e ct:Value} (l:K.lookup f=some ⟨j,m,.func (fnOf x a (c6 st) (bZ st) (aN st) .none i b h g e ct),d⟩)
  (c:codeIn K e a=true) (k:keepIn K (.ref f)=true):Fun K x a st f (fnOf x a (c6 st) (bZ st) (aN st) .none i b h g e ct):=⟨⟨j,m,i,b,h,g,e,ct,d,rfl,l,c⟩,k⟩
end
def aC{n:Nat}(h:n<=1000):n<sizeLine:=Pd h #[1]
section
variable{X:Cx}
theorem pv (i:Nat) {x:Str} {pos:Pos} (b:X.N[i]? =some x:=by rfl) (d:Vis X.env.scope x:=by first | exact Or.inl rfl | exact Or.inr (Or.inl rfl) | exact Or.inr (Or.inr rfl)) (c:(x==("__debug__":Str))=false:=by decide)
  (a:(x==("__classdict__":Str))=false:=by decide):PE X (.Name x pos) (tVar i):=IF b d c a
end
theorem iteF{A B:Prop}(h:B):if false=true then A else B:=by
 rw[Og NV];exact h
theorem iteT{A B:Prop}(h:A):if true=true then A else B:=by
 rw[Os rfl];exact h
def Same(H a:Hp):Prop:=∀ b o,H b=some o->a b=some o
def Same.refl(H:Hp):Same H H:=λ_ _ h=>h
abbrev NP:=@Same.refl
def Same.trans{H d e:Hp}(a:Same H d)(b:Same d e):Same H e:=λc o h=>b c o (a c o h)
theorem Same.free{H a:Hp}(e:Same H a){l:Addr}(h:a l=Option.none):H l=Option.none:=by
 cases q:H l with
 | none=>rfl
 | some o=>
  rw[e l o q]at h;cases h
theorem Same.seq{K:Frag}{H b:Hp}{a:Addr}{xs:List V}(e:Same H b)(h:SqL K H a xs):SqL K b a xs:=by
 rcases h with (h | ⟨o,h⟩) | h
 . exact .inl (.inl (e _ _ h))
 . exact .inl (.inr ⟨o,e _ _ h⟩)
 . exact .inr h
section
variable{κ:Type}[DecidableEq κ]
def valV(a:List (κ × V))(k:κ):Option V:=(a.find? λb=>decide (b.1=k)).map (·.2)
def putK(b:List (κ × V))(k:κ)(v:V):List (κ × V):=
 if (b.any λa=>decide (a.1=k))=true then b.map (λa=>if a.1=k then(a.1,v) else a) else b++[(k,v)]
theorem At{p:κ × V}{r:List (κ × V)}{k:κ}(e:p.1=k):valV (p::r) k=some p.2:=by simp[valV,Pw,e]
theorem Au{p:κ × V}{r:List (κ × V)}{k:κ}(e:¬ p.1=k):valV (p::r) k=valV r k:=by simp[valV,Pw,e]
theorem RelO.isSome_eq{o:Option V}{u:Option Value}(r:RelO o u):o.isSome=u.isSome:=by
 cases o with
 | none=>cases u with
  | none=>rfl
  | some _=>exact(show False from r).elim
 | some _=>cases u with
  | none=>exact(show False from r).elim
  | some _=>rfl
theorem KV.val{d:List (κ × V)}{vs:List (κ × Value)}(r:KV d vs)(k:κ):RelO (valV d k) (valueAt vs k):=by
 unfold KV at r
 induction r with
 | nil=>exact True.intro
 | @cons p q g a h t f=>
  obtain⟨h1,h2⟩:=h;by_cases e:p.1=k
  . have c:q.1=k:=h1.symm.trans e;have b:valueAt (q::a) k=some q.2:=by simp[valueAt,Pw,c]
    rw[At e,b];exact h2
  . have c:¬ q.1=k:=λz=>e (h1.trans z);have b:valueAt (q::a) k=valueAt a k:=by simp[valueAt,Pw,c]
    rw[Au e,b];exact f
def KV.length{a:List (κ × V)}{vs:List (κ × Value)}(r:KV a vs):a.length=vs.length:=Paired.length r
end
theorem Aa{P:Program}{w:World}{k:Key}{u:Value}(r:RelV (kV k) u):(ga P w).is k u=true:=by
 cases k with
 | inl i=>obtain⟨t,e⟩:=(show ∃ t,u=Value.int i t from r);subst e;exact B6 P w i t
 | inr x=>obtain⟨t,e⟩:=(show ∃ t,u=Value.str x t from r);subst e;exact B7 P w x t
theorem yM{P:Program}{w:World}:∀{ks:List Key} {us:List Value},Vals (ks.map kV) us->ItemsAre (ga P w) ks us
 | [],_,r=>by rw[List.map_nil]at r;cases r;exact .nil
 | k::ks,_,r=>by
  rw[OD]at r
  cases r with
  | cons h t=>exact .cons (Aa h) (yM t)
abbrev KT(H:Hp):List (List Key × V)->List (List Key × Addr × Value)->Prop:=Paired λp q=>p.1=q.1/\H q.2.1=some (.tup (p.1.map kV))/\RelV p.2 q.2.2
variable{H:Hp}
theorem KT.val{d:List (List Key × V)}{xs:List (List Key × Addr × Value)}(r:KT H d xs)(k:List Key):RelO (valV d k) ((atKey xs k).map (·.2)):=by
 induction r with
 | nil=>exact True.intro
 | @cons p q g a h t f=>
  obtain⟨h1,_,h2⟩:=h;by_cases e:p.1=k
  . have c:q.1=k:=h1.symm.trans e;have b:atKey (q::a) k=some q.2:=by simp[atKey,Pw,c]
    rw[At e,b];exact h2
  . have c:¬ q.1=k:=λz=>e (h1.trans z);have b:atKey (q::a) k=atKey a k:=by simp[atKey,Pw,c]
    rw[Au e,b];exact f
section
variable{P:Program}{w:World}{H:Hp}{h:Heap}{a:Addr}
def G3{u:HO}(b:HOk P w H h)(e:Rd H a u):ObjOk P w H h a u:=e.ok b
def vH{b:List (Key × V)}(c:HOk P w H h)(e:Rd H a (.dK b)):b.length<=sizeLine/\(a==sysModules)=false/\∃ vs,KV b vs/\h.DictOf (ga P w) a vs:=
 show ObjOk P w H h a (.dK b) from G3 c e
theorem vI{ks:List Key}(b:HOk P w H h)(e:H a=some (.tup (ks.map kV))):(tupleKind (ga P w)).is h ks a:=by
 obtain⟨_,c,r,o,h1,h2,n,h3⟩:=(show ObjOk P w H h a (.tup (ks.map kV)) from b a _ e);exact⟨o,c.toArray,n,h1,h2,h3,by simpa using yM r⟩
theorem Ab{c:List (List Key × V)}(g:HOk P w H h)(e:Rd H a (.dT c)):c.length<=sizeLine/\(a==sysModules)=false/\
  ∃ xs,KT H c xs/\h.DictOfH (tupleKind (ga P w)) a xs:=by
 obtain⟨z,y,xs,r,o,k,i,h1,h2,h3,h4,h5⟩:=(show ObjOk P w H h a (.dT c) from G3 g e);refine⟨z,y,xs,r,o,k,i,h1,h2,h3,h4,λx b=>?_,h5⟩
 have d:∀{l:List (List Key × V)} {m:List (List Key × Addr × Value)},KT H l m->∀ x∈m,(tupleKind (ga P w)).is h x.1 x.2.1:=by
  intro l m q
  induction q with
  | nil=>intro x b;exact nomatch b
  | @cons p q n s f t j=>
   intro x b;rcases N4.mp b with e | b
   . subst e;exact vI g (by rw[← f.1];exact f.2.1)
   . exact j x b
 exact d r x b
end
def DGet(H:Hp)(a:Addr)(y:V)(r:Option V):Prop:=
 (∃ c k,Rd H a (.dK c)/\y=kV k/\r=valV c k)\/∃ c k b,Rd H a (.dT c)/\y=.ref b/\H b=some (.tup (k.map kV))/\r=valV c k
def DPut(H:Hp)(a:Addr)(y v:V)(d:Hp):Prop:=
 (∃ c k,H a=some (.dK c)/\y=kV k/\c.length<sizeLine/\d=upd H a (.dK (putK c k v)))\/
 ∃ c k b,H a=some (.dT c)/\y=.ref b/\H b=some (.tup (k.map kV))/\c.length<sizeLine/\d=upd H a (.dT (putK c k v))
theorem DGet.k{a:Addr}{b:List (Key × V)}{k:Key}(e:H a=some (.dK b)):DGet H a (kV k) (valV b k):=.inl ⟨b,k,.inl e,rfl,rfl⟩
section
variable{X:Cx}{NB:List (Addr × Obj)}{σ:St}{H:Hp}{s:Shared}{a:Addr}{y v:V}{u r:Value}{o:Option V}{A:Around}{E:Value->Shared->Prop}
theorem EE{Q:Value->Shared->Prop}(t:A.units+1<cLine)(I:Inv X NB σ H s)(g:DGet H a y (some v))(n:RelV y u)(h:∀ f s',Inv X NB σ H s'->RelV v f->Q f s'):
  wpAny (model X.prog X.w) A (getItem (.ref a) u) Q E s:=by
 rcases g with ⟨C,k,e,i,l⟩ | ⟨C,k,b,e,i,B,l⟩
 . subst i;obtain⟨z,x,vs,c,m⟩:=vH I.hok e;obtain⟨f,hw,d⟩:=RH (v:=v) (o:=valueAt vs k) (by rw[l];exact c.val k);exact wpAny_getItem_of (Aa n) m.mapOf hw (h f _ (I.tok _) d)
 . subst i;cases (show u=Value.ref b from n);obtain⟨z,x,q,c,m⟩:=Ab I.hok e;obtain⟨f,hw,d⟩:=RH (v:=v) (o:=(atKey q k).map (·.2)) (by rw[l];exact c.val k);obtain⟨p,r,j⟩:=OT.mp hw;refine wpAny_getItem_heap (QF t) (vI I.hok B) m r ?_;rw[j];exact h f _ (I.tok _) d
theorem Kf{Q:Value->Shared->Prop}(m:A.units+1<cLine)(I:Inv X NB σ H s)(g:DGet H a y o)(j:RelV y u)(h:∀ s',Inv X NB σ H s'->Q (.bool o.isSome) s'):
  wpAny (model X.prog X.w) A (compareOp .In u (.ref a)) Q E s:=by
 rcases g with ⟨p,k,e,d,l⟩ | ⟨p,k,b,e,d,n,l⟩
 . subst d;obtain⟨z,i,vs,c,f⟩:=vH I.hok e;refine wpAny_in_of (Aa j) i f.mapOf ?_;rw[← (c.val k).isSome_eq,← l];exact h _ (I.tok _)
 . subst d;cases (show u=Value.ref b from j);obtain⟨z,i,r,c,f⟩:=Ab I.hok e;refine wpAny_in_heap (QF m) (vI I.hok n) i f ?_;have q:=(c.val k).isSome_eq;rw[Option.isSome_map]at q;rw[← q,← l];exact h _ (I.tok _)
theorem Hv{Q:Value->Shared->Prop}(m:A.units+1<cLine)(I:Inv X NB σ H s)(g:DGet H a y o)(j:RelV y u)(h:∀ s',Inv X NB σ H s'->Q (.bool (!o.isSome)) s'):
  wpAny (model X.prog X.w) A (compareOp .NotIn u (.ref a)) Q E s:=by
 rcases g with ⟨p,k,e,d,l⟩ | ⟨p,k,b,e,d,n,l⟩
 . subst d;obtain⟨z,i,vs,c,f⟩:=vH I.hok e;refine wpAny_notIn_of (Aa j) i f.mapOf ?_;rw[← (c.val k).isSome_eq,← l];exact h _ (I.tok _)
 . subst d;cases (show u=Value.ref b from j);obtain⟨z,i,r,c,f⟩:=Ab I.hok e;refine wpAny_notIn_heap (QF m) (vI I.hok n) i f ?_;have q:=(c.val k).isSome_eq;rw[Option.isSome_map]at q;rw[← q,← l];exact h _ (I.tok _)
end
section
variable{X:Cx}{NB:List (Addr × Obj)}{σ:St}{H:Hp}{s:Shared}{a:Addr}{NE:List (Key × V)}{k:Key}{u:Value}{A:Around}{E:Value->Shared->Prop}
theorem JW{Q:Value->Shared->Prop}(I:Inv X NB σ H s)(e:Rd H a (.dK NE))(h:∀ t s',Inv X NB σ H s'->Q (.int NE.length t) s'):wpAny (model X.prog X.w) A (call (.builtin "len") [.ref a]) Q E s:=by
 obtain⟨z,d,vs,b,c⟩:=vH I.hok e;refine call_len_dict d c (by rw[← b.length];rw[sizeLine_eq]at z;lia) ?_;rw[← b.length];exact h _ _ (I.tok _)
end
theorem B9{X:Cx}{d:List (Addr × Obj)}{σ:St}{s:Shared}{a:Addr}{y:V}{o:Option V}(I:Inv X d σ H s)(g:DGet H a y o):s.TypeIs (.ref a) "dict":=by
 rcases g with ⟨f,k,e,_,_⟩ | ⟨f,k,b,e,_,_,_⟩
 . obtain⟨_,_,vs,_,c⟩:=vH I.hok e;exact c.typeIs
 . obtain⟨_,_,h,_,c⟩:=Ab I.hok e;exact c.typeIs
def sDPut(e c g:TE):TS:=λD σ H=>g σ H λv h=>e σ h λx d=>c σ d λy f=>∃ a b,x=.ref a/\DPut f a y v b/\D.nx σ b
def IT:TE:=λ_ H Q=>∀ p,H p=none->Q (.ref p) (upd H p (.dK []))
section
variable{X:Cx}
theorem EF:CallR X (.builtin "len") (λxs H Q=>∃ a b,xs=[V.ref a]/\H a=some (.dK b)/\Q (.int b.length) H):=by
 intro f s σ H xs i Q I r h;obtain⟨a,b,rfl,c,q⟩:=h;obtain⟨u,rfl,e⟩:=d7 r;cases e;exact JW I (.inl c) λt g d=>⟨.int b.length,H,d,⟨t,rfl⟩,q⟩
end
theorem dS{α:Type}(x:Str):∀(a b:List (Str × α)),(a++b).lookup x=match a.lookup x with | some c=>some c | none=>b.lookup x
 | [],b=>rfl
 | (k,v)::r,b=>by
  rw[List.cons_append,OM,OM]
  cases x==k with
  | true=>rfl
  | false=>exact dS x r b
theorem kX:∀(names:List (Str × NameKind)) (n:Nat) (a cl:List (Str × Addr)),cellsFrom n names (a++cl)=cellsFrom n names a++cl
 | [],_,_,_=>rfl
 | (y,k)::r,n,a,cl=>by
  unfold cellsFrom
  split
  . rw[← List.cons_append];exact kX r _ _ cl
  . exact kX r _ _ cl
theorem io{x:Str}{c:Addr}:∀(names:List (Str × NameKind)) (n:Nat) (a:List (Str × Addr)),(x,c)∈cellsFrom n names a->(x,NameKind.cell)∈names\/(x,c)∈a
 | [],_,_,h=>.inr h
 | (y,k)::r,n,a,h=>by
  unfold cellsFrom at h
  split at h
  . rename_i b
    have b:k=.cell:=by simpa using b
    subst b;rcases io r _ _ h with z | z
    . exact .inl (N5 _ z)
    . rcases N4.mp z with z | z
      . cases z;exact .inl Oa
      . exact .inr z
  . rcases io r _ _ h with z | z
    . exact .inl (N5 _ z)
    . exact .inr z
theorem qf {env:Env} (f:Str × NameKind->List (Str × Addr)->Sem (ForInStep (List (Str × Addr))))
  (m:∀ name kind cs,f (name,kind) cs=if kind==.free then(do let a ← cellOf env name;pure (.yield ((name,a)::cs))) else pure (.yield cs)):
  ∀(names:List (Str × NameKind)) (d:List (Str × Addr)),(∀ x,(x,NameKind.free)∈names->∃ c,env.cells.lookup x=some c)->(∀ x c,d.lookup x=some c->env.cells.lookup x=some c)->
   ∃ cl,forIn names d f=(pure cl:Sem _)/\(∀ x c,cl.lookup x=some c->env.cells.lookup x=some c)/\(∀ x,((x,NameKind.free)∈names\/∃ c,d.lookup x=some c)->∃ c,cl.lookup x=some c)
 | [],d,_,h2=>⟨d,rfl,h2,λx h=>h.elim (λz=>nomatch z) id⟩
 | (y,k)::r,d,h1,h2=>by
  rw[List.forIn_cons,m];by_cases i:(k==NameKind.free)=true
  . rw[Os i];have j:k=.free:=by simpa using i
    subst j;obtain⟨c,n⟩:=h1 y Oa;have e:(cellOf env y:Sem Addr)=pure c:=by unfold cellOf;rw[n]
    rw[e]
    obtain⟨cl,e1,e2,l⟩:=qf f m r ((y,c)::d) (λx b=>h1 x (N5 _ b)) (λx c' b=>by
     rw[OM]at b
     cases g:x==y with
     | true=>rw[g]at b;cases b;rw[PQ.mp g];exact n
     | false=>rw[g]at b;exact h2 x c' b)
    refine⟨cl,?_,e2,λx b=>l x ?_⟩
    . exact e1
    . rcases b with b | ⟨c',b⟩
      . rcases N4.mp b with z | z
        . cases z;exact .inr ⟨c,by rw[OM];simp⟩
        . exact .inl z
      . cases g:x==y with
        | true=>exact .inr ⟨c,by rw[OM,g]⟩
        | false=>exact .inr ⟨c',by rw[OM,g];exact b⟩
  . rw[Og i];obtain⟨cl,e1,e2,l⟩:=qf f m r d (λx b=>h1 x (N5 _ b)) h2;refine⟨cl,e1,e2,λx b=>l x ?_⟩;rcases b with b | b
    . rcases N4.mp b with z | z
      . cases z;exact absurd rfl i
      . exact .inl z
    . exact .inr b
variable{scope:Scope}
theorem vJ{env:Env}(h:∀ x,(x,NameKind.free)∈scope.names->∃ c,env.cells.lookup x=some c):
  ∃ cl,closureFor scope env=pure cl/\(∀ x c,cl.lookup x=some c->env.cells.lookup x=some c)/\∀ x,(x,NameKind.free)∈scope.names->∃ c,cl.lookup x=some c:=by
 obtain⟨cl,e1,e2,e⟩:=qf (env:=env) (λx b=>match x with | (name,kind)=>if kind==.free then(do let a ← cellOf env name;pure (.yield ((name,a)::b))) else pure (.yield b)) (λ_ _ _=>rfl) scope.names [] h (λx c d=>nomatch d);refine⟨cl,?_,e2,λx d=>e x (.inl d)⟩
 have:closureFor scope env=(forIn scope.names [] (λx b=>match x with | (name,kind)=>if kind==.free then(do let a ← cellOf env name;pure (.yield ((name,a)::b))) else pure (.yield b)) >>= λb=>pure b):=by
  simp only[closureFor]
 rw[this,e1];rfl
def EG(scope:Scope)(cl:List (Str × Addr))(C:Addr)(env:Env):Env:=
 {newEnv scope C env.globals (cellsFrom (C+1) scope.names cl) env.qual none .none (some env) builtinsNs with scope:=relabel scope env}
theorem Gj {M:Model} {A:Around} {E:Value->Shared->Prop} {s:Shared} {cl:List (Str × Addr)} {env:Env} {Q:Env->Shared->Prop}
  (e:Q (newEnv scope s.heap.objs.size env.globals (cellsFrom (s.heap.objs.size+1) scope.names cl) env.qual none .none (some env) builtinsNs) {s with heap:=pushCells (s.heap.push {cls:=.type "dict",data:=.dict #[]}) scope.names}):
  wpAny M A (newFunctionEnv scope env.globals cl [] env.qual none .none (some env)) Q E s:=by
 simp only[newFunctionEnv,Option.isSome_some,RL];refine N7 (wpAny_alloc ?_);refine N7 (wpAny_layCells _ (λd a b=>by cases c:a==NameKind.cell <;> simp[c]) _ _ _ _ ?_);rw[show({s with heap:=s.heap.push {cls:=.type "dict",data:=.dict #[]}}:Shared).heap.objs.size=s.heap.objs.size+1 from Ps ..];refine N7 ?_;rw[List.forIn_nil];exact OC (OC e)
section
variable{prog:Program}{w:World}{A:Around}{E:Value->Shared->Prop}{R:Result->Shared->Prop}{s:Shared}
theorem EH {g a d:Expr} {i:List Expr} {scope:Scope} {pos:Pos} {it f:Value} {env:Env} (I:Nat->Shared->Prop)
  (k:∀ n s,I n s->wpAny (model prog w) A (pyNext it) (λr q=>match r with
   | none=>R (.ok .next) q
   | some v=>wpAny (model prog w) A (letOwnedTupleGo a it v) (λ_ l=>wpAny (model prog w) A (assign a env v) (λ_ t=>
     wpAny (model prog w) A (forIn i true λc r=>if r=true then do let j ← isTrue c env (eval c env);pure (ForInStep.yield j) else pure (ForInStep.yield r)) (λj o=>
      if j=true then wpAny (model prog w) A (eval g env) (λx B=>
       wpAny (model prog w) A (call (.builtin "list.append") [f,x]) (λ_ y=>∃ m,m<n/\I m y) (notedBy (model prog w) A env λe s'=>R (.error e) s') B) (notedBy (model prog w) A env λe s'=>R (.error e) s') o
      else ∃ m,m<n/\I m o) (notedBy (model prog w) A env λe s'=>R (.error e) s') t) (notedBy (model prog w) A env λe s'=>R (.error e) s') l) (notedBy (model prog w) A env λe s'=>R (.error e) s') q) (notedBy (model prog w) A env λe s'=>R (.error e) s') s)
  (n:Nat) (h:I n s):
  codeAny (model prog w) A (.compLoop (.ListComp g [⟨a,d,i,0⟩] scope pos) 0 it f env) R s:=by
 refine codeAny_loop rfl I (λn s C=>?_) n h;show wpAny _ A ((compTurn (.ListComp g [⟨a,d,i,0⟩] scope pos) 0 it f env).onRaise (λx=>do noteFrame x env;theTreesLotGoes x)) _ _ s;refine wpAny_noted ?_;rw[compTurn_list];refine N7 (RD (N7 (OZ (k n s C) (λr q u=>?_) λ_ _ b=>b)))
 cases r with
 | none=>exact OC u
 | some v=>
  refine N7 (OZ u (λ_ l p=>?_) λ_ _ b=>b);refine N7 (OZ p (λ_ t D=>N7 (OZ D (λj o z=>?_) λ_ _ b=>b)) λ_ _ b=>b)
  cases j with
  | false=>exact OC ⟨rfl,z⟩
  | true=>
   exact N7 (N7 (OZ z (λx B E=>N7 (OZ E (λ_ y F=>OC (OC ⟨rfl,F⟩)) λ_ _ b=>b)) λ_ _ b=>b))
end
variable{scope:Scope}
theorem mh{env:Env}{x:Str}{k:NameKind}(h:(relabel scope env).names.lookup x=some k):∃ b,scope.names.lookup x=some b/\(k=b\/(b=.free/\k=.cell)):=by
 unfold relabel at h;dsimp only at h;generalize scope.names=names at h ⊢
 induction names with
 | nil=>cases h
 | cons p r d=>
  obtain⟨n,k0⟩:=p;rw[OD]at h;rw[OM]
  cases a:x==n with
  | true=>
   refine⟨k0,rfl,?_⟩;dsimp only at h
   split at h
   . rename_i c
     rw[OM,a]at h;cases h;simp only[OB,PQ]at c;exact .inr ⟨c.1.1,rfl⟩
   . rw[OM,a]at h;cases h;exact .inl rfl
  | false=>
   dsimp only at h;refine d ?_
   split at h
   . rw[OM,a]at h;exact h
   . rw[OM,a]at h;exact h
def blkCx(X:Cx)(N:List Str)(scope:Scope)(cl:List (Str × Addr))(s:Shared)(H:Hp)(fp:List Addr):Cx where
 prog:=X.prog
 w:=X.w
 K:=X.K
 mg:=X.mg
 base:=X.base
 A:=X.A
 N:=N
 s₀:=s
 H₀:=H
 env:=EG scope cl (s.heap.objs.size+1) X.env
 outer:=X.stack
 stack:=X.stack
 ex:=fp
 fn:=λx=>scope.names.lookup x==some .cell
 calm:=X.calm
 pn:=[]
 xe:=λf g=>(∃(d:List (Addr × Obj)) (σ:St),Inv X d σ H s/\∀ b∈fp,FpOk X d H b)->notedBy (model X.prog X.w) X.A (EG scope cl (s.heap.objs.size+1) X.env) (λx c=>∃ m,c.heap.Ns (s.heap.objs.size+1) m/\∀ e,Heap.SameBut (s.heap.objs.size+1) c.heap e->∀ a:Env,a.locals=s.heap.objs.size+1->
  wpAny (model X.prog X.w) X.A (passOn "comprehension.variables-let-go" x a:Sem Value) (λ_ _=>False) X.xe {c with heap:=e}) f g
def subσ(ix:List (Option Nat))(σ:St):St:=ix.map λo=>match o with | none=>none | some i=>match σ[i]? with | some v=>v | none=>none
structure BlkOk(X:Cx)(N:List Str)(ix:List (Option Nat))(scope:Scope):Prop where
 kind:scope.kind=.function
 nd:N.Nodup
 len:ix.length=N.length
 names:(scope.names.map (·.1)).Nodup
 free:∀ x,(x,NameKind.free)∈scope.names->X.env.kindOf x=some .cell\/X.env.kindOf x=some .free
 at_:∀(j i:Nat) (x:Str),N[j]? =some x->ix[j]? =some (some i)->X.N[i]? =some x/\(x,NameKind.free)∈scope.names
theorem f9{α:Type}:∀{l:List (Str × α)} {x:Str} {k:α},(l.map (·.1)).Nodup->(x,k)∈l->l.lookup x=some k
 | (y,k0)::r,x,k,nd,h=>by
  rw[OD,OR]at nd;rw[OM];rcases N4.mp h with e | e
  . cases e;simp
  . have:x≠y:=by
     rintro rfl;exact nd.1 (N9.mpr ⟨(x,k),e,rfl⟩)
    have a:(x==y)=false:=by simpa using this
    rw[a];exact f9 nd.2 e
theorem EI {X:Cx} {NB:List (Addr × Obj)} {σ:St} {H:Hp} {s:Shared} {N:List Str} {ix:List (Option Nat)} {cl:List (Str × Addr)} {fp:List Addr} (B:BlkOk X N ix scope)
  (I:Inv X NB σ H s) (g:∀ x c,cl.lookup x=some c->X.env.cells.lookup x=some c) (O:∀ x,(x,NameKind.free)∈scope.names->∃ c,cl.lookup x=some c)
  (D:∀ b∈fp,FpOk X NB H b) (Z:∀ b∈fp,∃ o,s.heap.get? b=some o/\∀ v,o.data≠.cell v):
  Inv (blkCx X N scope cl s H fp) [] (subσ ix σ) (upd H s.heap.objs.size (.lst []))
   {s with heap:=pushCells ((s.heap.push {cls:=.type "list",data:=.seq #[]}).push {cls:=.type "dict",data:=.dict #[]}) scope.names}:=by
 have R:(s.heap.push {cls:=.type "list",data:=.seq #[]}).objs.size=s.heap.objs.size+1:=Ps ..;have Q:((s.heap.push {cls:=.type "list",data:=.seq #[]}).push {cls:=.type "dict",data:=.dict #[]}).objs.size=s.heap.objs.size+2:=by rw[Ps,R]
 have U:∀ b o,s.heap.get? b=some o->(pushCells ((s.heap.push {cls:=.type "list",data:=.seq #[]}).push {cls:=.type "dict",data:=.dict #[]}) scope.names).get? b=some o:=
  λb o e=>Qo _ _ b o (N0 _ (N0 _ e))
 have hl:(pushCells ((s.heap.push {cls:=.type "list",data:=.seq #[]}).push {cls:=.type "dict",data:=.dict #[]}) scope.names).get? s.heap.objs.size=some {cls:=.type "list",data:=.seq #[]}:=
  Qo _ _ _ _ (N0 _ (Oq _ rfl))
 have C:=cellsFrom_ok scope.names ((s.heap.push {cls:=.type "list",data:=.seq #[]}).push {cls:=.type "dict",data:=.dict #[]}) (s.heap.objs.size+2) [] ⟨λ_ _ L=>(nomatch L),List.Pairwise.nil⟩ (by rw[Q];exact NZ _);rw[Q]at C
 have f:(blkCx X N scope cl s H fp).env.cells=cellsFrom (s.heap.objs.size+2) scope.names []++cl:=by
  show cellsFrom (s.heap.objs.size+1+1) scope.names cl=_;rw[← List.nil_append cl,kX];simp
 have a:∀ x c,(blkCx X N scope cl s H fp).env.cells.lookup x=some c->((x,c)∈cellsFrom (s.heap.objs.size+2) scope.names []/\(x,NameKind.cell)∈scope.names)\/((cellsFrom (s.heap.objs.size+2) scope.names []).lookup x=none/\cl.lookup x=some c):=λx c e=>by
  rw[f,dS]at e
  cases q:(cellsFrom (s.heap.objs.size+2) scope.names []).lookup x with
  | none=>rw[q]at e;exact .inr ⟨rfl,e⟩
  | some T=>
   rw[q]at e;cases e;have m:=OY q;refine .inl ⟨m,?_⟩;rcases io _ _ _ m with z | z
   . exact z
   . exact nomatch z
 have k:∀ x c,cl.lookup x=some c->c<s.heap.objs.size:=λx c e=>by
  obtain⟨v,q⟩:=I.cell x c (g x c e);exact q.lt
 have G:H s.heap.objs.size=none:=I.hok.fresh (NZ _)
 have E:∀ b,s.heap.objs.size<b->(upd H s.heap.objs.size (.lst [])) b=none:=λb h=>by
  rw[ah (Qy h)];exact I.hok.fresh (OH h)
 have P:∀ b∈fp,b<s.heap.objs.size:=λb h=>by
  obtain⟨o,e,_⟩:=Z b h;exact Oh e
 have W:=I.env0;have d:∀ x c,(x,c)∈cellsFrom (s.heap.objs.size+2) scope.names []->s.heap.objs.size+2<=c:=λx c m=>(C.empty x c m).2
 refine⟨⟨I.ok.mod,B.kind,I.ok.glob,I.ok.blt,Ql _,λx y c e1 e2=>?_,λx hx=>?_,λx c hx e=>?_,I.ok.hd,I.ok.frames,.inl rfl,λb h=>⟨?_,λx c e=>?_⟩,W.bs,W.bsz,λb o e h=>?_,λb h ab=>?_,W.funs,W.frf⟩,
  rfl,I.bare,Un.laid U (NZ _) G,⟨λ_=>none,?_,λj x v e1 e2 e3=>?_⟩,λx c e=>?_,E _ (PX _),λx c e=>?_,λp hp=>absurd (show p∈([]:List (Addr × Obj)) from hp) (by simp),?_,?_⟩
 . rcases a x c e1 with ⟨w,k1⟩ | ⟨M,A⟩ <;> rcases a y c e2 with ⟨m2,k2⟩ | ⟨n2,t⟩
   . exact name_of_addr C.apart w m2
   . exact absurd (Ox (k _ _ t) (NY (Qi _ _) (d _ _ w))) (O0 _)
   . exact absurd (Ox (k _ _ A) (NY (Qi _ _) (d _ _ m2))) (O0 _)
   . exact I.ok.inj x y c (g _ _ A) (g _ _ t)
 . have F:(relabel scope X.env).names.lookup x=some .cell\/(relabel scope X.env).names.lookup x=some .free:=hx
   have Y:scope.names.lookup x=some .cell\/scope.names.lookup x=some .free:=by
    rcases F with z | z
    . obtain⟨k',e,r | r⟩:=mh z
      . rw[← r]at e;exact .inl e
      . rw[r.1]at e;exact .inr e
    . obtain⟨k',e,r | r⟩:=mh z
      . rw[← r]at e;exact .inr e
      . cases r.2
   rw[f];rcases Y with z | z
   . obtain⟨c,q⟩:=qe (n:=s.heap.objs.size+2) z;exact⟨c,by rw[dS,q]⟩
   . obtain⟨c,q⟩:=O x (OY z)
     cases t:(cellsFrom (s.heap.objs.size+2) scope.names []).lookup x with
     | none=>exact⟨c,by rw[dS,t];exact q⟩
     | some T=>exact⟨T,by rw[dS,t]⟩
 . have F:scope.names.lookup x=some .cell:=by simpa [blkCx] using hx
   rcases a x c e with ⟨w,k1⟩ | ⟨M,A⟩
   . exact NY (Qi _ _) (d _ _ w)
   . obtain⟨T,q⟩:=qe (n:=s.heap.objs.size+2) F;rw[q]at M;cases M
 . exact OF (Ph (P b h))
 . rcases a x c e with ⟨w,k1⟩ | ⟨M,A⟩
   . exact Qy (Ox (P b h) (NY (Qi _ _) (d _ _ w)))
   . exact(D b h).2.2.2.2.1 x c (g _ _ A)
 . rcases(D b h).2.2.2.1 with z | z
   . exact I.ok.noex b o e z
   . exact absurd (Ox (Oh e) (NY I.ok.bsz z)) (O0 _)
 . rcases N4.mp (I.stkSub b ab) with z | z
   . exact(D b h).2.1 z
   . exact(D b h).2.2.1 z
 . show Heap.Ns _ (s.heap.objs.size+1) _;rw[← R];exact(Heap.Ns.new _ (.type "dict")).keeps (Qo _ _)
 .
   unfold subσ at e2;rw[NR]at e2
   cases q:ix[j]? with
   | none=>rw[q]at e2;cases e2
   | some o=>
    rw[q]at e2
    cases o with
    | none=>cases e2
    | some i=>
     simp only[Rj,QL]at e2;obtain⟨hN,L⟩:=B.at_ j i x e1 q
     have hσ:σ[i]? =some (some v):=by
      cases t:σ[i]? with
      | none=>rw[t]at e2;cases e2
      | some z=>rw[t]at e2;exact congrArg some e2
     obtain⟨m,hn,aa⟩:=I.loc;have l:=B.free x L;have S:Vis X.env.scope x:=l.elim (λz=>.inr (.inl z)) λz=>.inr (.inr z);obtain⟨u,ru,lk⟩:=aa i x v hN hσ S;refine⟨u,ru,?_⟩;obtain⟨c,hc⟩:=O x L
     have J:(cellsFrom (s.heap.objs.size+2) scope.names []).lookup x=none:=by
      cases t:(cellsFrom (s.heap.objs.size+2) scope.names []).lookup x with
      | none=>rfl
      | some T=>
       rcases io _ _ _ (OY t) with z | z
       . have a1:=f9 B.names z;have a2:=f9 B.names L;rw[a1]at a2;cases a2
       . exact nomatch z
     have K:(blkCx X N scope cl s H fp).env.cells.lookup x=some c:=by rw[f,dS,J];exact hc
     have ac:(blkCx X N scope cl s H fp).env.kindOf x=some .cell\/(blkCx X N scope cl s H fp).env.kindOf x=some .free:=by
      rcases e3 with z | z | z
      . obtain⟨k',e,r | r⟩:=mh (show(relabel scope X.env).names.lookup x=some .local from z)
        . rw[f9 B.names L]at e;cases e;cases r
        . cases r.2
      . exact .inl z
      . exact .inr z
     refine .inr ⟨ac,c,K,?_⟩;rcases lk with ⟨k1,_⟩ | ⟨_,c2,e4,z⟩
     . rcases l with z | z <;> rw[k1]at z <;> cases z
     . rw[g x c hc]at e4;cases e4;exact z.keeps U
 . rcases a x c e with ⟨w,k1⟩ | ⟨M,A⟩
   . exact⟨none,(C.empty x c w).1⟩
   . obtain⟨v,z⟩:=I.cell x c (g _ _ A);exact⟨v,z.keeps U⟩
 . rcases a x c e with ⟨w,k1⟩ | ⟨M,A⟩
   . exact E c (Ox (Nat.lt_add_of_pos_right #[1]) (d _ _ w))
   . rw[ah (OF (k _ _ A))];exact I.freeC x c (g _ _ A)
 . exact I.hok.laid U (NZ _) ⟨OP _,[],0,.nil,hl⟩
 . show(subσ ix σ).length=N.length;unfold subσ;rw[NM];exact B.len
def PTs(X:Cx)(a:List Expr)(t:TT):Prop:=
 ∀(b:List (Addr × Obj)) (s:Shared) (σ:St) (H:Hp) (Q:Bool->Hp->Prop),Inv X b σ H s->t σ H Q->
  wpAny (model X.prog X.w) X.A (forIn a true λc r=>if r=true then do let ok ← isTrue c X.env (eval c X.env);pure (ForInStep.yield ok) else pure (ForInStep.yield r)) (TP X b σ Q) X.xe s
def tTrue:TT:=λ_ H Q=>Q true H
def aS{X:Cx}:PTs X [] tTrue:=λ_ _ _ H _ I h=>wpAny_tests_nil ⟨H,I,h⟩
def aX{X:Cx}{c:Expr}{t:TT}(h:PT X c t):PTs X [c] t:=λa s σ H Q I q=>wpAny_tests_one (h a s σ H Q I q)
def Av(ix:List (Option Nat))(s:TI)(g:TG)(t:TT)(te:TE)(h:Addr->Hp->Prop):St->Hp->Prop:=λσ H=>s σ H λJ p=>∀ l,p l=none->
 ∃ W:Nat->Nat->St->Hp->Prop,(∃ m,W 0 m (subσ ix σ) (upd p l (.lst [])))/\∀ i m q c,W i m q c->
  (J.stop i c/\h l c)\/(J.go i c/\∃ N:St->Hp->Prop,(∀ a d,N a d->∃ o,o<m/\W (i+1) o a d)/\∀ x n,J.yld i c x n->g x q n λe r=>t e r λb k=>
   if b=true then te e k λy j=>∃ f,j l=↥f/\f.length<sizeLine/\N e (upd j l (.lst (f++[y]))) else N e k)
section
variable{X:Cx}{NB:List (Addr × Obj)}{σ σ':St}{H H':Hp}{s s':Shared}{N:List Str}{scope:Scope}{cl:List (Str × Addr)}{fp:List Addr}
theorem CP{h':Heap}(I:Inv X NB σ H s)(J:Inv (blkCx X N scope cl s H fp) [] σ' H' s')(i:∀ b∈fp,FpOk X NB H b)(f:Heap.SameBut (s.heap.objs.size+1) s'.heap h'):Inv X NB σ H' {s' with heap:=h'}:=by
 have u:Un (frs X.stack) fp H H' s.heap s'.heap:=J.base;have j:H' (s.heap.objs.size+1)=none:=J.free;have h:∀ b o,s.heap.get? b=some o->b≠s.heap.objs.size+1:=λb o e=>OF (Ph (Oh e));refine I.call' (s':={s' with heap:=h'}) (ch:=fp) J.os ⟨λb o e n d a=>?_,λb o e n d a=>?_,u.free,λb o e a=>?_,u.tups,u.frzs,u.tbls⟩ (λb r e=>?_) J.bare λb d=>?_
 . exact(f.2 b (h b o e)).trans (u.keep b o e n d a)
 . obtain⟨l,q⟩:=u.slot b o e n d a;exact⟨l,(f.2 b (h b o e)).trans q⟩
 . obtain⟨v,q⟩:=u.there b o e a;exact⟨v,(f.2 b (h b o e)).trans q⟩
 . refine(J.hok b r e).stay (λc x g q=>(f.2 c ?_).trans q) (λ_ q=>q) λ_ _ q=>q;rintro rfl;rcases g with rfl | g
   . rw[j]at e;cases e
   . rw[j]at g;cases g
 . obtain⟨w,k,y,t,p,m⟩:=i b d;exact⟨t,k,p,m⟩
def Aw {tg t O:Expr} {L:List Expr} {pos:Pos} {ix:List (Option Nat)} {wi:TI} {g:TG} {tt:TT} {te:TE} {af:Addr->Hp->Prop} {RR:Value->Addr->Result->Shared->Prop} (B:BlkOk X N ix scope) (hc:X.calm=true)
  (hi:PI X tg t wi) (hg:∀ cl s H fp,PG (blkCx X N scope cl s H fp) tg g) (ht:∀ cl s H fp,PTs (blkCx X N scope cl s H fp) L tt) (he:∀ cl s H fp,PE (blkCx X N scope cl s H fp) O te)
  (aq:∀ x c,cl.lookup x=some c->X.env.cells.lookup x=some c) (au:∀ x,(x,NameKind.free)∈scope.names->∃ c,cl.lookup x=some c)
  (I:Inv X NB σ H s) (h:Av ix wi g tt te af σ H)
  (ok:∀(f:Shared) (j:Hp) (fp:List Addr) (σ3:St) (H3:Hp) (s3:Shared),Inv X NB σ j f->(∀ b∈fp,FpOk X NB j b)->Inv (blkCx X N scope cl f j fp) [] σ3 H3 s3->af f.heap.objs.size H3->RR (.ref f.heap.objs.size) (f.heap.objs.size+1) (.ok .next) s3)
  (ai:∀(a C:Addr) (x:Value) (s':Shared),(∃ m,s'.heap.Ns C m/\∀ h',Heap.SameBut C s'.heap h'->∀ k:Env,k.locals=C->wpAny (model X.prog X.w) X.A (passOn "comprehension.variables-let-go" x k:Sem Value) (λ_ _=>False) X.xe {s' with heap:=h'})->RR (.ref a) C (.error x) s'):
  wpAny (model X.prog X.w) X.A (eval t X.env) (λx s₁=>wpAny (model X.prog X.w) X.A (pyIter x) (λit s₂=>wpAny (model X.prog X.w) X.A (newList []) (λS U=>
   wpAny (model X.prog X.w) X.A (newFunctionEnv scope X.env.globals cl [] X.env.qual none .none (some X.env)) (λk s₄=>
    codeAny (model X.prog X.w) X.A (.compStart (.ListComp O [⟨tg,t,L,0⟩] scope pos) 0 it S {k with scope:=relabel scope X.env}) (RR S k.locals) s₄) X.xe U) X.xe s₂) X.xe s₁) X.xe s:=by
 refine thn (hi NB s σ H _ I h) λv s1 h1=>thn h1 λay f h2=>?_;obtain⟨it,fp,tn,J,j,e,I2,T,M,f2,h2⟩:=h2;subst e;refine wpAny_newList (Gj ?_) (OP _);have ao:(f.heap.push {cls:=.type "list",data:=.seq (([]:List Value)).toArray}).objs.size=f.heap.objs.size+1:=Ps ..;dsimp only;rw[ao];have I3:=EI (fp:=fp) B I2 aq au f2 (T.obj _ _ M);obtain⟨W,⟨m0,w0⟩,ak⟩:=h2 f.heap.objs.size I2.fresh
 have hk:∀ b o,f.heap.get? b=some o->(pushCells ((f.heap.push {cls:=.type "list",data:=.seq #[]}).push {cls:=.type "dict",data:=.dict #[]}) scope.names).get? b=some o:=
  λb o e=>Qo _ _ b o (N0 _ (N0 _ e))
 have R:=T.keep _ _ _ M λb _ o e=>hk b o e
 have am:∀ b∈fp,(upd j f.heap.objs.size (.lst [])) b=none:=λb z=>by
  obtain⟨o,e,_⟩:=T.obj _ _ M b z;rw[ah (OF (Oh e))];exact(f2 b z).1
 have E:∀{σ5:St} {H5:Hp} {s5:Shared},Inv (blkCx X N scope cl f j fp) [] σ5 H5 s5->(∀ b∈fp,H5 b=none)->∀ b∈fp,FpOk (blkCx X N scope cl f j fp) [] H5 b:=λI5 hn b z=>
  ⟨hn b z,(I5.ok.exf b z).1,I5.ok.exfs b z,.inl z,(I5.ok.exf b z).2,λp hp=>absurd (show p∈([]:List (Addr × Obj)) from hp) (by simp)⟩
 have F:∀ U:Shared,U={f with heap:=pushCells ((f.heap.push {cls:=.type "list",data:=.seq #[]}).push {cls:=.type "dict",data:=.dict #[]}) scope.names}->
   codeAny (model X.prog X.w) X.A (.compLoop (.ListComp O [⟨tg,t,L,0⟩] scope pos) 0 (.ref it) (.ref f.heap.objs.size) (blkCx X N scope cl f j fp).env) (RR (.ref f.heap.objs.size) (f.heap.objs.size+1)) U:=by
  rintro U rfl;refine EH (λn s'=>∃ i σ' H',Inv (blkCx X N scope cl f j fp) [] σ' H' s'/\tn i s'.heap/\(∀ b∈fp,H' b=none)/\W i n σ' H') ?_ m0 ⟨0,_,_,I3,R,am,w0⟩;rintro n s4 ⟨i,Y,H4,I4,aa,Z,w4⟩
  have l:∀ x s',(blkCx X N scope cl f j fp).xe x s'->notedBy (model X.prog X.w) X.A (blkCx X N scope cl f j fp).env (λe s'=>RR (.ref f.heap.objs.size) (f.heap.objs.size+1) (.error e) s') x s':=λx s' hx=>
   OZ (hx ⟨NB,σ,I2,f2⟩) (λ_ ar q=>ai _ _ _ _ q) λe ar q=>ai _ _ _ _ q
  rcases ak i n Y H4 w4 with ⟨ad,qn⟩ | ⟨go,Nx,hN,ab⟩
  . refine OZ (T.done (blkCx X N scope cl f j fp) rfl rfl rfl hc i [] s4 Y H4 _ I4 (E I4 Z) aa ad) (λr s5 ⟨hr,I5⟩=>?_) l;subst hr;exact ok f j fp Y H4 s5 I2 f2 I5 qn
  . refine OZ (T.item (blkCx X N scope cl f j fp) rfl rfl rfl hc i [] s4 Y H4 _ I4 (E I4 Z) aa go) (λr s5 ⟨u,hr,h5⟩=>?_) l;subst hr;refine OZ h5 (λ_ s6 ⟨x,H6,I6,r6,y6,K,al⟩=>?_) l;have ax:=I6.pinned (E I6 al) (T.obj _ _ K);refine OZ (hg cl f j fp _ s6 Y H6 x u _ ax r6 (ab x H6 y6)) (λ_ s7 ⟨σ7,H7,I7,q7⟩=>?_) l
    have D:∀{σ8:St} {G:Hp} {P:Shared},Inv (blkCx X N scope cl f j fp) ([]++rF fp s6.heap) σ8 G P->Nx σ8 G->∃ m,m<n/\∃ i σ' H',Inv (blkCx X N scope cl f j fp) [] σ' H' P/\tn i P.heap/\(∀ b∈fp,H' b=none)/\W i m σ' H':=λ{σ8 G P} Q n8=>by
     obtain⟨m',hm,w8⟩:=hN σ8 G n8;refine⟨m',hm,i+1,σ8,G,Q.unpinned,T.keep _ _ _ K λb z o e=>(Q.pin (b,o) (OG _ (OG _ (lR z e)))).1,λb z=>?_,w8⟩;obtain⟨o,e,d⟩:=T.obj _ _ K b z;exact(Q.pin (b,o) (OG _ (OG _ (lR z e)))).2.1
    refine OZ (ht cl f j fp _ s7 σ7 H7 _ I7 q7) (λap P ⟨G,Q,q8⟩=>?_) l
    cases ap with
    | false=>exact D Q q8
    | true=>
     refine OZ (he cl f j fp _ P σ7 G _ Q q8) (λy s9 ⟨yv,H9,I9,r9,ys,hl,hz,q9⟩=>?_) l;refine OZ (yL (X:=blkCx X N scope cl f j fp) _ s9 σ7 H9 (.ref f.heap.objs.size) [yv] (.ref f.heap.objs.size) [y] (λ_ ac=>Nx σ7 ac) I9 rfl (.cons r9 .nil) ⟨_,ys,yv,rfl,rfl,hl,hz,q9⟩) (λ_ az ⟨_,ac,as,_,av⟩=>?_) l;exact D as av
 exact codeAny_compStart_list (F _ rfl) (T.self _ 0 _ _ _ R (F _ rfl))
def tComp(ix:List (Option Nat))(a:TI)(g:TG)(b:TT)(te:TE):TE:=λσ H Q=>Av ix a g b te (λl H'=>Q (.ref l) H') σ H
def sComp(k:Nat)(ix:List (Option Nat))(a:TI)(g:TG)(b:TT)(te:TE):TS:=λD σ H=>Av ix a g b te (λl H'=>D.nx (σ.set k ↑l) H') σ H
def CQ(I:Inv X NB σ H s){ix:List (Option Nat)}(B:BlkOk X N ix scope):∃ cl,closureFor scope X.env=pure cl/\(∀ x c,cl.lookup x=some c->X.env.cells.lookup x=some c)/\∀ x,(x,NameKind.free)∈scope.names->∃ c,cl.lookup x=some c:=
 vJ λx a=>I.ok.has x (B.free x a)
def uk{ix:List (Option Nat)}(B:BlkOk X N ix scope):∀ x∈scope.names,x.2=NameKind.local->scope.names.lookup x.1=some .local:=λx a e=>by
 obtain⟨n,k⟩:=x;cases e;exact f9 B.names a
theorem aD {f b c:Expr} {d:List Expr} {pos:Pos} {ix:List (Option Nat)} {i:TI} {g:TG} {j:TT} {te:TE} (N:List Str) (B:BlkOk X N ix scope) (z:X.calm=true)
  (r:PI X f b i) (u:∀ cl s H fp,PG (blkCx X N scope cl s H fp) f g) (o:∀ cl s H fp,PTs (blkCx X N scope cl s H fp) d j) (he:∀ cl s H fp,PE (blkCx X N scope cl s H fp) c te)
  (t:∀ x,foldedSetIterable b X.env x=pure x:=by intro _;rfl):PE X (.ListComp c [⟨f,b,d,0⟩] scope pos) (tComp ix i g j te):=by
 intro NB s σ H Q I h;obtain⟨cl,e1,e2,v⟩:=CQ I B;rw[eval_ListComp];refine QR (use:=none) rfl t e1 B.kind (uk B) ?_;refine Aw (RR:=λe C=>compPost (model X.prog X.w) X.A X.xe none (EP X NB σ Q) e C) B z r u o he e2 v I h (λF G fp K p D y k J q=>?_) (λa C x s' q=>q);obtain⟨m,l,_⟩:=J.loc;exact⟨m,l,λE n=>⟨.ref _,p,CP y J k n,rfl,q⟩⟩
theorem kb {y:Str} {n j:Pos} {k:Nat} {r d f:Expr} {i:List Expr} {pos:Pos} {ix:List (Option Nat)} {M:TI} {g:TG} {P:TT} {te:TE} (S:X.N.Nodup) (hy:X.N[k]? =some y) (hx:Loc X.env.scope y)
  (L:swapsWith (.ListComp f [⟨r,d,i,0⟩] scope pos) (some (.Name y n)) j.line X.env=pure true) (N:List Str) (B:BlkOk X N ix scope) (hc:X.calm=true)
  (hi:PI X r d M) (hg:∀ cl s H fp,PG (blkCx X N scope cl s H fp) r g) (ht:∀ cl s H fp,PTs (blkCx X N scope cl s H fp) i P) (he:∀ cl s H fp,PE (blkCx X N scope cl s H fp) f te)
  (hs:∀ x,foldedSetIterable d X.env x=pure x:=by intro _;rfl) (hf:X.fn y=true\/X.env.scope.names.lookup y=some .local:=by first | exact .inl rfl | exact .inr rfl | assumption):
  PS X (.Assign [.Name y n] (.ListComp f [⟨r,d,i,0⟩] scope pos) j) (sComp k ix M g P te):=by
 intro NB s σ H D I h;obtain⟨cl,e1,e2,e3⟩:=CQ I B;rw[exec_Assign_Name_used _ _ _ _ L];refine N7 (RD (N7 ?_));show wpAny _ X.A (do let _ ← comprehension (.ListComp f [⟨r,d,i,0⟩] scope pos) scope X.env _ (newList []) false (eval d X.env) (some (assign (.Name y n) X.env))) _ _ s;refine N7 (OZ (QR (use:=some (assign (.Name y n) X.env)) (Q:=λ_ s'=>SP X NB D .next s') rfl hs e1 B.kind (uk B) ?_) (λ_ s' T=>OC (OC T)) λ_ _ e=>e);refine Aw (RR:=λu C=>compPost (model X.prog X.w) X.A X.xe (some (assign (.Name y n) X.env)) (λ_ s'=>SP X NB D .next s') u C) B hc hi hg ht he e2 e3 I h (λK H2 fp σ3 R O l U J q=>?_) (λa C x s' q=>q);obtain⟨m,Y,_⟩:=J.loc;have I3:Inv X NB σ R {O with heap:=O.heap}:=CP l J U (Heap.SameBut.refl _ _);show wpAny _ X.A (assign (.Name y n) X.env (.ref _)) _ _ _;refine wpAny_assign_Name (yC (v:=.ref _) I3 S hy hx rfl (λZ W ⟨a,t,G⟩=>?_) hf)
 have E:a<K.heap.objs.size:=by
  rcases G with rfl | G
  . exact l.lt
  . obtain⟨v,z⟩:=l.cell _ _ G;exact z.lt
 have F:K.heap.objs.size+1≠a:=Qy (Ph E);refine⟨m,Y.sameBut t F,λh' sb=>?_⟩;refine⟨_,R,W.turned (t':=Z.toks) (it:=K.heap.objs.size+1) (λb o hb e=>(sb.2 b hb).trans e) J.free (Qy (Ph l.lt)) (.inr (NY l.sz (Ql _))) (λx c e=>?_) (λp hp=>?_),q⟩
 . obtain⟨v,z⟩:=l.cell x c e;exact OF (Ph z.lt)
 . exact OF (Ph (Oh (l.pin p hp).1))
end
def bnd{α:Type}:Option α->(α->Prop)->Prop
 | some a,k=>k a
 | none,_=>False
def a9{α:Type}{o:Option α}{a:α}{k:α->Prop}(h:o=some a)(q:k a):bnd o k:=by subst h;exact q
theorem ba{α:Type}{o:Option α}{k:α->Prop}(h:bnd o k):∃ a,o=some a/\k a:=by
 cases o with
 | none=>exact h.elim
 | some a=>exact⟨a,rfl,h⟩
def be{α:Type}{a:α}{k:α->Prop}:bnd (some a) k=k a:=rfl
def unM:Option HO->Option (List V)
 | ↥xs=>some xs
 | _=>none
def unL:Option HO->Option (List V)
 | ↥xs=>some xs
 | some (.frz _ (.lst xs))=>some xs
 | _=>none
def unS:Option HO->Option (List V)
 | ↥xs=>some xs
 | some (.frz _ (.lst xs))=>some xs
 | some (.tup xs)=>some xs
 | _=>none
variable{o:Option HO}{xs:List V}
theorem ib(h:unM o=some xs):o=↥xs:=by
 unfold unM at h;split at h
 . cases h;rfl
 . cases h
theorem o7{K:Frag}{H:Hp}{p:Addr}(h:unL (H p)=some xs):SqL K H p xs:=by
 unfold unL at h;split at h
 . rename_i e;cases h;exact .inl (.inl e)
 . rename_i o _ e;cases h;exact .inl (.inr ⟨_,e⟩)
 . cases h
theorem o8{K:Frag}{H:Hp}{p:Addr}(h:unS (H p)=some xs):SqL K H p xs\/SqT K H p xs:=by
 unfold unS at h;split at h
 . rename_i e;cases h;exact .inl (.inl (.inl e))
 . rename_i o _ e;cases h;exact .inl (.inl (.inr ⟨_,e⟩))
 . rename_i e;cases h;exact .inr (.inl (.inl e))
 . cases h
mutual
inductive DV(K:Frag)(H:Hp):V->PyData->Prop
 | non:DV K H .non .none
 | bl (b:Bool):DV K H (.bl b) (.bool b)
 | int (i:Int):DV K H (.int i) (.int i)
 | str (x:Str):DV K H (.str x) (.str x)
 | lst {a:Addr} {xs:List V} {ds:List PyData}:SqL K H a xs->DVs K H xs ds->DV K H (.ref a) (.list ds)
 | tup {a:Addr} {xs:List V} {ds:List PyData}:SqT K H a xs->DVs K H xs ds->DV K H (.ref a) (.tuple ds)
inductive DVs(K:Frag)(H:Hp):List V->List PyData->Prop
 | nil:DVs K H [] []
 | cons {x:V} {d:PyData} {xs:List V} {ds:List PyData}:DV K H x d->DVs K H xs ds->DVs K H (x::xs) (d::ds)
end
section
variable{X:Cx}{NB:List (Addr × Obj)}{σ:St}{H:Hp}{s:Shared}
mutual
theorem DV.reads(I:Inv X NB σ H s):∀{x:V} {d:PyData} {v:Value},DV X.K H x d->RelV x v->∃ e,Reads s.heap v d e
 | _,_,_,.non,r=>by cases r;exact⟨_,.none⟩
 | _,_,_,.bl b,r=>by cases r;exact⟨_,.bool b⟩
 | _,_,_,.int i,r=>by obtain⟨t,rfl⟩:=r;exact⟨_,.int i t⟩
 | _,_,_,.str x,r=>by obtain⟨t,rfl⟩:=r;exact⟨_,.str x t⟩
 | _,_,_,.lst (a:=a) h hs,r=>by
  cases r;obtain⟨NF,c,p,_⟩:=I.list h;obtain⟨e,q⟩:=DVs.reads I hs c;obtain⟨o,h1,h2,n,h3⟩:=p.isList;exact⟨_,.list h1 h2 h3 q⟩
 | _,_,_,.tup (a:=a) h hs,r=>by
  cases r;obtain⟨NF,c,p,_⟩:=I.tuple h;obtain⟨e,q⟩:=DVs.reads I hs c;obtain⟨o,h1,h2,n,h3⟩:=p;exact⟨_,.tuple h1 h2 h3 q⟩
theorem DVs.reads(I:Inv X NB σ H s):∀{xs:List V} {b:List PyData} {us:List Value},DVs X.K H xs b->Vals xs us->∃ a,ReadsAll s.heap us b a
 | _,_,_,.nil,.nil=>⟨_,.nil⟩
 | _,_,_,.cons h hs,.cons r rs=>by
  obtain⟨a,q⟩:=DV.reads I h r;obtain⟨bs,c⟩:=DVs.reads I hs rs;exact⟨_,.cons q c⟩
end
end
theorem DVs.ints{K:Frag}{H:Hp}:∀ ns:∅,DVs K H (ns.map V.int) (ns.map PyData.int)
 | []=>.nil
 | n::r=>.cons (.int n) (DVs.ints r)
def uO:∀ ns ms:∅,PyData.eqvAll (ns.map PyData.int) (ms.map PyData.int)=decide (ns=ms):=PySem.W.ked_eqvAll
theorem mj:∀ ns:∅,PyData.canLayAll0 (ns.map PyData.int)=true
 | []=>rfl
 | n::r=>by rw[OD,PyData.canLayAll0,mj r];rfl
theorem jd:∀ ns:∅,PyData.depthAll (ns.map PyData.int)=0
 | []=>rfl
 | n::r=>by rw[OD,PyData.depthAll,jd r];rfl
theorem kK(ns:∅):SeqAt.shaped (.list (ns.map PyData.int))=true:=by
 simp[SeqAt.shaped,PyData.canLay0,mj,PyData.depth,jd]
def cAdd:R2
 | .int i,.int j,H,Q=>Q (.int (i+j)) H
 | .str i,.str j,H,Q=>i.length+j.length<=sizeLine/\Q (.str (i++j)) H
 | .ref l,.ref b,H,Q=>bnd (unM (H l)) λxs=>bnd (unM (H b)) λa=>xs.length+a.length<=sizeLine/\∀ p,H p=none->Q (.ref p) (upd H p (.lst (xs++a)))
 | _,_,_,_=>False
def cSub:R2
 | .int i,.int j,H,Q=>Q (.int (i-j)) H
 | _,_,_,_=>False
def cMul:R2
 | .int i,.int j,H,Q=>CMul i j/\Q (.int (i*j)) H
 | _,_,_,_=>False
def cDiv:R2
 | .int i,.int j,H,Q=>CDiv i j/\Q (.int (i/j)) H
 | _,_,_,_=>False
def cMod:R2
 | .int i,.int j,H,Q=>0<j/\Q (.int (i%j)) H
 | _,_,_,_=>False
def cPow:R2
 | .int i,.int j,H,Q=>CPow i j/\Q (.int (i^j.toNat)) H
 | _,_,_,_=>False
def cCmp(g:Int->Int->Bool):R2
 | .int i,.int j,H,Q=>Q (.bl (g i j)) H
 | _,_,_,_=>False
def rEqD(K:Frag):R2:=λx y H Q=>∃ d e,DV K H x d/\DV K H y e/\SeqAt.shaped d=true/\SeqAt.shaped e=true/\Q (.bl (PyData.eqv d e)) H
def rNeD(K:Frag):R2:=λx y H Q=>∃ d e,DV K H x d/\DV K H y e/\SeqAt.shaped d=true/\SeqAt.shaped e=true/\Q (.bl (!PyData.eqv d e)) H
def cEq(K:Frag):R2
 | .int i,.int j,H,Q=>Q (.bl (decide (i=j))) H
 | .bl i,.bl j,H,Q=>Q (.bl (decide (i=j))) H
 | .str i,.str j,H,Q=>Q (.bl (decide (i=j))) H
 | x,y,H,Q=>rEqD K x y H Q
def cNe(K:Frag):R2
 | .int i,.int j,H,Q=>Q (.bl (!decide (i=j))) H
 | .bl i,.bl j,H,Q=>Q (.bl (!decide (i=j))) H
 | .str i,.str j,H,Q=>Q (.bl (!decide (i=j))) H
 | x,y,H,Q=>rNeD K x y H Q
def rInD(K:Frag)(b:Bool):R2:=λx y H Q=>∃ d a,DV K H x d/\(DV K H y (.list a)\/DV K H y (.tuple a))/\PyData.canLayAll0 a=true/\PyData.canLay0 d=true/\min (PyData.depthAll a) d.depth<=62/\
 Q (.bl (if b then !a.any (λy=>PyData.eqv y d) else a.any λy=>PyData.eqv y d)) H
def keyOf:V->Option Key
 | .int i=>some (.inl i)
 | .str x=>some (.inr x)
 | _=>none
def unD:Option HO->Option (List (Key × V))
 | some (.dK NE)=>some NE
 | _=>none
def cIn(K:Frag)(b:Bool):R2
 | .ref a,y,H,Q=>rInD K b (.ref a) y H Q
 | x,.ref p,H,Q=>(match unD (H p) with
  | some c=>bnd (keyOf x) λk=>Q (.bl (if b then !(valV c k).isSome else(valV c k).isSome)) H
  | none=>bnd (unS (H p)) λxs=>flatV x=true/\xs.all flatV=true/\Q (.bl (if b then !inV x xs else inV x xs)) H)
 | .str i,.str j,H,Q=>Q (.bl (if b then !(!(Builtin.Str.occurrences j i 0 j.length 1).isEmpty) else !(Builtin.Str.occurrences j i 0 j.length 1).isEmpty)) H
 | _,_,_,_=>False
def cIx:R2
 | .ref p,y,H,Q=>(match unD (H p) with
  | some a=>bnd (keyOf y) λk=>bnd (valV a k) λv=>Q v H
  | none=>match y with
   | .int i=>bnd (unS (H p)) λxs=>bnd (atI xs i) λv=>Q v H
   | _=>False)
 | .str z,.int i,H,Q=>z.length<=sizeLine/\bnd (atI z.cps.toList i) λc=>Q (.str ⟨#[c]⟩) H
 | _,_,_,_=>False
theorem vK{a:List (Key × V)}(h:unD o=some a):o=some (.dK a):=by
 unfold unD at h;split at h
 . cases h;rfl
 . cases h
theorem uP{x:V}{k:Key}(h:keyOf x=some k):x=kV k:=by
 unfold keyOf at h;split at h
 . cases h;rfl
 . cases h;rfl
 . cases h
section
variable{X:Cx}{a b c:Expr}{ta tb tc:TE}{pos:Pos}
theorem aO:OpR X (binaryOp .Add) cAdd:=by
 intro c s σ H x y v u Q I a b h;unfold cAdd at h
 split at h
 . exact IH c s σ H _ _ v u Q I a b ⟨_,_,rfl,rfl,h⟩
 . exact Dl c s σ H _ _ v u Q I a b ⟨_,_,rfl,rfl,h.1,h.2⟩
 . obtain⟨xs,e1,h⟩:=ba h;obtain⟨d,e2,h⟩:=ba h;exact IR c s σ H _ _ v u Q I a b ⟨_,_,xs,d,rfl,rfl,ib e1,ib e2,h.1,h.2⟩
 . exact h.elim
theorem cR:OpR X (binaryOp .Sub) cSub:=by
 intro b s σ H x y v u Q I a c h;unfold cSub at h
 split at h
 . exact II b s σ H _ _ v u Q I a c ⟨_,_,rfl,rfl,h⟩
 . exact h.elim
theorem eH:OpR X (binaryOp .Mult) cMul:=by
 intro b s σ H x y v u Q I a c h;unfold cMul at h
 split at h
 . exact IJ b s σ H _ _ v u Q I a c ⟨_,_,rfl,rfl,h.1,h.2⟩
 . exact h.elim
theorem gO:OpR X (binaryOp .FloorDiv) cDiv:=by
 intro b s σ H x y v u Q I a c h;unfold cDiv at h
 split at h
 . exact Hi b s σ H _ _ v u Q I a c ⟨_,_,rfl,rfl,h.1,h.2⟩
 . exact h.elim
theorem cJ:OpR X (binaryOp .Mod) cMod:=by
 intro b s σ H x y v u Q I a c h;unfold cMod at h
 split at h
 . exact IK b s σ H _ _ v u Q I a c ⟨_,_,rfl,rfl,h.1,h.2⟩
 . exact h.elim
theorem tP{a:CmpOp}{g:Int->Int->Bool}(o:OpR X (compareOp a) (rI0 λi j=>.bl (g i j))):OpR X (compareOp a) (cCmp g):=by
 intro c s σ H x y v u Q I b d h;unfold cCmp at h
 split at h
 . exact o c s σ H _ _ v u Q I b d ⟨_,_,rfl,rfl,h⟩
 . exact h.elim
def dY:OpR X (compareOp .Lt) (cCmp λi j=>decide (i<j)):=tP JS
def ic:OpR X (compareOp .LtE) (cCmp λi j=>decide (i<=j)):=tP JT
def fq:OpR X (compareOp .Gt) (cCmp λi j=>decide (j<i)):=tP JU
def Ax:OpR X (compareOp .GtE) (cCmp λi j=>decide (j<=i)):=tP JV
theorem IU(b:X.A.units+64<cLine):OpR X (compareOp .Eq) (rEqD X.K):=by
 intro g s σ H x y v u Q I c f h;obtain⟨d,e,h1,h2,h3,h4,q⟩:=h;obtain⟨j,r1⟩:=h1.reads I c;obtain⟨i,a⟩:=h2.reads I f;exact eq_dataH r1 a h3 h4 b ⟨.bl _,H,I,rfl,q⟩
theorem IV(b:X.A.units+64<cLine):OpR X (compareOp .NotEq) (rNeD X.K):=by
 intro g s σ H x y v u Q I c f h;obtain⟨d,e,h1,h2,h3,h4,q⟩:=h;obtain⟨j,r1⟩:=h1.reads I c;obtain⟨i,a⟩:=h2.reads I f;exact ne_dataH r1 a h3 h4 b ⟨.bl _,H,I,rfl,q⟩
theorem ax(d:X.A.units+64<cLine):OpR X (compareOp .Eq) (cEq X.K):=by
 intro b s σ H x y v u Q I a c h;unfold cEq at h
 split at h
 . refine Dj b s σ H _ _ v u Q I a c ⟨rfl,?_⟩
   simpa using h
 . refine Dj b s σ H _ _ v u Q I a c ⟨rfl,?_⟩
   simpa using h
 . refine Dj b s σ H _ _ v u Q I a c ⟨rfl,?_⟩
   simpa using h
 . exact IU d b s σ H _ _ v u Q I a c h
theorem aV(d:X.A.units+64<cLine):OpR X (compareOp .NotEq) (cNe X.K):=by
 intro b s σ H x y v u Q I a c h;unfold cNe at h
 split at h
 . refine Dk b s σ H _ _ v u Q I a c ⟨rfl,?_⟩
   simpa using h
 . refine Dk b s σ H _ _ v u Q I a c ⟨rfl,?_⟩
   simpa using h
 . refine Dk b s σ H _ _ v u Q I a c ⟨rfl,?_⟩
   simpa using h
 . exact IV d b s σ H _ _ v u Q I a c h
theorem IW(i:X.A.units+64<cLine):OpR X (compareOp .In) (rInD X.K false):=by
 intro f s σ H x y v u Q I e b h;obtain⟨d,g,h1,h2,h3,h4,h5,q⟩:=h;obtain⟨j,r1⟩:=h1.reads I e;rcases h2 with h2 | h2
 . obtain⟨c,a⟩:=h2.reads I b;exact SeqAt.in_list_reads a r1 h3 h4 #[4] ⟨.bl _,H,I,rfl,q⟩
 . obtain⟨c,a⟩:=h2.reads I b;exact SeqAt.in_tuple_reads a r1 h3 h4 #[4] ⟨.bl _,H,I,rfl,q⟩
theorem EJ(i:X.A.units+64<cLine):OpR X (compareOp .NotIn) (rInD X.K true):=by
 intro f s σ H x y v u Q I e b h;obtain⟨d,g,h1,h2,h3,h4,h5,q⟩:=h;obtain⟨j,r1⟩:=h1.reads I e;rcases h2 with h2 | h2
 . obtain⟨c,a⟩:=h2.reads I b;exact SeqAt.notIn_list_reads a r1 h3 h4 #[4] ⟨.bl _,H,I,rfl,q⟩
 . obtain⟨c,a⟩:=h2.reads I b;exact SeqAt.notIn_tuple_reads a r1 h3 h4 #[4] ⟨.bl _,H,I,rfl,q⟩
theorem je(d:X.A.units+64<cLine):OpR X (compareOp .In) (cIn X.K false):=by
 intro c s σ H x y v u Q I a b h;unfold cIn at h
 split at h
 . exact IW d c s σ H _ _ v u Q I a b h
 . rename_i p n
   split at h
   . rename_i m e
     obtain⟨k,l,q⟩:=ba h;cases (show u=Value.ref p from b);have g:DGet H p x (valV m k):=by rw[uP l];exact DGet.k (vK e)
     exact Kf (Pd (Qt (by decide:1<=64) _) d) I g a λo i=>⟨.bl _,H,i,rfl,q⟩
   . obtain⟨xs,e,f,j,q⟩:=ba h;exact np c s σ H _ _ v u Q I a b ⟨p,xs,rfl,o8 e,f,j,q⟩
 . exact Ev c s σ H _ _ v u Q I a b ⟨_,_,rfl,rfl,h⟩
 . exact h.elim
theorem cX(d:X.A.units+64<cLine):OpR X (compareOp .NotIn) (cIn X.K true):=by
 intro c s σ H x y v u Q I a b h;unfold cIn at h
 split at h
 . exact EJ d c s σ H _ _ v u Q I a b h
 . rename_i p n
   split at h
   . rename_i m e
     obtain⟨k,l,q⟩:=ba h;cases (show u=Value.ref p from b);have g:DGet H p x (valV m k):=by rw[uP l];exact DGet.k (vK e)
     exact Hv (Pd (Qt (by decide:1<=64) _) d) I g a λo i=>⟨.bl _,H,i,rfl,q⟩
   . obtain⟨xs,e,f,j,q⟩:=ba h;exact rJ c s σ H _ _ v u Q I a b ⟨p,xs,rfl,o8 e,f,j,q⟩
 . exact Ao c s σ H _ _ v u Q I a b ⟨_,_,rfl,rfl,h⟩
 . exact h.elim
end
section
variable{X:Cx}{a b c:Expr}{ta tb tc:TE}{pos:Pos}
theorem IX(w:X.A.units+64<cLine):IxR X cIx:=by
 intro a b m s σ H x y v u Q I j l h f
 cases x with
 | ref p=>
  unfold cIx at h;dsimp only at h
  split at h
  . rename_i F e
    obtain⟨k,B,h⟩:=ba h;obtain⟨z,d,q⟩:=ba h;cases (show v=Value.ref p from j);have g:DGet H p y (some z):=by rw[uP B,← d];exact DGet.k (vK e)
    exact RJ (B9 I g) QK.lookup (EE (Pd (Qt (by decide:1<=64) _) w) I g l λE D t n=>⟨z,H,t,n,q⟩) f
  . split at h
    . obtain⟨xs,e,h⟩:=ba h;obtain⟨z,d,q⟩:=ba h;rcases o8 (K:=X.K) e with r | r
      . exact CO a b m s σ H _ _ v u Q I j l ⟨p,xs,_,z,rfl,rfl,r,d,q⟩ f
      . exact IM a b m s σ H _ _ v u Q I j l ⟨p,xs,_,z,rfl,rfl,r,d,q⟩ f
    . exact h.elim
 | str o=>
  cases y with
  | int i=>
   obtain⟨C,h⟩:=(show o.length<=sizeLine/\bnd (atI o.cps.toList i) λc=>Q (.str ⟨#[c]⟩) H from h);obtain⟨z,d,q⟩:=ba h;exact IN a b m s σ H _ _ v u Q I j l ⟨_,_,z,rfl,rfl,C,d,q⟩ f
  | _=>exact False.elim h
 | _=>exact False.elim h
def kLen:List V->Hp->VK->Prop
 | [.ref p],H,Q=>(match unD (H p) with
  | some a=>Q (.int a.length) H
  | none=>bnd (unS (H p)) λxs=>Q (.int xs.length) H)
 | [.str z],H,Q=>z.length<=sizeLine/\Q (.int z.length) H
 | _,_,_=>False
theorem aG:CallR X (.builtin "len") kLen:=by
 intro a s σ H xs b Q I r h;unfold kLen at h
 split at h
 . split at h
   . rename_i c e
     exact EF a s σ H _ b Q I r ⟨_,c,rfl,vK e,h⟩
   . obtain⟨d,e,q⟩:=ba h;exact rK a s σ H _ b Q I r ⟨_,d,rfl,o8 e,q⟩
 . exact Ap a s σ H _ b Q I r ⟨_,rfl,h.1,h.2⟩
 . exact h.elim
def kAbs:List V->Hp->VK->Prop
 | [.int i],H,Q=>Q (.int (if i<0 then -i else i)) H
 | _,_,_=>False
def kMin:List V->Hp->VK->Prop
 | [.int i,.int j],H,Q=>Q (.int (if j<i then j else i)) H
 | _,_,_=>False
def kMax:List V->Hp->VK->Prop
 | [.int i,.int j],H,Q=>Q (.int (if j>i then j else i)) H
 | _,_,_=>False
def kList:List V->Hp->VK->Prop
 | [.ref p],H,Q=>bnd (unS (H p)) λys=>∀ l,H l=none->Q (.ref l) (upd H l (.lst ys))
 | _,_,_=>False
theorem gP:CallR X (.type "list") kList:=by
 intro a s σ H xs c Q I r h;unfold kList at h
 split at h
 . obtain⟨b,e,q⟩:=ba h;exact rL a s σ H _ c Q I r ⟨_,b,rfl,o8 e,q⟩
 . exact h.elim
def gd:List V->Hp->VK->Prop
 | [.ref p],H,Q=>bnd (unL (H p)) λys=>∃ ns:∅,ys=ns.map V.int/\ns.length<64/\∀(a:∅) l,H l=none->a.Perm ns->a.Pairwise (· <=·)->Q (.ref l) (upd H l (.lst (a.map V.int)))
 | _,_,_=>False
theorem jf:CallR X (.builtin "sorted") gd:=by
 intro E s σ H xs D Q I r h;unfold gd at h
 split at h
 . rename_i p
   obtain⟨F,e,x,rfl,A,q⟩:=ba h;obtain⟨u,rfl,v⟩:=d7 r;cases v;obtain⟨j,m,w,C⟩:=I.list (o7 e);have z:IntsAre j x:=vF m;have y:=m.length;rw[NM]at y;refine sorted_ints w.isList z #[4] λd g l t B=>?_;have k:∀ b o,s.heap.get? b=some o->(sortedAll s.heap j d).get? b=some o:=λb o e=>sortedAll_old e;obtain⟨n,i⟩:=sortedAll_at s.heap j d;have c:H (s.heap.objs.size+1)=none:=I.hok.fresh (Ql _)
   have f:(g.map V.int).length<=sizeLine:=by
    rw[NM,t.length_eq];exact OH (Nat.lt_trans A #[1])
   refine⟨.ref (s.heap.objs.size+1),_,I.laid (t':=s.toks) (a:=s.heap.objs.size+1) (o:=.lst (g.map V.int)) k (Ql _) ⟨f,d.toList,n,rM l,?_⟩,rfl,q g _ c t B⟩;rw[i]
 . exact h.elim
def mn(H:Hp):V->Option String
 | .non=>some "NoneType"
 | .bl _=>some "bool"
 | .int _=>some "int"
 | .str _=>some "str"
 | .ref p=>match H p with
  | ↥_=>some "list"
  | some (.frz _ (.lst _))=>some "list"
  | some (.tup _)=>some "tuple"
  | some (.dK _)=>some "dict"
  | _=>none
 | _=>none
def isTy(t n:String):Bool:=t==n||(t=="bool"&&n=="int")
def tQ(n:String):Bool:=["int","bool","str","list","tuple","dict"].contains n
theorem EK{K:Frag}{H:Hp}{x:V}{t:String}(h:mn H x=some t):TyOf K H x (.type t)/\["NoneType","int","bool","str","list","tuple","dict"].contains t=true:=by
 cases x with
 | non=>cases h;exact⟨.non,by decide⟩
 | bl b=>cases h;exact⟨.bl b,by decide⟩
 | int i=>cases h;exact⟨.int i,by decide⟩
 | str i=>cases h;exact⟨.str i,by decide⟩
 | byt _=>cases h
 | flt _=>cases h
 | ty _=>cases h
 | ref p=>
  unfold mn at h;dsimp only at h
  split at h
  . rename_i e;cases h;exact⟨.lst e,by decide⟩
  . rename_i e;cases h;exact⟨.frz e,by decide⟩
  . rename_i e;cases h;exact⟨.tup e,by decide⟩
  . rename_i e;cases h;exact⟨.dK e,by decide⟩
  . cases h
theorem IY(K:Frag):∀ t∈["NoneType","int","bool","str","list","tuple","dict"],∀ n∈["int","bool","str","list","tuple","dict"],PySem.W.kitOne K (.type t) (.type n)=some (isTy t n):=by
 intro t b n a;simp only[N4,OE,Pr]at b a;rcases b with rfl | rfl | rfl | rfl | rfl | rfl | rfl <;> rcases a with rfl | rfl | rfl | rfl | rfl | rfl <;> rfl
def kIsi:List V->Hp->VK->Prop
 | [x,.ty n],H,Q=>tQ n=true/\bnd (mn H x) λt=>Q (.bl (isTy t n)) H
 | _,_,_=>False
theorem b3:CallR X (.builtin "isinstance") kIsi:=by
 intro i s σ H xs j Q I r h;unfold kIsi at h
 split at h
 . obtain⟨c,h⟩:=h;obtain⟨t,d,q⟩:=ba h;obtain⟨u,w,rfl,e,a⟩:=G1 r;cases a;obtain⟨f,b⟩:=EK (K:=X.K) d;exact Ey I e f (IY X.K t (by simpa using b) _ (by simpa [tQ] using c)) λg=>⟨.bl _,H,I.tok g,rfl,q⟩
 . exact h.elim
def bv:V->List V->Hp->VK->Prop
 | .ref l,[y],H,Q=>bnd (unM (H l)) λxs=>xs.length<sizeLine/\Q .non (upd H l (.lst (xs++[y])))
 | _,_,_,_=>False
theorem bg:MtR X "list.append" bv:=by
 intro c s σ H x vs v d Q I b a h;unfold bv at h
 split at h
 . obtain⟨xs,e,h1,q⟩:=ba h;exact yL c s σ H _ _ v d Q I b a ⟨_,xs,_,rfl,rfl,ib e,h1,q⟩
 . exact h.elim
def ma:V->List V->Hp->VK->Prop
 | .ref l,[.ref b],H,Q=>bnd (unM (H l)) λxs=>bnd (unM (H b)) λa=>xs.length+a.length<=sizeLine/\Q .non (upd H l (.lst (xs++a)))
 | _,_,_,_=>False
theorem vL:MtR X "list.extend" ma:=by
 intro a s σ H x vs v f Q I c d h;unfold ma at h
 split at h
 . obtain⟨xs,e,h⟩:=ba h;obtain⟨b,e2,h1,q⟩:=ba h;exact EC a s σ H _ _ v f Q I c d ⟨_,_,xs,b,rfl,rfl,ib e,ib e2,h1,q⟩
 . exact h.elim
def vM:V->List V->Hp->VK->Prop
 | .ref l,[],H,Q=>bnd (unM (H l)) λ_=>Q .non (upd H l (.lst []))
 | _,_,_,_=>False
theorem EL:MtR X "list.clear" vM:=by
 intro c s σ H x vs v d Q I b a h;unfold vM at h
 split at h
 . obtain⟨xs,e,q⟩:=ba h;exact Gi c s σ H _ _ v d Q I b a ⟨_,xs,rfl,rfl,ib e,q⟩
 . exact h.elim
def a7{K:Frag}{H:Hp}{p:Addr}{xs:List V}(h:H p=↥xs):tyV K "list" (.ref p) H:=.inl ⟨rfl,_,NW h⟩
def cSl:V->Option Int->Option Int->Hp->VK->Prop
 | .ref p,lo,hi,H,Q=>bnd (unL (H p)) λxs=>∀ l,H l=none->Q (.ref l) (upd H l (.lst (cutV xs lo hi)))
 | _,_,_,_,_=>False
theorem Kg:SlR X cSl:=by
 intro b s σ H x v a k f g d Q I l j c i h;unfold cSl at h
 split at h
 . obtain⟨xs,e,q⟩:=ba h;exact Hr b s σ H _ v a k f g d Q I l j c i ⟨_,xs,rfl,o7 e,q⟩
 . exact h.elim
end
structure Cal(P:Program)(w:World)(K:Frag)(mg:Str->Option Value)(base:Heap)(k:Nat)(x:Str)(ps:List Str)(sp:Sp):Prop where
 ex:∃(f:Addr) (fd:FuncData),FnOk P w K mg base CX0 k f fd ps sp/\mg x=↑f/\keepIn K (.ref f)=true/\Binds K fd ps []
theorem IZ {X:Cx} {k n:Nat} {x:Str} {h:List Str} {sp:Sp} {p pos:Pos} {e:Expr} {a:List Expr} {t:TA} (C:Cal X.prog X.w X.K X.mg X.base k x h sp) (o:Room n X.A) (j:k<=n) (l:Gl X x) (g:PA X (e::a) t)
  (d:(x==("__debug__":Str))=false:=by decide) (he:starEach (e::a) X.env=(false,eval e X.env)::starEach a X.env:=by rfl) (c:(backTo pos (starEach a X.env)).any (·.1)=false:=by rfl):
  PE X (.Call (.Name x p) (e::a) [] pos) (tCall sp [] E0 t):=by
 obtain⟨f,q,F,i,b,m⟩:=C.ex;exact Hn F (o.mono j) l i b m .nil vG g d he c
theorem aR:bootBuiltins "len"=some (.builtin "len"):=by decide+kernel
theorem I0:bootBuiltins "max"=some (.builtin "max"):=by decide+kernel
theorem kP:bootBuiltins "sorted"=some (.builtin "sorted"):=by decide+kernel
theorem Ay:bootBuiltins "any"=some (.builtin "any"):=by decide+kernel
theorem a8:bootBuiltins "isinstance"=some (.builtin "isinstance"):=by decide+kernel
theorem eI:bootBuiltins "list"=some (.type "list"):=by decide+kernel
theorem Az:bootBuiltins "int"=some (.type "int"):=by decide+kernel
theorem xI:bootBuiltins "bool"=some (.type "bool"):=by decide+kernel
theorem EM:bootBuiltins "str"=some (.type "str"):=by decide+kernel
theorem mq:bootBuiltins "tuple"=some (.type "tuple"):=by decide+kernel
theorem Ca:bootBuiltins "reversed"=some (.type "reversed"):=by decide+kernel
def compN(scope:Scope):List Str:=(scope.names.filter λp=>p.2==.local||p.2==.cell||p.2==.free).map (·.1)
def vN(N:List Str)(scope:Scope):List (Option Nat):=(compN scope).map λx=>if scope.names.lookup x==some .free then N.findIdx? (· ==x) else none
def isCF:Option NameKind->Bool
 | some .cell=>true
 | some .free=>true
 | _=>false
def Ja{X:Cx}{scope:Scope}(h1:scope.kind=.function)(h2:(scope.names.map (·.1)).Nodup)(h3:(scope.names.all λp=>p.2 != .free||isCF (X.env.kindOf p.1))=true):BlkOk X (compN scope) (vN X.N scope) scope where
 kind:=h1
 nd:=h2.sublist (List.Sublist.map _ (List.filter_sublist ..))
 len:=by unfold vN;rw[NM]
 names:=h2
 free:=λx a=>by
  have:=Od.mp h3 (x,.free) a;simp only[bne_self_eq_false,O3]at this;unfold isCF at this
  split at this
  . rename_i e;exact .inl e
  . rename_i e;exact .inr e
  . cases this
 at_:=λj i x e1 e2=>by
  unfold vN at e2;rw[NR,e1]at e2;simp only[Rj,QL]at e2
  split at e2
  . rename_i c
    obtain⟨b,d,_⟩:=List.findIdx?_eq_some_iff_getElem.mp e2
    have a:X.N[i]? =some x:=by
     rw[NN b];have:X.N[i]=x:=by simpa using d
     rw[this]
    refine⟨a,OY (by simpa using c)⟩
  . cases e2
section
variable{t u:TS}{D:Ends}{σ:St}{H:Hp}{Q:VK}{ta tb:TE}{R:Bool->Hp->Prop}{c d:TT}
def aB:tSeq t u D σ H=t {D with nx:=u D} σ H:=rfl
def b4:tNext D σ H=D.nx σ H:=rfl
def bw{g:TG}:tAsg ta g D σ H=ta σ H λx a=>g x σ a D.nx:=rfl
def aL{i:Nat}{v:V}{k:St->Hp->Prop}:gName i v σ H k=k (σ.set i (some v)) H:=rfl
def JX{i:Nat}:tVar i σ H Q=∃ v,σ[i]? =some (some v)/\Q v H:=propext ⟨GZ,λ⟨_,e,h⟩=>kJ e h⟩
def ce{v:V}{σ:St}:tVar 0 (some v::σ) H Q=Q v H:=rfl
def cg{i:Nat}{a:Option V}{σ:St}:tVar (i+1) (a::σ) H Q=tVar i σ H Q:=rfl
def w_c{v:V}:tC v σ H Q=Q v H:=rfl
def e7{r:R2}:tOp r ta tb σ H Q=ta σ H λx a=>tb σ a λy b=>r x y b Q:=rfl
def b7:tRet ta D σ H=ta σ H D.rt:=rfl
def cj:tRetN D σ H=D.rt .non H:=rfl
def b5:tDrop ta D σ H=ta σ H λ_ a=>D.nx σ a:=rfl
def az:tIfS c t u D σ H=c σ H λb a=>if b=true then t D σ a else u D σ a:=rfl
def ck:tTest ta σ H R=ta σ H λx a=>∃ k,x=.bl k/\R k a:=rfl
def w_b:tB ta σ H R=ta σ H λx a=>∃ k,x=.bl k/\R k a:=rfl
def w_not:tNot c σ H R=c σ H λk a=>R (!k) a:=rfl
def dr:tAnd c d σ H R=c σ H λk a=>if k=true then d σ a R else R false a:=rfl
def fD:tOr c d σ H R=c σ H λk a=>if k=true then R true a else d σ a R:=rfl
def cm:tNotV ta σ H Q=ta σ H λx a=>∃ c,x=.bl c/\Q (.bl (!c)) a:=rfl
def cq:tAndV ta tb σ H Q=ta σ H λx a=>∃ c,x=.bl c/\if c=true then tb σ a Q else Q (.bl false) a:=rfl
def dt:tOrV ta tb σ H Q=ta σ H λx a=>∃ c,x=.bl c/\if c=true then Q (.bl true) a else tb σ a Q:=rfl
def c7{k:List V->Hp->Prop}:tNil σ H k=k [] H:=rfl
def bG{a:TA}{k:List V->Hp->Prop}:tCons ta a σ H k=ta σ H λx b=>a σ b λxs c=>k (x::xs) c:=rfl
def fu{r:List V->Hp->VK->Prop}{a:TA}:tCB r a σ H Q=a σ H λvs b=>r vs b Q:=rfl
def cu{sp:Sp}{a:List V}{E:XK}{b:TA}:tCall sp a E b σ H Q=b σ H λvs c=>sp (vs++a) c Q E:=rfl
def dv{b:TA}:tTup b σ H Q=b σ H λxs a=>xs.length<=sizeLine/\∀ p,a p=none->Q (.ref p) (upd a p (.tup xs)):=rfl
def c9{b:TA}:tLst b σ H Q=b σ H λxs a=>xs.length<=sizeLine/\∀ p,a p=none->Q (.ref p) (upd a p (.lst xs)):=rfl
def fv{K:Frag}{T:String}{r:V->List V->Hp->VK->Prop}{b:TA}:tBM K T r ta b σ H Q=ta σ H λx a=>tyV K T x a/\b σ a λxs c=>r x xs c Q:=rfl
def dw{K:Frag}{T:String}{r:V->List V->Hp->VK->Prop}:Aq K T r ta σ H Q=ta σ H λx a=>tyV K T x a/\r x [] a Q:=rfl
def bU:tTrue σ H R=R true H:=rfl
def cw:IT σ H Q=∀ p,H p=none->Q (.ref p) (upd H p (.dK [])):=rfl
def cy{d b e:TE}:sDPut d b e D σ H=e σ H λv h=>d σ h λx f=>b σ f λy g=>∃ a c,x=.ref a/\DPut g a y v c/\D.nx σ c:=rfl
def dz{i j:Int}:cAdd (.int i) (.int j) H Q=Q (.int (i+j)) H:=rfl
def dA{i j:Int}:cSub (.int i) (.int j) H Q=Q (.int (i-j)) H:=rfl
def dB{i j:Int}:cMul (.int i) (.int j) H Q=(CMul i j/\Q (.int (i*j)) H):=rfl
def dC{i j:Int}:cDiv (.int i) (.int j) H Q=(CDiv i j/\Q (.int (i/j)) H):=rfl
def dD{i j:Int}:cMod (.int i) (.int j) H Q=(0<j/\Q (.int (i%j)) H):=rfl
def dE{g:Int->Int->Bool}{i j:Int}:cCmp g (.int i) (.int j) H Q=Q (.bl (g i j)) H:=rfl
def dF{K:Frag}{i j:Int}:cEq K (.int i) (.int j) H Q=Q (.bl (decide (i=j))) H:=rfl
def dG{K:Frag}{i j:Int}:cNe K (.int i) (.int j) H Q=Q (.bl (!decide (i=j))) H:=rfl
def dH{K:Frag}{i j:Bool}:cEq K (.bl i) (.bl j) H Q=Q (.bl (decide (i=j))) H:=rfl
def dI{K:Frag}{i j:Bool}:cNe K (.bl i) (.bl j) H Q=Q (.bl (!decide (i=j))) H:=rfl
theorem iw{p:Addr}{i:Int}{xs:List V}(h:H p=some (.tup xs)):cIx (.ref p) (.int i) H Q=bnd (atI xs i) λv=>Q v H:=by
 unfold cIx;dsimp only;rw[h];rfl
theorem G4{p:Addr}{i:Int}{xs:List V}(h:H p=↥xs):cIx (.ref p) (.int i) H Q=bnd (atI xs i) λv=>Q v H:=by
 unfold cIx;dsimp only;rw[h];rfl
def dJ{i:Int}:kAbs [.int i] H Q=Q (.int (if i<0 then -i else i)) H:=rfl
def dL{i j:Int}:kMin [.int i,.int j] H Q=Q (.int (if j<i then j else i)) H:=rfl
theorem bh{p:Addr}{xs:List V}(h:H p=↥xs):kLen [.ref p] H Q=Q (.int xs.length) H:=by
 unfold kLen;dsimp only;rw[h];rfl
theorem EN{p:Addr}{xs:List V}(h:H p=some (.tup xs)):kLen [.ref p] H Q=Q (.int xs.length) H:=by
 unfold kLen;dsimp only;rw[h];rfl
theorem db{p:Addr}{xs:List V}{y:V}(h:H p=↥xs):bv (.ref p) [y] H Q=(xs.length<sizeLine/\Q .non (upd H p (.lst (xs++[y])))):=by
 unfold bv;dsimp only;rw[h];rfl
theorem nq:∀ ns:∅,(ns.map V.int).all flatV=true
 | []=>rfl
 | n::r=>by rw[OD,P6,nq r];rfl
theorem qg(i:Int):∀ ns:∅,inV (.int i) (ns.map V.int)=decide (i∈ns)
 | []=>by simp[inV]
 | n::r=>by
  have a:=qg i r;unfold inV at a ⊢;rw[OD,QQ,a];show((n==i)||decide (i∈r))=decide (i∈n::r);rw[Om,Rn,PQ,NU,NU,N4];exact⟨λh=>h.elim (λe=>.inl e.symm) .inr,λh=>h.elim (λe=>.inl e.symm) .inr⟩
theorem uQ{K:Frag}{p:Addr}{i:Int}{ns:∅}(h:H p=↥(ns.map V.int)):cIn K false (.int i) (.ref p) H Q=Q (.bl (decide (i∈ns))) H:=by
 unfold cIn;dsimp only;rw[h];dsimp only[unD,unS,bnd];rw[qg,nq];simp[flatV]
theorem lS{K:Frag}{p:Addr}{i:Int}{ns:∅}(h:H p=↥(ns.map V.int)):cIn K true (.int i) (.ref p) H Q=Q (.bl (!decide (i∈ns))) H:=by
 unfold cIn;dsimp only;rw[h];dsimp only[unD,unS,bnd];rw[qg,nq];simp[flatV]
end
def LoopR(J:It)(g:TG)(d:TS)(D:Ends)(σ:St)(h:Hp):Prop:=∃ W:Nat->Nat->St->Hp->Prop,(∃ m,W 0 m σ h)/\∀ i m σ H,W i m σ H->
 (J.stop i H/\D.nx σ H)\/(J.go i H/\∃ N:St->Hp->Prop,(∀ c a,N c a->∃ b,b<m/\W (i+1) b c a)/\∀ x a,J.yld i H x a->g x σ a λe f=>d {D with nx:=N,ct:=N,bk:=D.nx} e f)
def CompR(J:It)(g:TG)(s:TT)(te:TE)(h:Addr->Hp->Prop)(t:St)(o:Hp):Prop:=∀ l,o l=none->
 ∃ W:Nat->Nat->St->Hp->Prop,(∃ m,W 0 m t (upd o l (.lst [])))/\∀ i m q c,W i m q c->
  (J.stop i c/\h l c)\/(J.go i c/\∃ N:St->Hp->Prop,(∀ a d,N a d->∃ p,p<m/\W (i+1) p a d)/\∀ x n,J.yld i c x n->g x q n λe r=>s e r λb j=>
   if b=true then te e j λy k=>∃ f,k l=↥f/\f.length<sizeLine/\N e (upd k l (.lst (f++[y]))) else N e j)
section
variable{K:Frag}{g:TG}{tb:TS}{D:Ends}{σ:St}{H:Hp}{tl:TE}{ta:TA}{ix:List (Option Nat)}{tt:TT}{te:TE}{k:Nat}{Q:VK}
def cA:tFor (iList K tl) g tb D σ H=tl σ H λx b=>∃ a,x=.ref a/\(∃ xs,SqL K b a xs)/\LoopR (Itl K a) g tb D σ b:=rfl
def bB:tFor (jc ta) g tb D σ H=ta σ H λvs a=>∃ j:Int,vs=[.int j]/\ -(2^62)<=j/\j<2^62/\LoopR (Itr 0 j.toNat) g tb D σ a:=rfl
def bC:tFor (tN ta) g tb D σ H=ta σ H λvs a=>∃ i j:Int,vs=[.int i,.int j]/\(-(2^62)<=i/\i<2^62/\ -(2^62)<=j/\j<2^62)/\LoopR (Itr i (j-i).toNat) g tb D σ a:=rfl
def bq:tComp ix (iList K tl) g tt te σ H Q=tl σ H λx b=>∃ a,x=.ref a/\(∃ xs,SqL K b a xs)/\CompR (Itl K a) g tt te (λl c=>Q (.ref l) c) (subσ ix σ) b:=rfl
def bi:tComp ix (jc ta) g tt te σ H Q=ta σ H λvs a=>∃ j:Int,vs=[.int j]/\ -(2^62)<=j/\j<2^62/\CompR (Itr 0 j.toNat) g tt te (λl b=>Q (.ref l) b) (subσ ix σ) a:=rfl
def bj:sComp k ix (iList K tl) g tt te D σ H=tl σ H λx b=>∃ a,x=.ref a/\(∃ xs,SqL K b a xs)/\CompR (Itl K a) g tt te (λl c=>D.nx (σ.set k ↑l) c) (subσ ix σ) b:=rfl
def bb:sComp k ix (jc ta) g tt te D σ H=ta σ H λvs a=>∃ j:Int,vs=[.int j]/\ -(2^62)<=j/\j<2^62/\CompR (Itr 0 j.toNat) g tt te (λl b=>D.nx (σ.set k ↑l) b) (subσ ix σ) a:=rfl
theorem vO {q:Int} {n:Nat} {h:Addr->Hp->Prop} {r:St} {f:Hp} (c:Addr->Nat->St->Hp->Prop) (h0:∀ l,f l=none->c l 0 r (upd f l (.lst [])))
  (u:∀ l i σ H,f l=none->i<n->c l i σ H->g (.int (q+i)) σ H λj s=>tt j s λb k=>if b=true then te j k λy o=>∃ ys,o l=↥ys/\ys.length<sizeLine/\c l (i+1) j (upd o l (.lst (ys++[y]))) else c l (i+1) j k)
  (v:∀ l σ H,f l=none->c l n σ H->h l H):CompR (Itr q n) g tt te h r f:=by
 intro l a;refine⟨λi m σ H=>m=n-i/\i<=n/\c l i σ H,⟨n,by simp,OP _,h0 l a⟩,?_⟩;rintro i m σ H ⟨rfl,z,p⟩;by_cases d:i<n
 . refine .inr ⟨d,c l (i+1),λA w t=>⟨n - (i+1),by lia,rfl,d,t⟩,λx w y=>?_⟩;obtain⟨e,y⟩:=y;subst e y;exact u l i σ _ a d p
 . have e:i=n:=by lia
   subst e;exact .inl ⟨NZ _,v l σ H a p⟩
theorem nr {a:Addr} {xs:List V} {j:Addr->Hp->Prop} {r:St} {f:Hp} (d:Addr->Nat->St->Hp->Prop) (h0:∀ l,f l=none->d l 0 r (upd f l (.lst []))) (v:∀ l i σ H,f l=none->i<=xs.length->d l i σ H->SqL K H a xs)
  (w:∀ l i x σ H,f l=none->xs[i]? =some x->d l i σ H->g x σ H λk s=>tt k s λb n=>if b=true then te k n λy o=>∃ ys,o l=↥ys/\ys.length<sizeLine/\d l (i+1) k (upd o l (.lst (ys++[y]))) else d l (i+1) k n)
  (z:∀ l σ H,f l=none->d l xs.length σ H->j l H):CompR (Itl K a) g tt te j r f:=by
 intro l c;refine⟨λi m σ H=>m=xs.length-i/\i<=xs.length/\d l i σ H,⟨xs.length,by simp,OP _,h0 l c⟩,?_⟩;rintro i m σ H ⟨rfl,t,p⟩;have q:=v l i σ H c t p;by_cases h:i<xs.length
 . refine .inr ⟨⟨xs,xs[i],q,by simp[h]⟩,d l (i+1),λB A u=>⟨xs.length - (i+1),by lia,rfl,h,u⟩,λx A y=>?_⟩;obtain⟨e,y⟩:=y;subst e;exact w l i x σ _ c (y xs q) p
 . have e:i=xs.length:=by lia
   subst e;exact .inl ⟨⟨xs,q,NZ _⟩,z l σ H c p⟩
theorem vP{p q:Addr}{xs ys:∅}(b:H p=↥(xs.map V.int))(a:H q=↥(ys.map V.int))(h:Q (.bl (decide (xs=ys))) H):cEq K (.ref p) (.ref q) H Q:=by
 show rEqD K (.ref p) (.ref q) H Q;refine⟨.list (xs.map PyData.int),.list (ys.map PyData.int),.lst (NW b) (.ints xs),.lst (NW a) (.ints ys),kK xs,kK ys,?_⟩;rw[PyData.eqv,uO];exact h
theorem tR{p q:Addr}{xs ys:∅}(b:H p=↥(xs.map V.int))(a:H q=↥(ys.map V.int))(h:Q (.bl (!decide (xs=ys))) H):cNe K (.ref p) (.ref q) H Q:=by
 show rNeD K (.ref p) (.ref q) H Q;refine⟨.list (xs.map PyData.int),.list (ys.map PyData.int),.lst (NW b) (.ints xs),.lst (NW a) (.ints ys),kK xs,kK ys,?_⟩;rw[PyData.eqv,uO];exact h
theorem Gk{p:Addr}{ns:∅}(c:H p=↥(ns.map V.int))(b:ns.length<64)(h:∀(a:∅) l,H l=none->a.Perm ns->a.Pairwise (· <=·)->Q (.ref l) (upd H l (.lst (a.map V.int)))):gd [.ref p] H Q:=by
 unfold gd;dsimp only;rw[c];exact⟨ns,rfl,b,h⟩
theorem rN{p:Addr}{xs:List V}(a:H p=↥xs)(h:∀ l,H l=none->Q (.ref l) (upd H l (.lst xs))):kList [.ref p] H Q:=by
 unfold kList;dsimp only;rw[a];exact h
end
theorem aw{X:Cx}{N:List Str}{ix:List (Option Nat)}{scope:Scope}(h1:scope.kind=.function)(h2:(scope.names.map (·.1)).Nodup)(h3:(scope.names.all λp=>p.2 != .free||isCF (X.env.kindOf p.1))=true)(h4:N=compN scope)(h5:ix=vN X.N scope):BlkOk X N ix scope:=by
 subst h4 h5;exact Ja h1 h2 h3
def kLenS(K:Frag):List V->Hp->VK->Prop:=λxs H Q=>∃ p a,xs=[.ref p]/\(SqL K H p a\/SqT K H p a)/\Q (.int a.length) H
structure Bt(mg:Str->Option Value):Prop where
 len_:mg "len"=none
 abs_:mg "abs"=none
 min_:mg "min"=none
 max_:mg "max"=none
 sorted_:mg "sorted"=none
 any_:mg "any"=none
 isinstance_:mg "isinstance"=none
 list_:mg "list"=none
 int_:mg "int"=none
 bool_:mg "bool"=none
 str_:mg "str"=none
 tuple_:mg "tuple"=none
 reversed_:mg "reversed"=none
 set_:mg "set"=none
 range_:mg "range"=none
 zip_:mg "zip"=none
theorem Vals.get':∀{xs:List V} {us:List Value} {i:Nat} {u:Value},Vals xs us->us[i]? =some u->∃ x,xs[i]? =some x/\RelV x u
 | _,_,_,_,.nil,h=>by simp at h
 | _,_,0,_,.cons r _,h=>by simp at h;subst h;exact⟨_,rfl,r⟩
 | _,_,i+1,_,.cons _ t,h=>by
  obtain⟨x,a,r⟩:=Vals.get' (i:=i) t (by simpa using h);exact⟨x,by simpa using a,r⟩
section
variable{X:Cx}{NB:List (Addr × Obj)}{σ:St}{H:Hp}{s s':Shared}
def Inv.kept'(I:Inv X NB σ H s)(k:∀ b u,s.heap.get? b=some u->s'.heap.get? b=some u)(c:s'.os=s.os)(a:AllBare s'.gens):Inv X NB σ H s':=
 I.call' (ch:=[]) c (Un.kept k) (I.hok.kept k) a λb z=>absurd z (by simp)
theorem Inv.walked{l:Addr}{o:Obj}(I:Inv X NB σ H s)(c:Moved [s.heap.objs.size] (λa b=>b=a) {s with heap:=s.heap.push o} s'):Inv X NB σ H s':=by
 refine I.kept' (λb u e=>c.heap b u (λz=>?_) (N0 _ e)) c.os (by rw[show s'.gens=s.gens from c.gens];exact I.bare);have:b=s.heap.objs.size:=by simpa using z
 exact absurd (Oh e) (by rw[this];exact O0 _)
def kAny:List V->Hp->VK->Prop
 | [.ref p],H,Q=>bnd (unL (H p)) λys=>∃ bs:List Bool,ys=bs.map V.bl/\Q (.bl (bs.any id)) H
 | _,_,_=>False
theorem EO(bs:List Bool):(List.range bs.length).any (λi=>bs.getD i false)=bs.any id:=by
 rw[Om,PY,PY];constructor
 . rintro⟨i,c,h⟩;have a:i<bs.length:=Oe.mp c;exact⟨bs[i],On a,by simpa [List.getD,a] using h⟩
 . rintro⟨b,f,h⟩;obtain⟨i,c,e⟩:=Pe.mp f;refine⟨i,Oe.mpr c,?_⟩;have d:b=true:=h;rw[List.getD,NN c,e];exact d
theorem rO(C:X.calm=true):CallR X (.builtin "any") kAny:=by
 intro NB s σ H xs E Q I r h;unfold kAny at h
 split at h
 . rename_i p
   obtain⟨J,e,c,rfl,q⟩:=ba h;obtain⟨u,rfl,k⟩:=d7 r;cases k;obtain⟨a,g,d,D⟩:=I.list (o7 e);have j:=g.length;rw[NM]at j
   have f:p<s.heap.objs.size:=by
    obtain⟨o,h1,_⟩:=d.isList;exact Oh h1
   refine call_any_walkS (PP d.isList ?_);refine⟨s.heap.objs.size,_,_,_,a.toArray.size,_,_,λi=>c.getD i false,rfl,(RG (A:=X.A.in1) (I.ok.hd C) s.heap.objs.size p (OF f) a.toArray).toS,⟨⟨_,Oq _ rfl,rfl,rfl⟩,d.isList.push _⟩,?_,λs' n=>?_⟩
   . intro i v s1 F G m t;have y:a[i]? =some v:=by simpa using m
     obtain⟨x,w,B⟩:=g.get' y;obtain⟨b,hb,rfl⟩:∃ b,c[i]? =some b/\V.bl b=x:=by simpa using w
     cases B;refine Po ?_;have z:c.getD i false=b:=by simp[List.getD,hb]
     rw[← z];exact t
   . refine⟨.bl _,H,I.walked (l:=p) n,?_,q⟩;have e2:a.toArray.size=c.length:=by rw[N8];exact j.symm
     rw[e2,EO];rfl
 . exact h.elim
def jg(K:Frag):V->List V->Hp->VK->Prop
 | .ref p,[y],H,Q=>∃(a:List PyData) (d:PyData) (j:Nat),DV K H (.ref p) (.list a)/\DV K H y d/\PyData.canLayAll0 a=true/\PyData.canLay0 d=true/\min (PyData.depthAll a) d.depth<=62/\
   j<=1000/\(∃ e,a[j]? =some e/\PyData.eqv e d=true)/\(∀ m e,m<j->a[m]? =some e->PyData.eqv e d=false)/\Q (.int j) H
 | _,_,_,_=>False
theorem iZ(P:X.A.units+64<cLine):MtR X "list.index" (jg X.K):=by
 intro NB s σ H x vs v T Q I r E h;unfold jg at h
 split at h
 . rename_i p y
   obtain⟨z,d,j,M,L,t,O,w,S,⟨e,B,J⟩,k,q⟩:=h;cases r;obtain⟨u,rfl,D⟩:=d7 E;obtain⟨W,N⟩:=M.reads I rfl;obtain⟨U,r⟩:=L.reads I D
   cases N with
   | @list _ o g n _ _ h1 h2 h3 h4=>
    obtain⟨R,C,G,i⟩:=o;dsimp only at h2 h3;subst h2 h3;have a:=SeqAt.readsAll_map z _ _ t h4
    have b:∀(m:Nat) (f:m<g.size),z[m]? =some (SeqAt.readOf s.heap g[m]):=λm f=>by
     rw[← a,NR,Rt,Array.getElem?_eq_getElem f];rfl
    have c:j<g.size:=by
     have:=(NO.mp B).1;rw[← a,NM,P3]at this;exact this
    refine PD F.slot_list_index ⟨_,h1,rfl⟩ F.entry_list_index (F.args_list_index_2 _ _) (SeqAt.list_indexAt p g n C i u (λy=>PyData.eqv (SeqAt.readOf s.heap y) d) j c #[4] ?_ ?_) ⟨h1,SeqAt.items_eqAt h4 r t O ?_,⟨.int j,H,I.tok _,⟨_,rfl⟩,q⟩⟩
    . have:=b j c;rw[B]at this;cases this;exact J
    . intro m f l;exact k m _ l (b m f)
    . lia
 . exact h.elim
def Itz(K:Frag)(a b:Addr):It:=
 ⟨λi H=>∃ xs c x y,SqL K H a xs/\SqL K H b c/\xs[i]? =some x/\c[i]? =some y,
  λi H v d=>∃ T x y,v=.ref T/\H T=none/\d=upd H T (.tup [x,y])/\(∀ xs,SqL K H a xs->xs[i]? =some x)/\∀ c,SqL K H b c->c[i]? =some y,
  λi H=>∃ xs c,SqL K H a xs/\SqL K H b c/\(xs.length<=i\/c.length<=i)⟩
theorem aW{h:Heap}{a b:Addr}{o u:Obj}{c d:String}(i:h.get? a=some o)(f:h.get? b=some u)(j:o.cls=.type c)(e:u.cls=.type d)(g:c≠d):a≠b:=by
 rintro rfl;rw[i]at f;cases f;rw[j]at e;cases e;exact g rfl
def ZSt(a b z c e d f:Addr)(i:Nat)(h:Heap):Prop:=IsZip h z c e .none/\IsPair h c (.ref d) (.ref f)/\(∃ u v,IsPair h e u v)/\h.IsListIter d a i/\h.IsListIter f b i
def Gm{P:Program}{w:World}{K:Frag}{es:List Expr}{x1:Nat}{pos:Pos}(a b z TI B A t:Addr)(dT:TI≠B)(d1:A≠t):
  Turn P w K (.Tuple es x1 pos) (Itz K a b) [z,TI,B,A,t] z (ZSt a b z TI B A t) where
 mem:=by simp
 obj:=λi h R c j=>by
  obtain⟨m,l,⟨u,v,f⟩,⟨o1,e1,r,G⟩,⟨o2,e2,q,W⟩⟩:=R;simp only[N4,OE,Pr]at j;rcases j with rfl | rfl | rfl | rfl | rfl
  . exact⟨_,m,λv z=>by have z':Data.fields _=Data.cell v:=z;cases z'⟩
  . exact⟨_,l,λv z=>by have z':Data.seq _ _=Data.cell v:=z;cases z'⟩
  . exact⟨_,f,λv z=>by have z':Data.seq _ _=Data.cell v:=z;cases z'⟩
  . exact⟨_,e1,λv z=>by rw[G]at z;cases z⟩
  . exact⟨_,e2,λv z=>by rw[W]at z;cases z⟩
 keep:=λi h h' R k=>by
  obtain⟨m,l,⟨u,v,f⟩,h1,h2⟩:=R;exact⟨k z (by simp) _ m,k TI (by simp) _ l,⟨u,v,k B (by simp) _ f⟩,h1.at λo e=>k A (by simp) o e,h2.at λo e=>k t (by simp) o e⟩
 item:=by
  intro X hP hw hK j i NB s σ H E I hf R hg;subst hP hw hK;obtain⟨xs,ys,x,y,N,Q,p,hy⟩:=hg;obtain⟨T,Z,p1,ak⟩:=I.list N;obtain⟨S,Y,p2,U⟩:=I.list Q;obtain⟨u1,ad,af⟩:=Z.get p;obtain⟨u2,ac,ai⟩:=Y.get hy;obtain⟨m,l,⟨u,v,f⟩,⟨o1,e1,r,G⟩,⟨o2,e2,q,W⟩⟩:=id R;obtain⟨oa,O,C,_⟩:=p1.isList;obtain⟨ob,F,M,_⟩:=p2.isList
  have D:ZipApart z TI B A t a b:=⟨aW l m rfl rfl #[1],aW f m rfl rfl #[1],aW e1 m r rfl #[1],aW e2 m q rfl #[1],dT,aW l e1 rfl r #[1],aW l e2 rfl q #[1],aW f e1 rfl r #[1],aW f e2 rfl q #[1],d1,
   aW O m C rfl #[1],aW O f C rfl #[1],aW O e1 C r #[1],aW O e2 C q #[1],aW F m M rfl #[1],aW F f M rfl #[1],aW F e1 M r #[1],aW F e2 M q #[1]⟩
  refine wpAny_pyNext_zip_item D m l f ⟨o1,e1,r,G⟩ ⟨o2,e2,q,W⟩ p1.isList p2.isList (x:=u1) (y:=u2) (by simpa using ad) (by simpa using ac) λh' a1 a2 a3 a4 a5 a6 hk=>?_;refine⟨_,rfl,wpAny_letOwnedTupleGo_zip a1 λh2 U sb=>?_⟩;have hT:H s.heap.objs.size=none:=I.fresh;have lt:∀{c o},s.heap.get? c=some o->c≠s.heap.objs.size:=λe=>OF (Oh e)
  have J:∀ c o,c∉[z,B,A,t]->s.heap.get? c=some o->h2.get? c=some o:=λc o j e=>by
   simp only[N4,OE,Pr,not_or]at j;exact sb.extBut _ _ j.1 (hk c o j.1 j.2.1 j.2.2.1 j.2.2.2 e)
  have al:s.heap.objs.size≠z:=(lt m).symm;have gT:h2.get? s.heap.objs.size=some {cls:=.type "tuple",data:=.seq #[u1,u2]}:=sb.extBut _ _ al a5;have nH:∀ c∈[z,B,A,t],H c=none:=λc j=>(hf c (by simp only[N4,OE,Pr]at j ⊢;rcases j with h | h | h | h <;> simp[h])).1;refine⟨.ref s.heap.objs.size,upd H s.heap.objs.size (.tup [x,y]),I.call' (s':={s with heap:=h2}) (ch:=[z,B,A,t]) rfl ⟨λc o e n _ p=>J c o p e,λc o e n _ p=>⟨o.slots,J c o p e⟩,λc o e n _=>by rw[ah (lt e)];exact n,λc o e p=>⟨o,J c o p e⟩,λc xs e=>by rw[ah (av e hT)];exact e,λc o u e=>by rw[ah (av e hT)];exact e,λc ps e=>⟨#[],by rw[ah (av e hT),e];simp⟩⟩ ?_ I.bare ?_,rfl,⟨_,x,y,rfl,hT,rfl,λzs aa=>by rw[I.list_inj aa N];exact p,λzs aa=>by rw[I.list_inj aa Q];exact hy⟩,?_,?_⟩
  . intro c ob e;by_cases hb:c=s.heap.objs.size
    . subst hb;rw[ag]at e;cases e;exact⟨by show(2:Nat)<=sizeLine;exact OH (aC #[1]),[u1,u2],.cons af (.cons ai .nil),⟨_,gT,rfl,_,rfl⟩⟩
    . rw[ah hb]at e;refine(I.hok c ob e).stay (λd w' L g=>J d w' ?_ g) (λd g=>by rw[ah (av g hT)];exact g) λd xs g=>by rw[ah (av g hT)];exact g
      intro hm;rcases L with rfl | L
      . rw[nH _ hm]at e;cases e
      . rw[nH _ hm]at L;cases L
  . intro c j;obtain⟨f0,G,W,f3,f4,f5⟩:=hf c (by simp only[N4,OE,Pr]at j ⊢;rcases j with h | h | h | h <;> simp[h]);exact⟨f3,G,f4,f5⟩
  . exact⟨U,sb.extBut _ _ D.TIz (hk _ _ D.TIz D.TITO D.TIi1 D.TIi2 l),⟨_,_,sb.extBut _ _ D.TOz a2⟩,a3.extBut sb.extBut D.i1z,a4.extBut sb.extBut D.i2z⟩
  . intro c j
    obtain⟨o,e,_⟩:∃ o,s.heap.get? c=some o/\True:=by
     simp only[N4,OE,Pr]at j;rcases j with rfl | rfl | rfl | rfl | rfl
     . exact⟨_,m,trivial⟩
     . exact⟨_,l,trivial⟩
     . exact⟨_,f,trivial⟩
     . exact⟨_,e1,trivial⟩
     . exact⟨_,e2,trivial⟩
    rw[ah (lt e)];exact(hf c j).1
 done:=by
  intro X hP hw hK j i NB s σ H E I hf R hg;subst hP hw hK;obtain⟨xs,ys,N,Q,p⟩:=hg;obtain⟨T,Z,p1,ak⟩:=I.list N;obtain⟨S,Y,p2,U⟩:=I.list Q;have ao:=Z.length;have am:=Y.length;obtain⟨m,l,⟨u,v,f⟩,⟨o1,e1,r,G⟩,⟨o2,e2,q,W⟩⟩:=id R;obtain⟨oa,O,C,_⟩:=p1.isList;obtain⟨ob,F,M,_⟩:=p2.isList
  have D:ZipApart z TI B A t a b:=⟨aW l m rfl rfl #[1],aW f m rfl rfl #[1],aW e1 m r rfl #[1],aW e2 m q rfl #[1],dT,aW l e1 rfl r #[1],aW l e2 rfl q #[1],aW f e1 rfl r #[1],aW f e2 rfl q #[1],d1,
   aW O m C rfl #[1],aW O f C rfl #[1],aW O e1 C r #[1],aW O e2 C q #[1],aW F m M rfl #[1],aW F f M rfl #[1],aW F e1 M r #[1],aW F e2 M q #[1]⟩
  have ab:T.toArray[i]? =none\/S.toArray[i]? =none:=by
   rcases p with h | h
   . exact .inl (by simp;omega)
   . exact .inr (by simp;omega)
  refine wpAny_pyNext_zip_end (I.ok.hd j) D m l f ⟨o1,e1,r,G⟩ ⟨o2,e2,q,W⟩ p1.isList p2.isList ab λh' hk=>⟨rfl,?_⟩
  have J:∀ c o,c∉[z,B,A,t]->s.heap.get? c=some o->h'.get? c=some o:=λc o j e=>by
   simp only[N4,OE,Pr,not_or]at j;exact hk c o j.1 j.2.1 j.2.2.1 j.2.2.2 e
  have nH:∀ c∈[z,B,A,t],H c=none:=λc j=>(hf c (by simp only[N4,OE,Pr]at j ⊢;rcases j with h | h | h | h <;> simp[h])).1;refine I.call' (s':={s with heap:=h'}) (ch:=[z,B,A,t]) rfl ⟨λc o e n _ p=>J c o p e,λc o e n _ p=>⟨o.slots,J c o p e⟩,λc o e n _=>n,λc o e p=>⟨o,J c o p e⟩,λc xs e=>e,λc o u e=>e,λc ps e=>⟨#[],by rw[e];simp⟩⟩ ?_ I.bare ?_
  . intro c ob e;refine(I.hok c ob e).stay (λd w' L g=>J d w' ?_ g) (λd g=>g) λd xs g=>g;intro hm;rcases L with rfl | L
    . rw[nH _ hm]at e;cases e
    . rw[nH _ hm]at L;cases L
  . intro c j;obtain⟨f0,G,W,f3,f4,f5⟩:=hf c (by simp only[N4,OE,Pr]at j ⊢;rcases j with h | h | h | h <;> simp[h]);exact⟨f3,G,f4,f5⟩
 self:=λ_ _ _ _ _ R h=>wpAny_pyIter_zip R.1 h
def iZip(K:Frag)(e:TA):TI:=λσ H R=>e σ H λvs c=>∃ a b,vs=[.ref a,.ref b]/\(∃ xs,SqL K c a xs)/\(∃ d,SqL K c b d)/\R (Itz K a b) c
theorem Jb:bootBuiltins "zip"=some (.type "zip"):=by decide+kernel
def Jc{J:List Expr}{C:Nat}{d:Pos}{e1 e2:Expr}{o:TA}{p pos:Pos}(S:Gl X "zip")(D:X.mg "zip"=none)(L:PA X [e1,e2] o)(P:starEach [e1,e2] X.env=[(false,eval e1 X.env),(false,eval e2 X.env)]:=by rfl)(g:starEach [e2] X.env=[(false,eval e2 X.env)]:=by rfl):
  PI X (.Tuple J C d) (.Call (.Name "zip" p) [e1,e2] [] pos) (iZip X.K o):=by
 intro NB s σ H R I h;refine Call_ (fm I S D Jb (OJ (thn (L pos NB s σ H _ I h) λY s1 ⟨vs,r,e,r1,N⟩=>?_) (by rw[P,g]) (by rw[g];rfl)));obtain⟨a,b,rfl,⟨xs,k⟩,⟨ys,j⟩,q⟩:=N;obtain⟨Z,U,rfl,l,i⟩:=G1 r1;cases l;cases i;obtain⟨n,F,O,Q⟩:=e.list k;obtain⟨m,B,A,x⟩:=e.list j;refine call_zip_2 O.isList A.isList λG t w v y M W E=>?_;refine wpAny_pyIter_zip t ?_;have T:Inv X NB σ r {s1 with heap:=G,toks:=s1.toks}:=e.kept E;refine⟨s1.heap.objs.size+4,[s1.heap.objs.size+4,s1.heap.objs.size+2,s1.heap.objs.size+3,s1.heap.objs.size,s1.heap.objs.size+1],ZSt a b (s1.heap.objs.size+4) (s1.heap.objs.size+2) (s1.heap.objs.size+3) s1.heap.objs.size (s1.heap.objs.size+1),Itz X.K a b,r,rfl,T,Gm a b (s1.heap.objs.size+4) (s1.heap.objs.size+2) (s1.heap.objs.size+3) s1.heap.objs.size (s1.heap.objs.size+1) (λz=>by have:s1.heap.objs.size+2=s1.heap.objs.size+3:=z;omega) (λz=>by have:s1.heap.objs.size=s1.heap.objs.size+1:=z;omega),⟨t,w,⟨_,_,v⟩,y,M⟩,λc u=>?_,q⟩
 have f:s1.heap.objs.size<=c:=by
  simp only[N4,OE,Pr]at u;rcases u with rfl | rfl | rfl | rfl | rfl <;> omega
 exact e.fpOk f (e.hok.fresh f)
end
open Builtin Builtin.Str
theorem xJ:∀{ts:List Str} {us:List Value},Vals (ts.map V.str) us->∃ l:List (Str × Tok),us=strValues l/\l.map (·.1)=ts
 | [],_,.nil=>⟨[],rfl,rfl⟩
 | t::ts,_,.cons r rs=>by
  obtain⟨l,rfl,e⟩:=xJ (ts:=ts) rs;obtain⟨u,rfl⟩:=r;exact⟨(t,u)::l,rfl,by rw[OD,e]⟩
theorem yN:∀(l:List (Str × Tok)),Vals ((l.map (·.1)).map V.str) (strValues l)
 | []=>.nil
 | (t,u)::l=>.cons ⟨u,rfl⟩ (yN l)
section
variable{X:Cx}
def kFind:V->List V->Hp->VK->Prop
 | .str x,[.str y],H,Q=>Q (.int (Txt.find x y)) H
 | _,_,_,_=>False
def vQ:V->List V->Hp->VK->Prop
 | .str x,[.str y],H,Q=>(y.length==0)=false/\x.length<=sizeLine/\(Txt.split x y).length<=sizeLine/\∀ l,H l=none->Q (.ref l) (upd H l (.lst ((Txt.split x y).map V.str)))
 | _,_,_,_=>False
theorem EQ:MtR X "str.split" vQ:=by
 intro j s σ H x vs v p Q I n o h;unfold vQ at h
 split at h
 . rename_i x y
   obtain⟨t,rfl⟩:=n;obtain⟨u,rfl,m⟩:=d7 o;obtain⟨c,rfl⟩:=m;obtain⟨g,i,d,q⟩:=h
   have a:∀(l:List (Str × Tok)) (k:Nat),l.map (·.1)=Txt.split x y->EP X j σ Q (.ref s.heap.objs.size) {s with heap:=s.heap.push {cls:=.type "list",data:=.seq (strValues l).toArray},toks:=k}:=λl k e=>by
    refine⟨.ref s.heap.objs.size,_,I.lnew (t':=k) (ys:=(Txt.split x y).map V.str) (NF:=strValues l) ?_ (by rw[NM];exact d),rfl,q _ I.fresh⟩;rw[← e];exact yN l
   cases h1:(decide (x.length<y.length)||decide (strKind x<strKind y))
   . cases b:(occurrences x y 0 x.length (x.length+1)).isEmpty
     . have f:Txt.split x y=partsBetween x (occurrences x y 0 x.length (x.length+1)) y.length:=(Og (Qu h1)).trans (Og (Qu b));refine PD QW (Qh _ _ _) QM (QG _ _) (meets_str_split_sep x y t c h1 g b i (by rw[← f];exact d)) ?_;show wants _ _ _ {s with toks:=_,heap:=s.heap.push {cls:=.type "list",data:=.seq (strsFrom s.toks (partsBetween x (occurrences x y 0 x.length (x.length+1)) y.length)).toArray}};rw[strsFrom_eq];exact a (numbered s.toks _) _ ((numbered_texts _ _).trans f.symm)
     . exact PD QW (Qh _ _ _) QM (QG _ _) (meets_str_split_not_found x y t c h1 g b)
        (a [(x,t)] s.toks ((Og (Qu h1)).trans (Os b)).symm)
   . exact PD QW (Qh _ _ _) QM (QG _ _) (meets_str_split_cannot_occur x y t c h1)
      (a [(x,t)] s.toks (Os h1).symm)
 . exact h.elim
def kc:V->Option Int->Option Int->Hp->VK->Prop
 | .ref p,lo,hi,H,Q=>cSl (.ref p) lo hi H Q
 | .str z,lo,hi,H,Q=>z.length<=sizeLine/\Q (.str (Txt.slice z lo hi)) H
 | _,_,_,_,_=>False
theorem lT:SlR X kc:=by
 intro o s σ H x v y B e f A Q I w b n g h
 cases x with
 | ref p=>exact Kg o s σ H _ v y B e f A Q I w b n g h
 | str z=>
  obtain⟨c,q⟩:=(show z.length<=sizeLine/\Q (.str (Txt.slice z e f)) H from h);obtain⟨t,rfl⟩:=w;have a:∀ d k,EP X o σ Q (.str (Txt.slice z e f) d) {s with toks:=k}:=λd k=>⟨.str _,H,I.tok k,⟨d,rfl⟩,q⟩;refine⟨"str",_,F.slot_str_getitem.lookup,Qh _ _ _,?_⟩
  cases n with
  | none=>
   cases g with
   | none=>exact PK (l:=none) (u:=none) (st:=none) b rfl (Qp ⟨NY (Re z _ _) c,a⟩)
   | int j m=>exact PK (l:=none) (u:=some (j,m)) (st:=none) b rfl (Qp ⟨NY (Re z _ _) c,a⟩)
  | int i r=>
   cases g with
   | none=>exact PK (l:=some (i,r)) (u:=none) (st:=none) b rfl (Qp ⟨NY (Re z _ _) c,a⟩)
   | int j m=>exact PK (l:=some (i,r)) (u:=some (j,m)) (st:=none) b rfl (Qp ⟨NY (Re z _ _) c,a⟩)
 | _=>exact False.elim h
def Its(x:Str):It:=⟨λi _=>i<x.cps.size,λi H v a=>a=H/\∃ c,x.cps[i]? =some c/\v=.str ⟨#[c]⟩,λi _=>x.cps.size<=i⟩
def AA {P:Program} {w:World} {K:Frag} {Z:Expr} {x:Str} {t:Tok} (it:Addr) (m:String) (F:["enumerate","zip","dict_itemiterator","dict_reverseitemiterator","odict_iterator","itertools.zip_longest","itertools.pairwise"].contains m=false)
  (W:∀ A:Around,A.handled=none->Walks P w A it [it] [it] x.cps.size (SignAt x) (λi h=>h.IsStrIter it m x t i))
  (r:∀(A:Around) (i:Nat) (s:Shared) (Q:Value->Shared->Prop) (E:Value->Shared->Prop),s.heap.IsStrIter it m x t i->Q (.ref it) s->wpAny (model P w) A (pyIter (.ref it)) Q E s):
  Turn P w K Z (Its x) [it] it (λi h=>i<=x.cps.size/\h.IsStrIter it m x t i) where
 mem:=by simp
 obj:=λi h a b f=>by
  have e:b=it:=by simpa using f
  subst e;obtain⟨_,o,e,c,d⟩:=a;exact⟨o,e,λv z=>by rw[d]at z;cases z⟩
 keep:=λi h l a k=>by
  obtain⟨hi,o,e,c,d⟩:=a;exact⟨hi,o,k it (by simp) o e,c,d⟩
 item:=by
  intro X B hw p O i S s σ H E I n a N;subst B hw p;obtain⟨q,C,Y,y,G,M⟩:=n it (by simp);have j:i<x.cps.size:=N;refine(W X.A (I.ok.hd O)).item i s _ _ j a.2 λv l L hv g J=>?_;obtain⟨c,u,D,rfl⟩:=hv;have T:Inv X S σ H {s with heap:=l,toks:=L}:=I.turned (λb o f e=>J b o (by simpa using f) e) q C y G M;obtain⟨o,e,U,d⟩:=id g;exact⟨_,rfl,vC (s:={s with heap:=l,toks:=L}) e U d F ⟨.str ⟨#[c]⟩,H,T,⟨u,rfl⟩,⟨rfl,c,D,rfl⟩,⟨j,g⟩,λb f=>(n b f).1⟩⟩
 done:=by
  intro X B hw p O i S s σ H E I n a N;subst B hw p;obtain⟨q,C,Y,y,G,M⟩:=n it (by simp);have R:x.cps.size<=i:=N;have e:i=x.cps.size:=Nat.le_antisymm a.1 R;subst e;exact(W X.A (I.ok.hd O)).done s _ _ a.2 λl L J=>⟨rfl,I.turned (λb o f e=>J b o (by simpa using f) e) q C y G M⟩
 self:=λA i s Q E a h=>r A i s Q E a.2 h
def iStr(b:TE):TI:=λσ H R=>b σ H λx a=>∃ z,x=.str z/\R (Its z) a
theorem Jd{w l:Expr}{k:TE}(r:PE X l k):PI X w l (iStr k):=by
 intro m s σ H R I h;refine thn (r m s σ H _ I h) λv s1 ⟨x,j,c,r1,p⟩=>?_;obtain⟨z,rfl,q⟩:=p;obtain⟨t,rfl⟩:=r1
 have a:∀ b∈[s1.heap.objs.size],FpOk X m j b:=λb y=>by
  have e:b=s1.heap.objs.size:=by simpa using y
  subst e;exact c.fpOk (NZ _) (c.hok.fresh (NZ _))
 cases n:z.cps.all (· < 128)
 . refine wpAny_pyIter_wide n ⟨s1.heap.objs.size,[s1.heap.objs.size],_,Its z,j,rfl,c.kept (t':=s1.toks) λb o e=>N0 _ e,AA (t:=t) _ "str_iterator" #[1] (λu d=>Walks.strWide d _ z t) (λA i s Q E g f=>wpAny_pyIter_striter_wide g f),⟨OP _,_,Oq _ rfl,rfl,rfl⟩,a,q⟩
 . refine wpAny_pyIter_ascii n ⟨s1.heap.objs.size,[s1.heap.objs.size],_,Its z,j,rfl,c.kept (t':=s1.toks) λb o e=>N0 _ e,AA (t:=t) _ "str_ascii_iterator" #[1] (λu d=>Walks.strAscii d _ z t) (λA i s Q E g f=>wpAny_pyIter_striter_ascii g f),⟨OP _,_,Oq _ rfl,rfl,rfl⟩,a,q⟩
end
section
variable{K:Frag}{g:TG}{tb:TS}{D:Ends}{σ:St}{H:Hp}{tl:TE}{ix:List (Option Nat)}{tt:TT}{te ta:TE}{k:Nat}{Q:VK}
def fE{r:V->Option Int->Option Int->Hp->VK->Prop}{a b:TO}:tSl r te a b σ H Q=te σ H λx c=>a σ c λl d=>b σ d λu e=>r x l u e Q:=rfl
def cB{R:Option Int->Hp->Prop}:tPart te σ H R=te σ H λx a=>∃ i,x=.int i/\R (some i) a:=rfl
def bn{R:Option Int->Hp->Prop}:gb σ H R=R none H:=rfl
def cC{b a:TE}{t:TSet}{v:V}{R:St->Hp->Prop}:gSub b a t v σ H R=b σ H λo e=>a σ e λi c=>t o i v c λd=>R σ d:=rfl
def fF{r:V->Hp->VK->Prop}:tUn r te σ H Q=te σ H λx a=>r x a Q:=rfl
def cD:tFor (iStr tl) g tb D σ H=tl σ H λx a=>∃ z,x=.str z/\LoopR (Its z) g tb D σ a:=rfl
def bD:tComp ix (iStr tl) g tt te σ H Q=tl σ H λx a=>∃ z,x=.str z/\CompR (Its z) g tt te (λl b=>Q (.ref l) b) (subσ ix σ) a:=rfl
def bo:sComp k ix (iStr tl) g tt te D σ H=tl σ H λx a=>∃ z,x=.str z/\CompR (Its z) g tt te (λl b=>D.nx (σ.set k ↑l) b) (subσ ix σ) a:=rfl
def G5{x:Str}:tyV K "str" (.str x) H:=rfl
def dM{i j:Str}:cEq K (.str i) (.str j) H Q=Q (.bl (decide (i=j))) H:=rfl
def dN{i j:Str}:cNe K (.str i) (.str j) H Q=Q (.bl (!decide (i=j))) H:=rfl
def cE{z:Str}:kLen [.str z] H Q=(z.length<=sizeLine/\Q (.int z.length) H):=rfl
def cF{i j:Str}:cAdd (.str i) (.str j) H Q=(i.length+j.length<=sizeLine/\Q (.str (i++j)) H):=rfl
def JY{z:Str}{i:Int}:cIx (.str z) (.int i) H Q=(z.length<=sizeLine/\bnd (atI z.cps.toList i) λc=>Q (.str ⟨#[c]⟩) H):=rfl
def cG{x y:Str}:kFind (.str x) [.str y] H Q=Q (.int (Txt.find x y)) H:=rfl
def Hw{x y:Str}:vQ (.str x) [.str y] H Q=((y.length==0)=false/\x.length<=sizeLine/\(Txt.split x y).length<=sizeLine/\∀ l,H l=none->Q (.ref l) (upd H l (.lst ((Txt.split x y).map V.str)))):=rfl
theorem qh{p:Addr}{a b:Option Int}{xs:List V}(c:H p=↥xs)(h:∀ l,H l=none->Q (.ref l) (upd H l (.lst (cutV xs a b)))):kc (.ref p) a b H Q:=by
 show bnd (unL (H p)) _;rw[c];exact h
end
def cBitI(g:Int->Int->Int):R2
 | .int i,.int j,H,Q=>Q (.int (g i j)) H
 | _,_,_,_=>False
def cShr:R2
 | .int i,.int j,H,Q=>0<=j/\Q (.int (i/2^j.toNat)) H
 | _,_,_,_=>False
abbrev cOr:R2:=cBitI Builtin.bitOr
section
variable{X:Cx}
theorem Gn{o:Operator}{g:Int->Int->Int}(h0:OpR X (binaryOp o) (rI0 λi j=>.int (g i j))):OpR X (binaryOp o) (cBitI g):=by
 intro b s σ H x y v u Q I a c h;unfold cBitI at h
 split at h
 . exact h0 b s σ H _ _ v u Q I a c ⟨_,_,rfl,rfl,h⟩
 . exact h.elim
def Je:OpR X (binaryOp .BitOr) cOr:=Gn JR
theorem Hx:OpR X (binaryOp .RShift) cShr:=by
 intro b s σ H x y v u Q I a c h;unfold cShr at h
 split at h
 . exact IL b s σ H _ _ v u Q I a c ⟨_,_,rfl,rfl,h.1,h.2⟩
 . exact h.elim
end
section
variable{H:Hp}{Q:VK}{i j:Int}
def df{g:Int->Int->Int}:cBitI g (.int i) (.int j) H Q=Q (.int (g i j)) H:=rfl
def fh:cShr (.int i) (.int j) H Q=(0<=j/\Q (.int (i/2^j.toNat)) H):=rfl
end
section
variable{X:Cx}
def kInt:List V->Hp->VK->Prop
 | [.int i],H,Q=>Q (.int i) H
 | [.bl k],H,Q=>Q (.int (if k then 1 else 0)) H
 | _,_,_=>False
def o9:V->List V->Hp->VK->Prop
 | .int i,[],H,Q=>Q (.int (Builtin.Int.intBits i:Nat)) H
 | _,_,_,_=>False
theorem vR:MtR X "int.bit_length" o9:=by
 intro c s σ H x vs v d Q I b a h;unfold o9 at h
 split at h
 . obtain⟨t,rfl⟩:=b;cases a;exact call_int_bit_length ⟨.int _,H,I.tok _,⟨_,rfl⟩,h⟩
 . exact h.elim
def cRepL:R2
 | .ref l,.int k,H,Q=>bnd (unM (H l)) λxs=> -(2^63)<=k/\k<2^63/\xs.length*k.toNat<=sizeLine/\∀ p,H p=none->Q (.ref p) (upd H p (.lst (List.replicate k.toNat xs).flatten))
 | _,_,_,_=>False
theorem qi:OpR X (binaryOp .Mult) cRepL:=by
 intro b s σ H x y v u Q I a c h;unfold cRepL at h
 split at h
 . obtain⟨xs,e,h1,h2,h3,q⟩:=ba h;exact IS b s σ H _ _ v u Q I a c ⟨_,_,xs,rfl,rfl,ib e,h1,h2,h3,q⟩
 . exact h.elim
def kAll:List V->Hp->VK->Prop
 | [.ref p],H,Q=>bnd (unL (H p)) λys=>∃ bs:List Bool,ys=bs.map V.bl/\Q (.bl (bs.all id)) H
 | _,_,_=>False
theorem ER(bs:List Bool):(List.range bs.length).all (λi=>bs.getD i false)=bs.all id:=by
 rw[Om,Od,Od];constructor
 . intro h b d;obtain⟨i,c,e⟩:=Pe.mp d;have:=h i (Oe.mpr c);rw[List.getD,NN c,e]at this;exact this
 . intro h i c;have a:i<bs.length:=Oe.mp c;have:=h bs[i] (On a)
   simpa [List.getD,a] using this
theorem gy:bootBuiltins "all"=some (.builtin "all"):=by decide+kernel
theorem vS:bootBuiltins "sum"=some (.builtin "sum"):=by decide+kernel
theorem cY(C:X.calm=true):CallR X (.builtin "all") kAll:=by
 intro G s σ H xs E Q I r h;unfold kAll at h
 split at h
 . rename_i p
   obtain⟨K,e,c,rfl,q⟩:=ba h;obtain⟨u,rfl,k⟩:=d7 r;cases k;obtain⟨a,g,d,D⟩:=I.list (o7 e);have j:=g.length;rw[NM]at j
   have f:p<s.heap.objs.size:=by
    obtain⟨o,h1,_⟩:=d.isList;exact Oh h1
   refine call_all_walkS (PP d.isList ?_);refine⟨s.heap.objs.size,_,_,_,a.toArray.size,_,_,λi=>c.getD i false,rfl,(RG (A:=X.A.in1) (I.ok.hd C) s.heap.objs.size p (OF f) a.toArray).toS,⟨⟨_,Oq _ rfl,rfl,rfl⟩,d.isList.push _⟩,?_,λL n=>?_⟩
   . intro i v s1 F J m t;have y:a[i]? =some v:=by simpa using m
     obtain⟨x,w,B⟩:=g.get' y;obtain⟨b,hb,rfl⟩:∃ b,c[i]? =some b/\V.bl b=x:=by simpa using w
     cases B;refine Po ?_;have z:c.getD i false=b:=by simp[List.getD,hb]
     rw[← z];exact t
   . refine⟨.bl _,H,I.walked (l:=p) n,?_,q⟩;have e2:a.toArray.size=c.length:=by rw[N8];exact j.symm
     rw[e2,ER];rfl
 . exact h.elim
def kSum:List V->Hp->VK->Prop
 | [.ref p],H,Q=>bnd (unL (H p)) λys=>∃ ns:∅,ys=ns.map V.int/\(∀ x∈ns,0<=x/\x<=1000000)/\ns.length<=1000000/\Q (.int ns.sum) H
 | _,_,_=>False
theorem ES:∀(ns:∅),(∀ x∈ns,0<=x/\x<=1000000)->0<=ns.sum/\ns.sum<=1000000*ns.length
 | [],_=>by simp
 | n::r,h=>by
  have b:=ES r λx a=>h x (N5 _ a);have h1:=h n Oa;rw[QS,OA];lia
theorem nt(J:X.calm=true):CallR X (.builtin "sum") kSum:=by
 intro N s σ H xs M Q I r h;unfold kSum at h
 split at h
 . rename_i p
   obtain⟨O,e,a,rfl,y,K,q⟩:=ba h;obtain⟨u,rfl,z⟩:=d7 r;cases z;obtain⟨f,n,g,L⟩:=I.list (o7 e);have w:=n.length;rw[NM]at w
   have d:p<s.heap.objs.size:=by
    obtain⟨o,h1,_⟩:=g.isList;exact Oh h1
   have e2:f.toArray.size=a.length:=by rw[N8];exact w.symm
   refine call_sum_walkS (PP g.isList ?_);refine⟨s.heap.objs.size,_,_,_,f.toArray.size,_,_,λi=>a.getD i 0,rfl,(RG (A:=X.A.in1) (I.ok.hd J) s.heap.objs.size p (OF d) f.toArray).toS,⟨⟨_,Oq _ rfl,rfl,rfl⟩,g.isList.push _⟩,?_,?_,?_,λP D C=>?_⟩
   . intro b c;show b < (s.heap.push _).objs.size;rw[Ps];simp only[N4,OE,Pr]at c;rcases c with rfl | rfl
     . exact PX _
     . exact Ph d
   . intro i v B;have E:f[i]? =some v:=by simpa using B
     obtain⟨x,m,G⟩:=n.get' E;obtain⟨b,c,rfl⟩:∃ b,a[i]? =some b/\V.int b=x:=by simpa using m
     obtain⟨t,rfl⟩:=G;exact⟨t,by simp[List.getD,c]⟩
   . intro j k;rw[e2]at k;refine⟨?_,?_⟩
     . have:=y a[j] (On k);have F:a.getD j 0=a[j]:=by simp[List.getD,k]
       show InLong (a.getD j 0);rw[F];exact⟨by lia,by lia⟩
     . rw[preSum_getD];have h1:=ES (a.take (j+1)) λx m=>y x (PR m);have h2:(a.take (j+1)).length<=a.length:=by rw[OL];lia
       exact⟨by lia,by lia⟩
   . refine⟨.int a.sum,H,I.walked (l:=p) C,⟨D,?_⟩,q⟩;rw[e2,preSum_getD,ON]
 . exact h.elim
def Itd(a:Int)(n:Nat):It:=⟨λi _=>i<n,λi H x b=>b=H/\x=.int (a-i),λi _=>n<=i⟩
def iRngD(b:TA):TI:=λσ H R=>b σ H λvs a=>∃ i j:Int,vs=[.int i,.int j,.int (-1)]/\(-(2^60)<=i/\i<2^60/\ -(2^60)<=j/\j<2^60)/\R (Itd i (i-j).toNat) a
end
section
variable{K:Frag}{g:TG}{tb:TS}{D:Ends}{σ:St}{H:Hp}{ta:TA}{Q:VK}
def dg{k:Bool}:kInt [.bl k] H Q=Q (.int (if k then 1 else 0)) H:=rfl
def dh{i:Int}:kInt [.int i] H Q=Q (.int i) H:=rfl
def bH{i:Int}:o9 (.int i) [] H Q=Q (.int (Builtin.Int.intBits i:Nat)) H:=rfl
theorem jh{p:Addr}{bs:List Bool}(b:H p=↥(bs.map V.bl))(h:Q (.bl (bs.all id)) H):kAll [.ref p] H Q:=by
 show bnd (unL (H p)) _;rw[b];exact a9 (a:=bs.map V.bl) rfl ⟨bs,rfl,h⟩
theorem Ac{p:Addr}{ns:∅}(d:H p=↥(ns.map V.int))(b:∀ x∈ns,0<=x/\x<=1000000)(c:ns.length<=1000000)(h:Q (.int ns.sum) H):kSum [.ref p] H Q:=by
 show bnd (unL (H p)) _;rw[d];exact a9 (a:=ns.map V.int) rfl ⟨ns,rfl,b,c,h⟩
theorem vT{p:Addr}{xs:List V}{k:Int}(c:H p=↥xs)(h0:0<=k)(h1:k<=1000)(b:xs.length<=1)(h:∀ l,H l=none->Q (.ref l) (upd H l (.lst (List.replicate k.toNat xs).flatten))):cRepL (.ref p) (.int k) H Q:=by
 show bnd (unM (H p)) _;rw[c];refine a9 (a:=xs) rfl ⟨by lia,by lia,?_,h⟩;refine OH (aC (NY (Qm _ b) ?_));lia
def cK:tFor (iRngD ta) g tb D σ H=ta σ H λvs a=>∃ i j:Int,vs=[.int i,.int j,.int (-1)]/\(-(2^60)<=i/\i<2^60/\ -(2^60)<=j/\j<2^60)/\LoopR (Itd i (i-j).toNat) g tb D σ a:=rfl
end
section
variable{X:Cx}
def Ite(K:Frag)(a:Addr):It:=
 ⟨λi H=>∃ xs x,SqL K H a xs/\xs[i]? =some x,
  λi H v b=>∃ T x,v=.ref T/\H T=none/\b=upd H T (.tup [.int i,x])/\∀ xs,SqL K H a xs->xs[i]? =some x,
  λi H=>∃ xs,SqL K H a xs/\xs.length<=i⟩
def ESt(a e it:Addr)(i:Nat)(h:Heap):Prop:=(∃ b,IsEnum h e it i b)/\h.IsListIter it a i
def ET{P:Program}{w:World}{K:Frag}{es:List Expr}{x1:Nat}{pos:Pos}(a e it:Addr):
  Turn P w K (.Tuple es x1 pos) (Ite K a) [e,it] e (ESt a e it) where
 mem:=by simp
 obj:=λi h p c f=>by
  obtain⟨⟨j,he⟩,⟨G,e1,B,t⟩⟩:=p;simp only[N4,OE,Pr]at f;rcases f with rfl | rfl
  . exact⟨_,he,λv z=>by have z':Data.fields _=Data.cell v:=z;cases z'⟩
  . exact⟨_,e1,λv z=>by rw[t]at z;cases z⟩
 keep:=λi h h' p k=>by
  obtain⟨⟨j,he⟩,h1⟩:=p;exact⟨⟨j,k e (by simp) _ he⟩,h1.at λo q=>k it (by simp) o q⟩
 item:=by
  intro X S hw N f i NB s σ H E I F p hg;subst S hw N;obtain⟨xs,x,l,m⟩:=hg;obtain⟨r,y,p1,ab⟩:=I.list l;obtain⟨Z,O,aa⟩:=y.get m;obtain⟨⟨j,he⟩,⟨G,e1,B,t⟩⟩:=id p;have D:e≠it:=aW he e1 rfl B #[1];refine wpAny_pyNext_enum_item he ⟨G,e1,B,t⟩ p1.isList (x:=Z) (by simpa using O) D λh' a1 a2 a3 a4 hk=>?_;refine⟨_,rfl,wpAny_letOwnedTupleGo_enum a1 λh2 Q sb=>?_⟩;have A:H s.heap.objs.size=none:=I.fresh;have W:∀{c o},s.heap.get? c=some o->c≠s.heap.objs.size:=λe=>OF (Oh e)
  have J:∀ c o,c∉[e,it]->s.heap.get? c=some o->h2.get? c=some o:=λc o f q=>by
   simp only[N4,OE,Pr,not_or]at f;exact sb.extBut _ _ f.1 (hk c o f.1 f.2 q)
  have T:s.heap.objs.size≠e:=(W he).symm;have gT:h2.get? s.heap.objs.size=some {cls:=.type "tuple",data:=.seq #[.int i s.toks,Z]}:=sb.extBut _ _ T a3;have nH:∀ c∈[e,it],H c=none:=λc f=>(F c f).1;refine⟨.ref s.heap.objs.size,upd H s.heap.objs.size (.tup [.int i,x]),I.call' (s':={s with heap:=h2,toks:=s.toks+1}) (ch:=[e,it]) rfl ⟨λc o e n _ m=>J c o m e,λc o e n _ m=>⟨o.slots,J c o m e⟩,λc o e n _=>by rw[ah (W e)];exact n,λc o e m=>⟨o,J c o m e⟩,λc xs e=>by rw[ah (av e A)];exact e,λc o u e=>by rw[ah (av e A)];exact e,λc ps e=>⟨#[],by rw[ah (av e A),e];simp⟩⟩ ?_ I.bare ?_,rfl,⟨_,x,rfl,A,rfl,λzs U=>by rw[I.list_inj U l];exact m⟩,?_,?_⟩
  . intro c ob e;by_cases L:c=s.heap.objs.size
    . subst L;rw[ag]at e;cases e;exact⟨by show(2:Nat)<=sizeLine;exact OH (aC #[1]),[.int i s.toks,Z],.cons ⟨_,rfl⟩ (.cons aa .nil),⟨_,gT,rfl,_,rfl⟩⟩
    . rw[ah L]at e;refine(I.hok c ob e).stay (λd w' M g=>J d w' ?_ g) (λd g=>by rw[ah (av g A)];exact g) λd xs g=>by rw[ah (av g A)];exact g
      intro hm;rcases M with rfl | M
      . rw[nH _ hm]at e;cases e
      . rw[nH _ hm]at M;cases M
  . intro c f;obtain⟨f0,t,f2,R,f4,f5⟩:=F c f;exact⟨R,t,f4,f5⟩
  . exact⟨⟨_,Q⟩,a2.extBut sb.extBut D.symm⟩
  . intro c f
    obtain⟨o,q⟩:∃ o,s.heap.get? c=some o:=by
     simp only[N4,OE,Pr]at f;rcases f with rfl | rfl
     . exact⟨_,he⟩
     . exact⟨_,e1⟩
    rw[ah (W q)];exact(F c f).1
 done:=by
  intro X S hw N f i NB s σ H E I F p hg;subst S hw N;obtain⟨xs,l,m⟩:=hg;obtain⟨r,y,p1,ab⟩:=I.list l;have ac:=y.length;obtain⟨⟨j,he⟩,⟨G,e1,B,t⟩⟩:=id p;have C:r.toArray[i]? =none:=by simp;omega
  obtain⟨f0,Y,f2,R,f4,f5⟩:=F it (by simp);exact wpAny_pyNext_enum_end (I.ok.hd f) he ⟨G,e1,B,t⟩ p1.isList C λh' eb=>⟨rfl,I.turned (t':=s.toks) (λb o L e=>eb b o L e) f0 Y R f4 f5⟩
 self:=λ_ _ _ _ _ p h=>by
  obtain⟨⟨j,he⟩,_⟩:=p;exact wpAny_pyIter_enum he h
def iEnum(K:Frag)(c:TA):TI:=λσ H R=>c σ H λvs b=>∃ a,vs=[.ref a]/\(∃ xs,SqL K b a xs)/\R (Ite K a) b
theorem AB:bootBuiltins "enumerate"=some (.type "enumerate"):=by decide+kernel
def xK{x:List Expr}{r:Nat}{b:Pos}{e1:Expr}{j:TA}{p pos:Pos}(D:Gl X "enumerate")(t:X.mg "enumerate"=none)(y:PA X [e1] j)(B:starEach [e1] X.env=[(false,eval e1 X.env)]:=by rfl):
  PI X (.Tuple x r b) (.Call (.Name "enumerate" p) [e1] [] pos) (iEnum X.K j):=by
 intro m s σ H R I h;refine Call_ (fm I D t AB (OJ (thn (y pos m s σ H _ I h) λG s1 ⟨vs,k,e,r1,z⟩=>?_) B rfl));obtain⟨a,rfl,⟨xs,f⟩,q⟩:=z;obtain⟨J,rfl,g⟩:=d7 r1;cases g;obtain⟨i,u,A,C⟩:=e.list f;refine call_enumerate_list A.isList λw l o F v=>?_;refine wpAny_pyIter_enum l ?_;have E:Inv X m σ k {s1 with heap:=w,toks:=s1.toks}:=e.kept v;refine⟨s1.heap.objs.size+1,[s1.heap.objs.size+1,s1.heap.objs.size],ESt a (s1.heap.objs.size+1) s1.heap.objs.size,Ite X.K a,k,rfl,E,ET a (s1.heap.objs.size+1) s1.heap.objs.size,⟨⟨_,l⟩,o⟩,λc n=>?_,q⟩
 have d:s1.heap.objs.size<=c:=by
  simp only[N4,OE,Pr]at n;rcases n with rfl | rfl <;> omega
 exact e.fpOk d (e.hok.fresh d)
end
section
variable{K:Frag}{g:TG}{tb:TS}{D:Ends}{σ:St}{H:Hp}{ta:TA}{Q:VK}{ix:List (Option Nat)}{tt:TT}{te:TE}{k:Nat}
def dj:tFor (iEnum K ta) g tb D σ H=ta σ H λvs b=>∃ a,vs=[.ref a]/\(∃ xs,SqL K b a xs)/\LoopR (Ite K a) g tb D σ b:=rfl
def cM:tComp ix (iEnum K ta) g tt te σ H Q=ta σ H λvs b=>∃ a,vs=[.ref a]/\(∃ xs,SqL K b a xs)/\CompR (Ite K a) g tt te (λl c=>Q (.ref l) c) (subσ ix σ) b:=rfl
def bI:sComp k ix (iEnum K ta) g tt te D σ H=ta σ H λvs b=>∃ a,vs=[.ref a]/\(∃ xs,SqL K b a xs)/\CompR (Ite K a) g tt te (λl c=>D.nx (σ.set k ↑l) c) (subσ ix σ) b:=rfl
theorem EU {a:Addr} {xs:List V} {j:Addr->Hp->Prop} {r:St} {f:Hp} (d:Addr->Nat->St->Hp->Prop) (h0:∀ l,f l=none->d l 0 r (upd f l (.lst []))) (w:∀ l i σ H,f l=none->i<=xs.length->d l i σ H->SqL K H a xs)
  (z:∀ l i x T σ H,f l=none->xs[i]? =some x->d l i σ H->H T=none->g (.ref T) σ (upd H T (.tup [.int i,x])) λk s=>tt k s λb n=>if b=true then te k n λy o=>∃ ys,o l=↥ys/\ys.length<sizeLine/\d l (i+1) k (upd o l (.lst (ys++[y]))) else d l (i+1) k n)
  (B:∀ l σ H,f l=none->d l xs.length σ H->j l H):CompR (Ite K a) g tt te j r f:=by
 intro l c;refine⟨λi m σ H=>m=xs.length-i/\i<=xs.length/\d l i σ H,⟨xs.length,by simp,OP _,h0 l c⟩,?_⟩;rintro i m σ H ⟨rfl,t,p⟩;have q:=w l i σ H c t p;by_cases h:i<xs.length
 . refine .inr ⟨⟨xs,xs[i],q,by simp[h]⟩,d l (i+1),λD C u=>⟨xs.length - (i+1),by lia,rfl,h,u⟩,λv C y=>?_⟩;obtain⟨T,x,rfl,A,rfl,e⟩:=y;exact z l i x T σ _ c (e xs q) p A
 . have e:i=xs.length:=by lia
   subst e;exact .inl ⟨⟨xs,q,NZ _⟩,B l σ H c p⟩
theorem qk {a:Addr} {xs:List V} {j:Addr->Hp->Prop} {g:St} {c:Hp} {k1 k2:Nat} (b:Nat->Bool) (f:Nat->V) (N:xs.length<=900) (n:k1≠k2) (C:SqL K c a xs)
  (G:∀(i:Nat) x H R,xs[i]? =some x->Same c H->(∀ m,Same H m->R (b i) m)->tt ((g.set k1 ⇑(i:Int)).set k2 (some x)) H R)
  (he:∀(i:Nat) x H Q,xs[i]? =some x->b i=true->Same c H->(∀ m,Same H m->Q (f i) m)->te ((g.set k1 ⇑(i:Int)).set k2 (some x)) H Q)
  (M:∀ l H,c l=none->Same c H->H l=↥(((List.range xs.length).filter b).map f)->j l H):
  CompR (Ite K a) (gTup K 2 (gCons (gName k1) (gCons (gName k2) gNil))) tt te j g c:=by
 refine EU (xs:=xs) (λl i σ H=>(σ=g\/∃ y A,σ=(g.set k1 y).set k2 A)/\Same c H/\H l=↥(((List.range i).filter b).map f)) (λl k=>⟨.inl rfl,λb u e=>by rw[ah (av e k)];exact e,by rw[ag];rfl⟩) (λl i σ H _ _ p=>p.2.1.seq C) ?_ (λl σ H k p=>M l H k p.2.1 p.2.2);rintro l i x T σ H k v ⟨J,s1,F⟩ D;have L:i<xs.length:=(NO.mp v).1;have q:Same H (upd H T (.tup [.int i,x])):=λb u e=>by rw[ah (av e D)];exact e
 refine⟨T,_,rfl,Ry ag,rfl,_,_,rfl,_,_,rfl,rfl,?_⟩
 have e:(σ.set k1 ⇑i).set k2 (some x)=(g.set k1 ⇑i).set k2 (some x):=by
  rcases J with rfl | ⟨y,A,rfl⟩
  . rfl
  . rw[QT _ _ (Q7 n),Pk,Pk,QT _ _ n]
 show tt ((σ.set k1 ⇑i).set k2 (some x)) _ _;rw[e];refine G i x _ _ v (s1.trans q) λI B=>?_;have h:=B _ _ (q _ _ F);have d:=(s1.trans q).trans B;have t:∀{w:Hp} {o:HO},Same c w->Same c (upd w l o):=λs b u e=>by rw[ah (av e k)];exact s b u e
 have E:∀ i,i<=900->(((List.range i).filter b).map f).length<sizeLine:=λi L=>by
  rw[NM];refine aC (NY (N1 b _) ?_);rw[OU];lia
 cases r:b i with
 | false=>
  rw[Og NV];refine⟨.inr ⟨_,_,rfl⟩,d,?_⟩;rw[OS,Oz,OI,r]
  simpa using h
 | true=>
  rw[Os rfl];refine he i x I _ v r d λw z=>⟨_,z _ _ h,E i #[4],.inr ⟨_,_,rfl⟩,t (d.trans z),?_⟩;rw[ag,OS,Oz,OI,r];simp
end
def rngL(i j:Int):∅:=(List.range (j-i).toNat).map λ(k:Nat)=>i+(k:Int)
theorem iy(i j:Int):(rngL i j).length=(j-i).toNat:=by unfold rngL;simp
theorem ul:∀{xs:List V} {us:List Value},xs.length=us.length->(∀(i:Nat) x u,xs[i]? =some x->us[i]? =some u->RelV x u)->Vals xs us
 | [],[],_,_=>.nil
 | [],_::_,h,_=>by simp at h
 | _::_,[],h,_=>by simp at h
 | x::xs,u::us,h,f=>.cons (f 0 x u rfl rfl) (ul (by simpa using h) λi y e h1 h2=>f (i+1) y e (by simpa using h1) (by simpa using h2))
theorem Gp{i j:Int}{b:Array Value}(h:ItemsOf (λk v=>∃ t,v=.int (i+k*1) t) b (j-i).toNat):Vals ((rngL i j).map V.int) b.toList:=by
 refine ul (by rw[NM,iy,P3];exact h.1.symm) λk x u a d=>?_;obtain⟨t,rfl⟩:=h.2 k u (by simpa using d);unfold rngL at a;rw[Op,NR]at a;by_cases c:k < (j-i).toNat
 . rw[OQ c]at a;cases a;exact⟨t,by rw[Int.mul_one]⟩
 . rw[Oi (by simpa using c)]at a;cases a
section
variable{X:Cx}
def kQ(b:TA):TE:=λσ H Q=>b σ H λvs a=>∃ j:Int,vs=[.int j]/\ -(2^60)<=j/\j<=1000/\∀ l,a l=none->Q (.ref l) (upd a l (.lst ((rngL 0 j).map V.int)))
def EV(b:TA):TE:=λσ H Q=>b σ H λvs a=>∃ i j:Int,vs=[.int i,.int j]/\(0<=i/\i<=1000/\ -(2^60)<=j/\j<=1000)/\∀ l,a l=none->Q (.ref l) (upd a l (.lst ((rngL i j).map V.int)))
theorem Gq {f:List (Addr × Obj)} {σ:St} {d:Hp} {s1:Shared} {Q:VK} {i j:Int} {t u v:Tok} {p:Nat} {A:Around} {E:Value->Shared->Prop} (y:A.handled=none) (r:Inv X f σ d s1) (h1:0<=i) (h2:i<=1000) (h3: -(2^60)<=j) (h4:j<=1000)
  (q:∀ l,d l=none->Q (.ref l) (upd d l (.lst ((rngL i j).map V.int)))):
  wpAny (model X.prog X.w) A (call (.type "list") [.ref s1.heap.objs.size]) (EP X f σ Q) E {s1 with heap:=s1.heap.push {cls:=.type "range",data:=.fields #[.int i t,.int j u,.int 1 v]},toks:=p}:=by
 have m:Inv X f σ d {s1 with heap:=s1.heap.push {cls:=.type "range",data:=.fields #[.int i t,.int j u,.int 1 v]},toks:=p}:=r.kept λb o e=>N0 _ e;refine call_list_range (n:=(j-i).toNat) y (IsRange.new ..) (small_one #[4] #[4] #[4] #[4]) (by rw[rangeSize_one];split <;> lia) #[4] λz g c s h k a=>?_;have x:((rngL i j).map V.int).length<=sizeLine:=by rw[NM,iy];exact OH (aC #[4])
 exact⟨.ref _,_,m.laid (t':=g) (o:=.lst ((rngL i j).map V.int)) h (NZ _) ⟨x,c.toList,s,Gp a,k⟩,rfl,q _ (m.hok.fresh (NZ _))⟩
theorem oE {a:Expr} {k:TA} {p d pos b:Pos} (w:X.calm=true) (i:Gl X "list") (g:Gl X "range") (n:X.mg "list"=none) (x:X.mg "range"=none) (m:PA X [a] k)
  (c:starEach [.Call (.Name "range" d) [a] [] b] X.env=[(false,eval (.Call (.Name "range" d) [a] [] b) X.env)]:=by rfl) (v:starEach [a] X.env=[(false,eval a X.env)]:=by rfl):
  PE X (.Call (.Name "list" p) [.Call (.Name "range" d) [a] [] b] [] pos) (kQ k):=by
 intro l s σ H Q I h;refine OW (fm I i n eI ?_ #[1] #[1]);refine OJ ?_ c rfl;rw[c];show wpAny _ _ (spliced [(false,eval (.Call (.Name "range" d) [a] [] b) X.env)]) _ _ s;refine Pt ?_;refine Call_ (fm I g x boot_range (OJ (thn (m b l s σ H _ I h) λz s1 ⟨vs,A,o,r1,f⟩=>?_) v rfl));obtain⟨j,e,f,u,q⟩:=f;subst e
 cases r1 with
 | cons r y=>
  cases y;obtain⟨t,rfl⟩:=r;refine call_range_1 ?_;refine Pz ?_;exact Gq (I.ok.hd w) o #[4] #[4] f u q
end
section
variable{σ:St}{H:Hp}{Q:VK}{ta:TA}
def cN:kQ ta σ H Q=ta σ H λvs a=>∃ j:Int,vs=[.int j]/\ -(2^60)<=j/\j<=1000/\∀ l,a l=none->Q (.ref l) (upd a l (.lst ((rngL 0 j).map V.int))):=rfl
def cO:EV ta σ H Q=ta σ H λvs a=>∃ i j:Int,vs=[.int i,.int j]/\(0<=i/\i<=1000/\ -(2^60)<=j/\j<=1000)/\∀ l,a l=none->Q (.ref l) (upd a l (.lst ((rngL i j).map V.int))):=rfl
end
end L2
namespace L2
def besL(h w c:Int):∅:=(if 0<c/w then [c-w] else [])++(if 0<c%w then [c-1] else [])++(if c%w<w-1 then [c+1] else [])++(if c/w<h-1 then [c+w] else [])
inductive RC(h w:Int)(cs:∅)(st:Int):Int->Prop
 | start:st∈cs->RC h w cs st st
 | step {x y:Int}:RC h w cs st x->y∈besL h w x->y∈cs->RC h w cs st y
variable{h w x:Int}{cs:∅}
theorem RC.mem{st:Int}(r:RC h w cs st x):x∈cs:=by cases r <;> assumption
theorem RC.st{st:Int}(r:RC h w cs st x):st∈cs:=by
 induction r with
 | start h=>exact h
 | step _ _ _ a=>exact a
theorem ql:∀{xs ys:∅},xs.Nodup->(∀ x∈xs,x∈ys)->xs.length<=ys.length
 | [],_,_,_=>OP _
 | x::xs,ys,nd,h=>by
  have b:=h x Oa;have a:=OR.mp nd
  have f:=ql (xs:=xs) (ys:=ys.erase x) a.2 λy c=>by
   have d:y≠x:=λe=>a.1 (e ▸ c);exact(List.mem_erase_of_ne d).mpr (h y (N5 _ c))
  rw[List.length_erase_of_mem b]at f;have:0<ys.length:=Rf b;simp only[OA];lia
structure BI(h w:Int)(cs:∅)(st:Int)(fs:∅)(pl:Nat):Prop where
 nd:fs.Nodup
 rc:∀ x∈fs,RC h w cs st x
 hst:st∈fs
 le:pl<=fs.length
 cl:∀(i:Nat) (x y:Int),i<pl->fs[i]? =some x->y∈besL h w x->y∈cs->y∈fs
variable{pl:Nat}
def BI.len{st:Int}{a:∅}(b:BI h w cs st a pl):a.length<=cs.length:=ql b.nd λx c=>(b.rc x c).mem
def BI.start{st:Int}(c:st∈cs):BI h w cs st [st] 0:=
 ⟨by simp,λx a=>by rw[NX.mp a];exact .start c,by simp,OP _,λi x y b=>absurd b (Nat.not_lt_zero _)⟩
theorem BI.done{st:Int}{a:∅}(b:BI h w cs st a pl)(e:¬ pl<a.length)(x:Int):x∈a↔RC h w cs st x:=by
 refine⟨b.rc x,λr=>?_⟩
 induction r with
 | start _=>exact b.hst
 | step r g j f=>
  obtain⟨i,c⟩:=List.getElem?_of_mem f;have d:i<a.length:=(NO.mp c).1;exact b.cl i _ _ #[4] c g j
def addC(cs a:∅)(y:Int):∅:=if y∈cs/\¬ y∈a then a++[y] else a
structure BJ(h w:Int)(cs:∅)(st:Int)(f0:∅)(pl:Nat)(bs:∅)(fs:∅):Prop where
 nd:fs.Nodup
 rc:∀ x∈fs,RC h w cs st x
 pre:f0 <+:fs
 al:∀ y∈bs,y∈cs->y∈fs
def BJ.zero{st:Int}{a:∅}(b:BI h w cs st a pl):BJ h w cs st a pl [] a:=⟨b.nd,b.rc,List.prefix_refl _,λy c=>nomatch c⟩
theorem BJ.more{st:Int}{i g bs:∅}{y:Int}(j:BJ h w cs st i pl bs g)(k:RC h w cs st x)(o:y∈besL h w x):BJ h w cs st i pl (bs++[y]) (addC cs g y):=by
 unfold addC
 split
 . rename_i f
   refine⟨?_,λz c=>?_,j.pre.trans (List.prefix_append _ _),λz c d=>?_⟩
   . refine PC.mpr ⟨j.nd,by simp,λa l b m=>?_⟩;rw[NX.mp m];intro e;exact f.2 (e ▸ l)
   . rcases Of.mp c with c | c
     . exact j.rc z c
     . rw[NX.mp c];exact .step k o f.1
   . rcases Of.mp c with c | c
     . exact Py _ (j.al z c d)
     . rw[NX.mp c];simp
 . rename_i f
   refine⟨j.nd,j.rc,j.pre,λz c d=>?_⟩;rcases Of.mp c with c | c
   . exact j.al z c d
   . rw[NX.mp c]at d ⊢;exact Decidable.byContradiction λn=>f ⟨d,n⟩
theorem BJ.done{st:Int}{a d:∅}(b:BI h w cs st a pl)(g:a[pl]? =some x)(j:BJ h w cs st a pl (besL h w x) d):BI h w cs st d (pl+1):=by
 have n:pl<a.length:=(NO.mp g).1;have o:=j.pre.length_le
 have f:∀ i,i<a.length->d[i]? =a[i]? :=λi k=>by
  obtain⟨t,e⟩:=j.pre;rw[← e,Ow k]
 refine⟨j.nd,j.rc,j.pre.subset b.hst,by lia,λi z y k c m l=>?_⟩;rw[f i #[4]]at c;by_cases e:i<pl
 . exact j.pre.subset (b.cl i z y e c m l)
 . have:i=pl:=by lia
   subst this;rw[g]at c;cases c;exact j.al y m l
theorem EW{c e:∅}(p:c.Perm e)(s:c.Pairwise (· <=·))(f:e.Nodup):c.Pairwise (· < ·):=by
 have d:c.Nodup:=p.nodup_iff.mpr f;refine(s.and d).imp ?_;intro a b h;have:=h.1;have:=h.2;lia
theorem vU:∀{xs ys:∅},xs.Pairwise (· < ·)->ys.Pairwise (· < ·)->(∀ z,z∈xs↔z∈ys)->xs=ys
 | [],[],_,_,_=>rfl
 | [],y::ys,_,_,h=>absurd ((h y).mpr Oa) (λq=>nomatch q)
 | x::xs,[],_,_,h=>absurd ((h x).mp Oa) (λq=>nomatch q)
 | x::xs,y::ys,hx,hy,h=>by
  have a:=P9.mp hx;have b:=P9.mp hy
  have e:x=y:=by
   rcases N4.mp ((h x).mp Oa) with e | d
   . exact e
   . rcases N4.mp ((h y).mpr Oa) with e | c
     . exact e.symm
     . have:=b.1 x d;have:=a.1 y c;lia
  subst e;refine congrArg (x::·) (vU a.2 b.2 λz=>⟨λm=>?_,λm=>?_⟩)
  . rcases N4.mp ((h z).mp (N5 _ m)) with e | q
    . have:=a.1 z m;lia
    . exact q
  . rcases N4.mp ((h z).mpr (N5 _ m)) with e | q
    . have:=b.1 z m;lia
    . exact q
end L2
namespace L2
open PySem PySem.Spec PyProof.Rows
def wk9(t:String):Lean.MacroM Lean.Syntax:=do
 let x<-(t.splitOn " ").toArray.mapM λs=>`(Lean.Parser.Tactic.simpLemma|$(Lean.mkIdent s.toName):term)
 `(tactic|(first|simp only[$x,*]|dsimp only|skip))
def ws1:String:="aB b4 bw aL ce cg w_c e7 b7 cj b5 ck w_b w_not dr fD cm cq dt c7 bG fu cu dv c9 fv dw bU cw cy cA bB bC bq bi bj bb dz dA dB dC dD dE dF dG dH dI dJ dL fE cB bn cC fF cD bD bo dM dN cE cF cG List.getElem?_cons_zero List.getElem?_cons_succ Option.some.injEq exists_eq_left' exists_eq_left List.set_cons_zero List.set_cons_succ be V.int.injEq V.bl.injEq V.ref.injEq V.str.injEq List.nil_append List.cons_append"
local macro_rules|`(tactic|walk_at "w")=>wk9 ws1
local macro_rules|`(tactic|symm)=>`(tactic|walk_at "w")
def aT{n:Nat}(h:n<=1000):n<=sizeLine:=OH (aC h)
def lnR{n:Nat}(h:Nat.ble n 1000=true):n<=sizeLine:=aT (OO h)
def IsFl(H:Hp)(a:Addr)(h w g:Int):Prop:=H a=some (.tup [.int h,.int w,.int g])
variable{H:Hp}{p:Addr}
def Same.laid{a:Hp}{o:HO}(s:Same H a)(h:a p=none):Same H (upd a p o):=λb u e=>by
 rw[ah (av (s b u e) h)];exact s b u e
def aP{U:Addr}(O:HO)(h:H U=none):∃ z,upd H U O=z/\Same H z/\z U=some O:=⟨_,rfl,(NP H).laid h,ag⟩
def Same.own{a:Hp}{o:HO}(s:Same H a)(h:H p=none):Same H (upd a p o):=λb u e=>by
 rw[ah (av e h)];exact s b u e
variable{l:∅}{i:Nat}
theorem dU{x:Int}(h:l[i]? =some x):l.getD i 0=x:=by
 rw[List.getD,h];rfl
variable{ns:∅}
theorem uR{k:Int}(h0:0<=k)(h1:k<ns.length):atI (ns.map V.int) k=⇑(ns.getD k.toNat 0):=by
 have e:((k.toNat:Nat):Int)=k:=Int.toNat_of_nonneg h0;have a:k.toNat<ns.length:=by lia
 have:(ns.map V.int)[k.toNat]? =⇑(ns.getD k.toNat 0):=by
  rw[NR,NN a];simp[List.getD,a]
 have q:=gc this;rw[e]at q;exact q
def aZ{α:Type}(l:List α):l.filter (λ_=>true)=l:=P4.mpr λ_ _=>rfl
theorem aK{y:V}(h:(l.map V.int)[i]? =some y):∃ z,l[i]? =some z/\y=.int z:=by
 rw[NR]at h
 cases e:l[i]? with
 | none=>rw[e]at h;cases h
 | some z=>rw[e]at h;cases h;exact⟨z,rfl,rfl⟩
theorem bz{l:List Addr}{y:V}(h:(l.map V.ref)[i]? =some y):∃ z,l[i]? =some z/\y=.ref z:=by
 rw[NR]at h
 cases e:l[i]? with
 | none=>rw[e]at h;cases h
 | some z=>rw[e]at h;cases h;exact⟨z,rfl,rfl⟩
def rP{h w:Int}(h0:1<=h)(h1:h<=6):CMul h w:=.inl ⟨by omega,by omega⟩
theorem iz{a:List Addr}{k:Int}(h0:0<=k)(h:a[k.toNat]? =some p):atI (a.map V.ref) k=↑p:=by
 have e:((k.toNat:Nat):Int)=k:=Int.toNat_of_nonneg h0;have b:(a.map V.ref)[k.toNat]? =↑p:=by rw[NR,h];rfl
 have q:=gc b;rw[e]at q;exact q
section
variable{k:Nat}{lo:Int}{n:Nat}{tt:TT}{te:TE}{fin:Addr->Hp->Prop}{σ0:St}{H1:Hp}{K:Frag}{a:Addr}
theorem mr{n i:Nat}(b:Nat->Bool)(h:i<n)(a:n<=900):((List.range i).filter b).length<=900:=by
 have:=N1 b (List.range i);rw[OU]at this;lia
theorem um (b:Nat->Bool) (f:Nat->V) (s:n<=900)
  (v:∀ i H R,i<n->Same H1 H->(∀ d,Same H d->R (b i) d)->tt (σ0.set k ⇑(lo+i)) H R)
  (he:∀ i H Q,i<n->b i=true->Same H1 H->(∀ d,Same H d->Q (f i) d)->te (σ0.set k ⇑(lo+i)) H Q)
  (t:∀ l H,H1 l=none->Same H1 H->H l=↥(((List.range n).filter b).map f)->fin l H):
  CompR (Itr lo n) (gName k) tt te fin σ0 H1:=by
 refine vO (λl i σ H=>(σ=σ0\/∃ o,σ=σ0.set k o)/\Same H1 H/\H l=↥(((List.range i).filter b).map f)) (λl c=>⟨.inl rfl,(NP H1).laid c,by rw[ag];rfl⟩) ?_ (λl σ H c p=>t l H c p.2.1 p.2.2);rintro l i σ H c h ⟨r,s1,u⟩;rw[aL]
 have e:σ.set k ⇑(lo+i)=σ0.set k ⇑(lo+i):=by
  rcases r with rfl | ⟨o,rfl⟩
  . rfl
  . exact Pk ..
 rw[e];refine v i H _ h s1 λq g=>?_;have a:=g _ _ u
 cases j:b i with
 | false=>
  rw[Og NV];refine⟨.inr ⟨_,rfl⟩,s1.trans g,?_⟩;rw[OS,Oz,OI,j]
  simpa using a
 | true=>
  rw[Os rfl];refine he i q _ h j (s1.trans g) λw m=>⟨_,m _ _ a,by rw[NM];exact aC (NY (mr b h s) #[1]),.inr ⟨_,rfl⟩,((s1.trans g).trans m).own c,?_⟩;rw[ag,OS,Oz,OI,j];simp
theorem bE {xs:List V} (b:Nat->Bool) (f:Nat->V) (t:xs.length<=900) (u:SqL K H1 a xs)
  (y:∀ i x H R,xs[i]? =some x->Same H1 H->(∀ g,Same H g->R (b i) g)->tt (σ0.set k (some x)) H R)
  (he:∀ i x H Q,xs[i]? =some x->b i=true->Same H1 H->(∀ g,Same H g->Q (f i) g)->te (σ0.set k (some x)) H Q)
  (v:∀ l H,H1 l=none->Same H1 H->H l=↥(((List.range xs.length).filter b).map f)->fin l H):
  CompR (Itl K a) (gName k) tt te fin σ0 H1:=by
 refine nr (xs:=xs) (λl i σ H=>(σ=σ0\/∃ o,σ=σ0.set k o)/\Same H1 H/\H l=↥(((List.range i).filter b).map f)) (λl d=>⟨.inl rfl,(NP H1).laid d,by rw[ag];rfl⟩) (λl i σ H _ _ p=>p.2.1.seq u) ?_ (λl σ H d p=>v l H d p.2.1 p.2.2);rintro l i x σ H d j ⟨r,s1,w⟩;have s:i<xs.length:=(NO.mp j).1;rw[aL]
 have e:σ.set k (some x)=σ0.set k (some x):=by
  rcases r with rfl | ⟨o,rfl⟩
  . rfl
  . exact Pk ..
 rw[e];refine y i x H _ j s1 λq h=>?_;have c:=h _ _ w
 cases m:b i with
 | false=>
  rw[Og NV];refine⟨.inr ⟨_,rfl⟩,s1.trans h,?_⟩;rw[OS,Oz,OI,m]
  simpa using c
 | true=>
  rw[Os rfl];refine he i x q _ j m (s1.trans h) λz n=>⟨_,n _ _ c,by rw[NM];exact aC (NY (mr b s t) #[1]),.inr ⟨_,rfl⟩,((s1.trans h).trans n).own d,?_⟩;rw[ag,OS,Oz,OI,m];simp
def uo (b:Nat->Bool) (f:Nat->Int) (d:n<=900)
  (h:∀ i H R,i<n->Same H1 H->(∀ a,Same H a->R (b i) a)->tt (σ0.set k ⇑(lo+i)) H R)
  (he:∀ i H Q,i<n->b i=true->Same H1 H->(∀ a,Same H a->Q (.int (f i)) a)->te (σ0.set k ⇑(lo+i)) H Q)
  (e:∀ l H,H1 l=none->Same H1 H->H l=↥((((List.range n).filter b).map f).map V.int)->fin l H):
  CompR (Itr lo n) (gName k) tt te fin σ0 H1:=
 um b (λi=>.int (f i)) d h he λl H c s1 g=>e l H c s1 (by rw[Op];exact g)
theorem EX(b:Int->Bool)(f:Int->Int)(xs:∅):((List.range xs.length).filter λi=>b (xs.getD i 0)).map (λi=>V.int (f (xs.getD i 0)))=((xs.filter b).map f).map V.int:=by
 have e:xs=(List.range xs.length).map λi=>xs.getD i 0:=by
  refine O6 λi=>?_;rw[NR];by_cases h:i<xs.length
  . rw[OQ h,NN h];simp[List.getD,h]
  . rw[Oi #[4],Oi (by simpa using h)];rfl
 conv=>rhs;rw[e]
 rw[PN,Op,Op];rfl
theorem aY {xs:∅} (b:Int->Bool) (f:Int->Int) (n:xs.length<=900) (o:SqL K H1 a (xs.map V.int))
  (q:∀ x H R,x∈xs->Same H1 H->(∀ c,Same H c->R (b x) c)->tt (σ0.set k ⇑x) H R)
  (he:∀ x H Q,x∈xs->b x=true->Same H1 H->(∀ c,Same H c->Q (.int (f x)) c)->te (σ0.set k ⇑x) H Q)
  (p:∀ l H,H1 l=none->Same H1 H->H l=↥(((xs.filter b).map f).map V.int)->fin l H):
  CompR (Itl K a) (gName k) tt te fin σ0 H1:=by
 refine bE (xs:=xs.map V.int) (λi=>b (xs.getD i 0)) (λi=>.int (f (xs.getD i 0))) (by rw[NM];exact n) o ?_ ?_ ?_
 . intro i x H R e s1 h;obtain⟨z,d,rfl⟩:=aK e;rw[dU d]at h;exact q z H R (NS d) s1 h
 . intro i x H Q e g s1 h;obtain⟨z,d,rfl⟩:=aK e;rw[dU d]at h g;exact he z H Q (NS d) g s1 h
 . intro l H m s1 j;refine p l H m s1 ?_;rw[NM]at j;rw[j,EX]
structure NewAt(H1 H:Hp)(l:Addr)(as:List Addr)(os:List HO):Prop where
 len:as.length=os.length
 nd:as.Nodup
 nl:l∉as
 fr:∀ a∈as,H1 a=none
 at_:∀(j:Nat) (a:Addr) (o:HO),as[j]? =some a->os[j]? =some o->H a=some o
def NewAt.nil{H1 H:Hp}{l:Addr}:NewAt H1 H l [] [] where
 len:=rfl
 nd:=PU
 nl:=by simp
 fr:=λa h=>nomatch h
 at_:=λj a o h=>by simp at h
def NewAt.same{H1 H b:Hp}{l:Addr}{c:List Addr}{os:List HO}(x:NewAt H1 H l c os)(s:Same H b):NewAt H1 b l c os:=
 ⟨x.len,x.nd,x.nl,x.fr,λj a o h1 h2=>s _ _ (x.at_ j a o h1 h2)⟩
theorem NewAt.mem{H1 H:Hp}{l:Addr}{c:List Addr}{os:List HO}(x:NewAt H1 H l c os){a:Addr}(h:a∈c):∃ o,H a=some o:=by
 obtain⟨j,d,e⟩:=Pe.mp h;have b:j<os.length:=by rw[← x.len];exact d
 exact⟨os[j],x.at_ j a os[j] (by rw[NN d,e]) (NN b)⟩
theorem NewAt.more{H1 H k:Hp}{l p:Addr}{h:List Addr}{os:List HO}{o u:HO}(x:NewAt H1 H l h os)(s1:Same H1 H)(s:Same H k)(g:H p=none)(e:k p=some o)(r:H l=some u)(t:HO):NewAt H1 (upd k l t) l (h++[p]) (os++[o]):=by
 have d:p≠l:=λz=>by rw[z,r]at g;cases g
 refine⟨by simp[x.len],?_,?_,?_,?_⟩
 . refine PC.mpr ⟨x.nd,by simp,λa c b w z=>?_⟩;rw[NX.mp w]at z;obtain⟨m,e2⟩:=x.mem c;rw[z,g]at e2;cases e2
 . intro f;rcases Of.mp f with f | f
   . exact x.nl f
   . exact d (NX.mp f).symm
 . intro a c;rcases Of.mp c with c | c
   . exact x.fr a c
   . rw[NX.mp c]
     cases q:H1 p with
     | none=>rfl
     | some v=>rw[s1 _ _ q]at g;cases g
 . intro j a m h1 h2;have A:=x.len;by_cases y:j<h.length
   . rw[Ow y]at h1;rw[Ow #[4]]at h2;have i:a≠l:=λz=>x.nl (z ▸ NS h1);rw[ah i];exact s _ _ (x.at_ j a m h1 h2)
   . rw[Ot #[4]]at h1;rw[Ot #[4]]at h2
     have n:j-h.length=0:=by
      have:=(NO.mp h1).1;simp at this;lia
     rw[n]at h1;rw[show j-os.length=0 by lia]at h2;simp at h1 h2;subst h1 h2;rw[ah d];exact e
theorem uq (b:Nat->Bool) (o:Nat->HO) (v:n<=900)
  (A:∀ i H R,i<n->Same H1 H->(∀ g,Same H g->R (b i) g)->tt (σ0.set k ⇑(lo+i)) H R)
  (he:∀ i H Q,i<n->b i=true->Same H1 H->(∀ a g,Same H g->H a=none->g a=some (o i)->Q (.ref a) g)->te (σ0.set k ⇑(lo+i)) H Q)
  (D:∀ l c H,H1 l=none->Same H1 H->H l=↥(c.map V.ref)->NewAt H1 H l c (((List.range n).filter b).map o)->fin l H):
  CompR (Itr lo n) (gName k) tt te fin σ0 H1:=by
 refine vO (λl i σ H=>(σ=σ0\/∃ u,σ=σ0.set k u)/\Same H1 H/\∃ c:List Addr,H l=↥(c.map V.ref)/\NewAt H1 H l c (((List.range i).filter b).map o)) (λl h=>⟨.inl rfl,(NP H1).laid h,[],by rw[ag];rfl,NewAt.nil⟩) ?_ (λl σ H h ⟨_,s1,c,s,x⟩=>D l c H h s1 s x);rintro l i σ H h t ⟨C,s1,c,s,x⟩;rw[aL]
 have e:σ.set k ⇑(lo+i)=σ0.set k ⇑(lo+i):=by
  rcases C with rfl | ⟨u,rfl⟩
  . rfl
  . exact Pk ..
 rw[e];refine A i H _ t s1 λB q=>?_;have f:=q _ _ s;have m:=x.same q;have d:=s1.trans q
 cases r:b i with
 | false=>
  rw[Og NV];refine⟨.inr ⟨_,rfl⟩,d,c,f,?_⟩;rw[OS,Oz,OI,r]
  simpa using m
 | true=>
  rw[Os rfl];refine he i B _ t r d λp E j z w=>⟨_,j _ _ f,?_,.inr ⟨_,rfl⟩,(d.trans j).own h,c++[p],?_,?_⟩
  . rw[NM,m.len,NM];exact aC (NY (mr b t v) #[1])
  . rw[ag];simp
  . have y:=m.more d j z w f (.lst (c.map V.ref++[V.ref p]));rw[OS,Oz,OI,r]
    simpa using y
theorem qm {xs:List V} (b:Nat->Bool) (o:Nat->HO) (v:xs.length<=900) (u:SqL K H1 a xs)
  (B:∀ i x H R,xs[i]? =some x->Same H1 H->(∀ g,Same H g->R (b i) g)->tt (σ0.set k (some x)) H R)
  (he:∀ i x H Q,xs[i]? =some x->b i=true->Same H1 H->(∀ a g,Same H g->H a=none->g a=some (o i)->Q (.ref a) g)->te (σ0.set k (some x)) H Q)
  (F:∀ l c H,H1 l=none->Same H1 H->H l=↥(c.map V.ref)->NewAt H1 H l c (((List.range xs.length).filter b).map o)->fin l H):
  CompR (Itl K a) (gName k) tt te fin σ0 H1:=by
 refine nr (xs:=xs) (λl i σ H=>(σ=σ0\/∃ t,σ=σ0.set k t)/\Same H1 H/\∃ c:List Addr,H l=↥(c.map V.ref)/\NewAt H1 H l c (((List.range i).filter b).map o)) (λl h=>⟨.inl rfl,(NP H1).laid h,[],by rw[ag];rfl,NewAt.nil⟩) (λl i σ H _ _ p=>p.2.1.seq u) ?_ (λl σ H h ⟨_,s1,c,s,x⟩=>F l c H h s1 s x);rintro l i y σ H h m ⟨D,s1,c,s,x⟩;have E:i<xs.length:=(NO.mp m).1;rw[aL]
 have e:σ.set k (some y)=σ0.set k (some y):=by
  rcases D with rfl | ⟨t,rfl⟩
  . rfl
  . exact Pk ..
 rw[e];refine B i y H _ m s1 λC q=>?_;have f:=q _ _ s;have n:=x.same q;have d:=s1.trans q
 cases r:b i with
 | false=>
  rw[Og NV];refine⟨.inr ⟨_,rfl⟩,d,c,f,?_⟩;rw[OS,Oz,OI,r]
  simpa using n
 | true=>
  rw[Os rfl];refine he i y C _ m r d λp G j A w=>⟨_,j _ _ f,?_,.inr ⟨_,rfl⟩,(d.trans j).own h,c++[p],?_,?_⟩
  . rw[NM,n.len,NM];exact aC (NY (mr b E v) #[1])
  . rw[ag];simp
  . have z:=n.more d j A w f (.lst (c.map V.ref++[V.ref p]));rw[OS,Oz,OI,r]
    simpa using z
end
theorem DVs.of_get{K:Frag}{H:Hp}:∀{xs:List V} {a:List PyData},xs.length=a.length->(∀(i:Nat) x d,xs[i]? =some x->a[i]? =some d->DV K H x d)->DVs K H xs a
 | [],[],_,_=>.nil
 | [],_::_,h,_=>by simp at h
 | _::_,[],h,_=>by simp at h
 | x::xs,d::a,h,f=>.cons (f 0 x d rfl rfl) (DVs.of_get (by simpa using h) λi y e h1 h2=>f (i+1) y e (by simpa using h1) (by simpa using h2))
theorem pb:∀{a:List PyData},(∀ d∈a,PyData.canLay0 d=true)->PyData.canLayAll0 a=true
 | [],_=>rfl
 | d::r,h=>by rw[PyData.canLayAll0,h d Oa,pb λe he=>h e (N5 _ he)];rfl
theorem kR{n:Nat}:∀{a:List PyData},(∀ d∈a,PyData.depth d<=n)->PyData.depthAll a<=n
 | [],_=>OP _
 | d::r,h=>by rw[PyData.depthAll];exact Nat.max_le.mpr ⟨h d Oa,kR λe he=>h e (N5 _ he)⟩
theorem xM{α:Type}[DecidableEq α](g:α->PyData)(c:∀ a b,PyData.eqv (g a) (g b)=decide (a=b)):∀ xs ys:List α,PyData.eqvAll (xs.map g) (ys.map g)=decide (xs=ys)
 | [],[]=>rfl
 | [],_::_=>rfl
 | _::_,[]=>rfl
 | x::xs,y::ys=>by
  rw[OD,OD,PyData.eqvAll,c,xM g c xs ys,Om];simp
structure IsLL(H:Hp)(l:Addr)(as:List Addr)(NH:List ∅):Prop where
 top:H l=↥(as.map V.ref)
 len:as.length=NH.length
 at_:∀(j:Nat) (a:Addr) (xs:∅),as[j]? =some a->NH[j]? =some xs->H a=↥(xs.map V.int)
def IsLL.same{c:Hp}{l:Addr}{d:List Addr}{b:List ∅}(x:IsLL H l d b)(s:Same H c):IsLL c l d b:=
 ⟨s _ _ x.top,x.len,λj a e h1 h2=>s _ _ (x.at_ j a e h1 h2)⟩
def lU(K:Frag):Sp:=#[3,∃ a h w g c,vs=[.ref a,.int c]/\IsFl H a h w g/\0<w/\w<100/\∀ p,H p=none->Q (.ref p) (upd H p (.tup [.int (c/w),.int (c%w)]))]
def qo(K:Frag):TS:=#[":gldk0ef#1 h#2 jOad;12adS12c"]
abbrev eD9(Q:VK):Ends:={nx:=λ_ a=>Q .non a,rt:=Q}
variable{K:Frag}{vs:List V}
theorem Dq{Q:VK}{E:XK}(h:lU K vs H Q E):qo K (eD9 Q) (start ["floor","cell","wide"] vs) H:=by
 obtain⟨a,h,w,g,c,rfl,d,b,e,k⟩:=h;exists qo;rw[iw d];refine a9 (a:=V.int w) rfl ?_;exists⟨⟨b,by lia⟩,b,lnR rfl,k⟩
theorem uS(h w c:Int):(besL h w c).length<=4:=by
 unfold besL;simp only[Oy]
 split <;> split <;> split <;> split <;> simp
def fA(K:Frag):Sp:=#[3,∃ a h w g c,vs=[.ref a,.int c]/\IsFl H a h w g/\0<w/\w<100/\∀ l b,Same H b->H l=none->b l=↥((besL h w c).map V.int)->Q (.ref l) b]
def rQ(K:Frag):TS:=#[":gldk0ef#0 h#2 gldk0ef#1 h#3 gl,'fba0a1ch#4 gltch#5 gnmd>dk4ef#0 ef#0 PHbFT5adU13cognmd>dk4ef#1 ef#0 PHbFT5adU1ef#1 cognmd<dk4ef#1 dU3ef#1 PHbFT5adC1ef#1 cognmd<dk4ef#0 dU2ef#1 PHbFT5adC13coj5"]
theorem vV {D:Ends} {σ:St} {t:TT} {e:TE} {b:Bool} {v:Int} {l:Addr} (f:σ[i]? =some ↑l) (h:∀ R,R b H->t σ H R) (a:H l=↥(ns.map V.int)) (j:ns.length<=900)
  (he:∀ Q,Q (.int v) H->e σ H Q) (k:∀ d,(d l=↥((ns++if b=true then [v] else []).map V.int))->(∀ c,c≠l->d c=H c)->D.nx σ d):
  tIfS t (tDrop (tBM K "list" bv (tVar i) (tCons e tNil))) tNext D σ H:=by
 rw[az];refine h _ ?_
 cases b with
 | false=>
  refine iteF ?_;rw[b4];exact k H (by simpa using a) λ_ _=>rfl
 | true=>
  refine iteT ?_;rw[b5,fv,JX];refine⟨_,f,a7 a,?_⟩;rw[bG];refine he _ ?_;rw[c7,db a];refine⟨by rw[NM];exact aC #[4],k _ ?_ λc g=>ah g⟩;rw[ag];simp
theorem EY{Q:VK}{E:XK}(h:fA K vs H Q E):rQ K (eD9 Q) (start ["floor","cell","high","wide","spot","found"] vs) H:=by
 obtain⟨a,h,w,g,c,rfl,y,B,I,k⟩:=h;exists rQ;rw[iw y];refine a9 (a:=V.int h) rfl ?_;symm;rw[iw y];refine a9 (a:=V.int w) rfl ?_;exists⟨a,h,w,g,c,rfl,y,B,I,λp G=>?_⟩;exists⟨aT #[1],λl t=>?_⟩;have m:p≠l:=λe=>by rw[e,ag]at t;cases t
 have r:H l=none:=by rw[ah m.symm]at t;exact t
 have j:∀ z:Hp,(∀ d,d≠l->z d=upd H p (.tup [.int (c/w),.int (c%w)]) d)->z p=some (.tup [.int (c/w),.int (c%w)]):=λz e=>by rw[e p m,ag]
 refine vV (ns:=[]) (l:=l) (i:=5) (b:=decide (0<c/w)) (v:=c-w) rfl (λR q=>?_) ag #[1] (λQ q=>?_) λN e1 s=>?_
 . symm;rw[iw (j _ λd f=>ah f)];refine a9 rfl ?_;symm;exact q
 . symm;exact q
 exists vV (l:=l) (i:=5) (b:=decide (0<c%w)) (v:=c-1) rfl (λR q=>?_) e1 (by simp;split <;> simp) (λQ q=>?_) λL e2 u=>?_
 . symm;rw[iw (j _ λd f=>by rw[s d f,ah f])];refine a9 rfl ?_;symm;exact q
 . symm;exact q
 exists vV (l:=l) (i:=5) (b:=decide (c%w<w-1)) (v:=c+1) rfl (λR q=>?_) e2 (by simp;split <;> split <;> simp) (λQ q=>?_) λM J A=>?_
 . symm;rw[iw (j _ λd f=>by rw[u d f,s d f,ah f])];refine a9 rfl ?_;symm;exact q
 . symm;exact q
 exists vV (l:=l) (i:=5) (b:=decide (c/w<h-1)) (v:=c+w) rfl (λR q=>?_) J (by simp;split <;> split <;> split <;> simp) (λQ q=>?_) λC F D=>?_
 . symm;rw[iw (j _ λd f=>by rw[A d f,u d f,s d f,ah f])];refine a9 rfl ?_;symm;exact q
 . symm;exact q
 exists k l C (λb o e=>?_) r ?_
 . have n:b≠l:=av e r;have x:b≠p:=av e G;rw[D b n,A b n,u b n,s b n,ah n,ah x];exact e
 . rw[F];unfold besL;simp[NU]
structure FlOk(h w g:Int):Prop where
 h0:1<=h
 h1:h<=6
 w0:1<=w
 w1:w<=6
 m:h*w<=16
 g0:1<=g
 g1:g<=6
section
variable{K:Frag}{H:Hp}{Q:VK}
theorem vW{p:Addr}{xs:List V}(b:H p=↥xs)(h:Q (.bl true) H):kIsi [.ref p,.ty "list"] H Q:=by
 refine⟨by decide,a9 (a:="list") (by unfold mn;dsimp only;rw[b]) ?_⟩;rw[show isTy "list" "list"=true by decide];exact h
theorem AC{p:Addr}{xs:List V}(b:H p=some (.tup xs))(h:Q (.bl true) H):kIsi [.ref p,.ty "tuple"] H Q:=by
 refine⟨by decide,a9 (a:="tuple") (by unfold mn;dsimp only;rw[b]) ?_⟩;rw[show isTy "tuple" "tuple"=true by decide];exact h
theorem Gr{p q:Addr}{xs ys:List V}(c:H p=↥xs)(b:H q=↥ys)(a:xs.length+ys.length<=1000)(h:Q .non (upd H p (.lst (xs++ys)))):ma (.ref p) [.ref q] H Q:=by
 show bnd (unM (H p)) _;rw[c];show bnd (unM (H q)) _;rw[b];exact⟨OH (aC a),h⟩
theorem Hy{p:Addr}{xs:List V}(a:H p=↥xs)(h:Q .non (upd H p (.lst []))):vM (.ref p) [] H Q:=by
 show bnd (unM (H p)) _;rw[a];exact h
def Jf{n:Nat}{t:TGs}{σ:St}{k:St->Hp->Prop}{p:Addr}{xs:List V}(b:H p=some (.tup xs))(a:xs.length=n)(h:t xs σ H k):gTup K n t (.ref p) σ H k:=⟨p,xs,rfl,Ry b,a,h⟩
theorem Gs{i j:Nat}{x y:V}{σ:St}{k:St->Hp->Prop}:gCons (gName i) (gCons (gName j) gNil) [x,y] σ H k=k ((σ.set i (some x)).set j (some y)) H:=by
 refine propext ⟨?_,λh=>⟨x,[y],rfl,y,[],rfl,rfl,h⟩⟩;rintro⟨v,r,e,a,b,e2,c,h⟩;cases e;cases e2;exact h
end
end L2
namespace L2
open PySem PySem.Builtin PySem.Builtin.Str
def tx(l:List Nat):Str:=⟨l.toArray⟩
theorem vX(l:List Nat):(tx l).cps.toList=l:=by simp[tx]
theorem JZ(x:Str):tx x.cps.toList=x:=by cases x;simp[tx]
theorem EZ{a b:List Nat}(h:tx a=tx b):a=b:=by rw[← vX a,h,vX]
theorem mt(l:List Nat):(tx l).length=l.length:=by simp[tx,Str.length]
theorem E2(a b:List Nat):tx a++tx b=tx (a++b):=by
 refine Str.ext' ?_;rw[Str.cps_append];simp[tx]
theorem bx(a b:List Nat):decide (tx a=tx b)=decide (a=b):=by
 by_cases h:a=b
 . subst h;simp
 . have:¬ tx a=tx b:=λe=>h (EZ e);rw[NQ h,NQ this]
def catL(c:Nat):List (List Nat)->List Nat
 | []=>[]
 | [x]=>x
 | x::y::r=>x++c::catL c (y::r)
theorem xN(c:Nat):∀ ts:List (List Nat),Str.join (tx [c]) (ts.map tx)=tx (catL c ts)
 | []=>rfl
 | [x]=>rfl
 | x::y::r=>by
  show tx x++tx [c]++Str.join (tx [c]) ((y::r).map tx)=_;rw[xN c (y::r),E2,E2];show tx _=tx (x++c::catL c (y::r));rw[O5];rfl
def Gu(a:Str)(ts:List Str):Txt.join a ts=Str.join a ts:=StrLaws.glued_eq_join a ts
theorem CS{c:Nat}:∀{a b x y:List Nat},c∉a->c∉b->a++c::x=b++c::y->a=b/\x=y
 | [],[],_,_,_,_,h=>⟨rfl,by simpa using h⟩
 | [],b::bs,_,_,_,hb,h=>by
  simp at h;exact absurd (N4.mpr (.inl h.1)) hb
 | a::as,[],_,_,ha,_,h=>by
  simp at h;exact absurd (N4.mpr (.inl h.1.symm)) ha
 | a::as,b::bs,x,y,ha,hb,h=>by
  simp at h;have:=CS (λz=>ha (N5 _ z)) (λz=>hb (N5 _ z)) h.2;exact⟨by rw[h.1,this.1],this.2⟩
theorem AD{c:Nat}:∀{x:List Nat} {r:List (List Nat)} {y:List Nat},c∈catL c (x::y::r):=by
 intro x r y;show c∈x++c::_;simp
theorem AE{c:Nat}:∀{xs ys:List (List Nat)},xs≠[]->ys≠[]->(∀ x∈xs,c∉x)->(∀ y∈ys,c∉y)->catL c xs=catL c ys->xs=ys
 | [],_,h,_,_,_,_=>absurd rfl h
 | _,[],_,h,_,_,_=>absurd rfl h
 | [x],[y],_,_,_,_,h=>by
  have h':x=y:=h;rw[h']
 | [x],y::z::r,_,_,hx,_,h=>by
  have h':x=catL c (y::z::r):=h;exact absurd (h' ▸ AD) (hx x Oa)
 | x::z::r,[y],_,_,_,hy,h=>by
  have h':catL c (x::z::r)=y:=h;exact absurd (h' ▸ AD) (hy y Oa)
 | x::z::r,y::u::s,_,_,hx,hy,h=>by
  obtain⟨e1,e2⟩:=CS (hx x Oa) (hy y Oa) (show x++c::catL c (z::r)=y++c::catL c (u::s) from h);rw[e1,AE (by simp) (by simp) (λw hw=>hx w (N5 _ hw)) (λw hw=>hy w (N5 _ hw)) e2]
theorem Gv(x y:Str):Txt.split x y≠[]:=by
 intro h;unfold Txt.split at h
 split at h
 . cases h
 . split at h
   . cases h
   . rw[StrLaws.partsBetween_eq]at h;obtain⟨p,r,e⟩:=StrLaws.partsFrom_ne x y.length 0 (occurrences x y 0 x.length (x.length+1));rw[e]at h;cases h
theorem Gw{c:Nat}{NC:List (List Nat)}(a:NC≠[])(d:∀ r∈NC,c∉r):Txt.split (tx (catL c NC)) (tx [c])=NC.map tx:=by
 have h1:=StrLaws.join_split (tx (catL c NC)) (tx [c]);have h2:∀ p∈Txt.split (tx (catL c NC)) (tx [c]),c∉p.cps.toList:=StrLaws.split_free _ c;have h3:=Gv (tx (catL c NC)) (tx [c]);generalize Txt.split (tx (catL c NC)) (tx [c])=S at*
 have e:S=(S.map (·.cps.toList)).map tx:=by
  rw[Op]
  conv=>lhs;rw[← Rz S]
  exact PJ λx _=>(JZ x).symm
 rw[e,xN]at h1;have h4:=EZ h1;have h5:=AE (c:=c) (xs:=S.map (·.cps.toList)) (ys:=NC) (by simpa using h3) a (λx b=>by obtain⟨p,f,rfl⟩:=N9.mp b;exact h2 p f) d h4;rw[e,h5]
end L2
namespace L2
end L2
namespace L2
open PySem PySem.Spec PyProof.Rows
local macro_rules|`(tactic|walk_at "w")=>wk9 ws1
local macro_rules|`(tactic|symm)=>`(tactic|walk_at "w")
section
variable{k:Nat}{tt:TT}{te:TE}{fin:Addr->Hp->Prop}{σ0:St}{H1:Hp}
theorem E3 {cs:List Nat} (b:Nat->Bool) (f:Nat->V) (u:cs.length<=900)
  (v:∀ i c H R,cs[i]? =some c->Same H1 H->(∀ a,Same H a->R (b i) a)->tt (σ0.set k (some (.str (tx [c])))) H R)
  (he:∀ i c H Q,cs[i]? =some c->b i=true->Same H1 H->(∀ a,Same H a->Q (f i) a)->te (σ0.set k (some (.str (tx [c])))) H Q)
  (z:∀ l H,H1 l=none->Same H1 H->H l=↥(((List.range cs.length).filter b).map f)->fin l H):
  CompR (Its (tx cs)) (gName k) tt te fin σ0 H1:=by
 intro l p;have j:(tx cs).cps.size=cs.length:=by simp[tx]
 refine⟨λi m σ H=>m=cs.length-i/\i<=cs.length/\(σ=σ0\/∃ o,σ=σ0.set k o)/\Same H1 H/\H l=↥(((List.range i).filter b).map f),⟨cs.length,by simp,OP _,.inl rfl,(NP H1).laid p,by rw[ag];rfl⟩,?_⟩;rintro i m σ H ⟨rfl,C,y,s1,s⟩;by_cases d:i<cs.length
 . refine .inr ⟨by show i < (tx cs).cps.size;rw[j];exact d,λσ H=>(σ=σ0\/∃ o,σ=σ0.set k o)/\Same H1 H/\H l=↥(((List.range (i+1)).filter b).map f),λD a t=>⟨cs.length - (i+1),by lia,rfl,d,t⟩,?_⟩;rintro x a ⟨rfl,c,A,rfl⟩;have g:cs[i]? =some c:=by simpa [tx] using A
   show gName k (.str (tx [c])) σ a _;rw[aL]
   have e:σ.set k (some (.str (tx [c])))=σ0.set k (some (.str (tx [c]))):=by
    rcases y with rfl | ⟨o,rfl⟩
    . rfl
    . exact Pk ..
   rw[e];refine v i c a _ g s1 λw n=>?_;have h:=n _ _ s
   cases q:b i with
   | false=>
    rw[Og NV];refine⟨.inr ⟨_,rfl⟩,s1.trans n,?_⟩;rw[OS,Oz,OI,q]
    simpa using h
   | true=>
    rw[Os rfl];refine he i c w _ g q (s1.trans n) λB r=>⟨_,r _ _ h,by rw[NM];exact aC (NY (mr b d u) #[1]),.inr ⟨_,rfl⟩,((s1.trans n).trans r).own p,?_⟩;rw[ag,OS,Oz,OI,q];simp
 . have e:i=cs.length:=by lia
   subst e;exact .inl ⟨by show(tx cs).cps.size<=_;rw[j];exact NZ _,z l H p s1 s⟩
end
theorem kY{α:Type}(xs:∅)(g:Int->α):(List.range xs.length).map (λi=>g (xs.getD i 0))=xs.map g:=by
 have e:xs=(List.range xs.length).map λi=>xs.getD i 0:=by
  refine O6 λi=>?_;rw[NR];by_cases h:i<xs.length
  . rw[OQ h,NN h];simp[List.getD,h]
  . rw[Oi #[4],Oi (by simpa using h)];rfl
 conv=>rhs;rw[e]
 rw[Op];rfl
theorem AF{a:Str}{ts:List Str}(h1:ts.length<=1000)(h2:∀ t∈ts,t.length<=1000)(h3:a.length<=10):JoinOk a ts=true:=by
 unfold JoinOk;rw[Bool.not_eq_true'];refine StrLaws.joinFits (B:=1000) h2 ?_;have c:ts.length*1000<=1000*1000:=Qm _ h1;have b:ts.length*a.length<=1000*10:=RA h1 h3;lia
abbrev rIsN:R2:=λx y H Q=>y=.non/\Q (.bl (decide (x=.non))) H
abbrev rNotN:R2:=λx y H Q=>y=.non/\Q (.bl (!decide (x=.non))) H
def kStr:List V->Hp->VK->Prop
 | [.int i],H,Q=>i.natAbs.log2<1920/\Q (.str (Str.ofString (toString i))) H
 | _,_,_=>False
section
variable{X:Cx}
theorem E4:CallR X (.type "str") kStr:=by
 intro d s σ H c e Q I r h;unfold kStr at h
 split at h
 . obtain⟨b,q⟩:=h
   cases r with
   | cons r0 a=>
    cases a;obtain⟨t,rfl⟩:=r0;exact PySem.P.str_of_int b ⟨.str _,H,I.tok _,⟨_,rfl⟩,q⟩
 . exact h.elim
end
section
variable{K:Frag}{H:Hp}{Q:VK}
theorem fG{x:V}:rIsN x .non H Q=Q (.bl (decide (x=.non))) H:=by simp[rIsN]
theorem dZ{x:V}:rNotN x .non H Q=Q (.bl (!decide (x=.non))) H:=by simp[rNotN]
def fj{i:Int}:kStr [.int i] H Q=(i.natAbs.log2<1920/\Q (.str (Str.ofString (toString i))) H):=rfl
end
structure Bt2(mg:Str->Option Value):Prop extends Bt mg where
 all_:mg "all"=none
 sum_:mg "sum"=none
 enumerate_:mg "enumerate"=none
section
variable{K:Frag}{H:Hp}{Q:VK}{D:Ends}{σ:St}{g:TG}{tb:TS}{ta:TA}{ix:List (Option Nat)}{tt:TT}{te tf:TE}{k:Nat}
def fk:tIf tt te tf σ H Q=tt σ H λc a=>if c=true then te σ a Q else tf σ a Q:=rfl
def bJ:tComp ix (tN ta) g tt te σ H Q=ta σ H λvs a=>∃ i j:Int,vs=[.int i,.int j]/\(-(2^62)<=i/\i<2^62/\ -(2^62)<=j/\j<2^62)/\CompR (Itr i (j-i).toNat) g tt te (λl b=>Q (.ref l) b) (subσ ix σ) a:=rfl
def bu:sComp k ix (tN ta) g tt te D σ H=ta σ H λvs a=>∃ i j:Int,vs=[.int i,.int j]/\(-(2^62)<=i/\i<2^62/\ -(2^62)<=j/\j<2^62)/\CompR (Itr i (j-i).toNat) g tt te (λl b=>D.nx (σ.set k ↑l) b) (subσ ix σ) a:=rfl
theorem isiE{x:V}{n t:String}{b:Bool}(a:mn H x=some t)(c:tQ n=true)(d:isTy t n=b):kIsi [x,.ty n] H Q=Q (.bl b) H:=by
 subst d;show(tQ n=true/\bnd (mn H x) λt=>Q (.bl (isTy t n)) H)=_;rw[a];simp only[c,true_and,be]
def bK{i:Int}:kIsi [.int i,.ty "int"] H Q=Q (.bl true) H:=isiE (t:="int") rfl #[1] #[1]
def bL{i:Int}:kIsi [.int i,.ty "bool"] H Q=Q (.bl false) H:=isiE (t:="int") rfl #[1] #[1]
def bM{i:Int}:kIsi [.int i,.ty "str"] H Q=Q (.bl false) H:=isiE (t:="int") rfl #[1] #[1]
def bN{i:Bool}:kIsi [.bl i,.ty "bool"] H Q=Q (.bl true) H:=isiE (t:="bool") rfl #[1] #[1]
def bO{i:Bool}:kIsi [.bl i,.ty "int"] H Q=Q (.bl true) H:=isiE (t:="bool") rfl #[1] #[1]
def bP{i:Str}:kIsi [.str i,.ty "str"] H Q=Q (.bl true) H:=isiE (t:="str") rfl #[1] #[1]
def bQ{i:Bool}:kIsi [.bl i,.ty "str"] H Q=Q (.bl false) H:=isiE (t:="bool") rfl #[1] #[1]
def dk{A B:Prop}:(if true=true then A else B)=A:=Os rfl
def dm{A B:Prop}:(if false=true then A else B)=B:=Og NV
theorem dn{i:Int}:rU (λi=>.int (-i)) (.int i) H Q=Q (.int (-i)) H:=by
 refine propext ⟨?_,λh=>⟨i,rfl,h⟩⟩;rintro⟨j,e,h⟩;cases e;exact h
theorem ixT{p:Addr}{i:Int}{xs:List V}{v:V}(h:H p=some (.tup xs))(e:atI xs i=some v)(q:Q v H):cIx (.ref p) (.int i) H Q:=by
 rw[iw h];exact a9 e q
theorem ixL{p:Addr}{i:Int}{xs:List V}{v:V}(h:H p=↥xs)(e:atI xs i=some v)(q:Q v H):cIx (.ref p) (.int i) H Q:=by
 rw[G4 h];exact a9 e q
def ixI{p:Addr}{i:Int}{ns:∅}(h:H p=↥(ns.map V.int))(h0:0<=i)(h1:i<ns.length)(q:Q (.int (ns.getD i.toNat 0)) H):cIx (.ref p) (.int i) H Q:=ixL h (uR h0 h1) q
end
def cMulB:R2
 | .int i,.int j,H,Q=>IntMulOk i j/\Q (.int (i*j)) H
 | _,_,_,_=>False
end L2
namespace Att
open PySem PySem.W PySem.Calls PyProof.Rows
end Att
namespace L2
open PySem PySem.Spec PyProof.Rows
section
variable{K:Frag}{H:Hp}{Q:VK}{D:Ends}{σ:St}
def Kn{i j:Int}:cMulB (.int i) (.int j) H Q=(IntMulOk i j/\Q (.int (i*j)) H):=rfl
def fH{i j:Int}:cPow (.int i) (.int j) H Q=(CPow i j/\Q (.int (i^j.toNat)) H):=rfl
def xO{ix:List (Option Nat)}{d:TE}{g:TG}{c:TT}{te:TE}:tComp ix (iTup K d) g c te σ H Q=d σ H λx b=>∃ a,x=.ref a/\(∃ xs,SqT K b a xs)/\CompR (Itt K a) g c te (λl e=>Q (.ref l) e) (subσ ix σ) b:=rfl
theorem Dr{p:Addr}{bs:List Bool}(b:H p=↥(bs.map V.bl))(h:Q (.bl (bs.any id)) H):kAny [.ref p] H Q:=by
 show bnd (unL (H p)) _;rw[b];exact a9 (a:=bs.map V.bl) rfl ⟨bs,rfl,h⟩
theorem pc{p q:Addr}{xs ys:List V}(d:H p=↥xs)(c:H q=↥ys)(b:xs.length+ys.length<=1000)(h:∀ r,H r=none->Q (.ref r) (upd H r (.lst (xs++ys)))):cAdd (.ref p) (.ref q) H Q:=by
 show bnd (unM (H p)) _;rw[d];refine a9 (a:=xs) rfl ?_;rw[c];exact a9 (a:=ys) rfl ⟨OH (aC b),h⟩
theorem AG {g:TG} {r:TT} {te:TE} {a:Addr} {xs:List V} {j:Addr->Hp->Prop} {s:St} {f:Hp} (d:Addr->Nat->St->Hp->Prop) (h0:∀ l,f l=none->d l 0 s (upd f l (.lst []))) (w:∀ l i σ H,f l=none->i<=xs.length->d l i σ H->SqT K H a xs)
  (z:∀ l i x σ H,f l=none->xs[i]? =some x->d l i σ H->g x σ H λk t=>r k t λb n=>if b=true then te k n λy o=>∃ ys,o l=↥ys/\ys.length<sizeLine/\d l (i+1) k (upd o l (.lst (ys++[y]))) else d l (i+1) k n)
  (A:∀ l σ H,f l=none->d l xs.length σ H->j l H):CompR (Itt K a) g r te j s f:=by
 intro l c;refine⟨λi m σ H=>m=xs.length-i/\i<=xs.length/\d l i σ H,⟨xs.length,by simp,OP _,h0 l c⟩,?_⟩;rintro i m σ H ⟨rfl,u,p⟩;have q:=w l i σ H c u p;by_cases h:i<xs.length
 . refine .inr ⟨⟨xs,xs[i],q,by simp[h]⟩,d l (i+1),λC B v=>⟨xs.length - (i+1),by lia,rfl,h,v⟩,λx B y=>?_⟩;obtain⟨e,y⟩:=y;subst e;exact z l i x σ _ c (y xs q) p
 . have e:i=xs.length:=by lia
   subst e;exact .inl ⟨⟨xs,q,NZ _⟩,A l σ H c p⟩
end
inductive RK where
 | Rule | Unlike | Sum | Rising | Seen | Count | Joined | NoSquare | Ring
 deriving DecidableEq
structure RCl (ι:Type) where
 A:ι->Addr
 ok:ι->Bool
section
variable{ι:Type}
def tFldK(c:RCl ι)(g:TE)(f:Str):TE:=λσ H Q=>g σ H λx d=>∃ a k e b v,x=.ref a/\c.ok k=true/\d a=some (.ins (c.A k) e b)/\b.lookup f=some v/\Q v d
def sFldK(c:RCl ι)(h g:TE)(f:Str):TS:=λD σ H=>g σ H λy i=>h σ i λx d=>∃ a k e b,x=.ref a/\c.ok k=true/\d a=some (.ins (c.A k) e b)/\b.length<1000/\
 D.nx σ (upd d a (.ins (c.A k) e (putF f y b)))
def aE(c:RCl ι)(b:ι->Bool)(m:Str)(sp:ι->Sp)(h:TE)(t:TA):TE:=λσ H Q=>h σ H λx e=>∃ a k g d,x=.ref a/\b k=true/\e a=some (.ins (c.A k) g d)/\d.lookup m=none/\
 t σ e λvs f=>sp k (x::vs) f Q E0
structure FldK(K:Frag)(c:RCl ι)(f:Str):Prop where
 ex:∀ k,c.ok k=true->Cls K (c.A k)/\NoAttr K (c.A k) f
structure MCal(P:Program)(w:World)(K:Frag)(mg:Str->Option Value)(base:Heap)(c:RCl ι)(okm:ι->Bool)(k:Nat)(m:Str)(ps:List Str)(sp:ι->Sp):Prop where
 ex:∀ i,okm i=true->∃(f:Addr) (fd:FuncData),Cls K (c.A i)/\Meth K (c.A i) m f/\FnOk P w K mg base CX0 k f fd ps (sp i)/\Binds K fd ps []
structure KCal(P:Program)(w:World)(K:Frag)(mg:Str->Option Value)(base:Heap)(k:Nat)(x:Str)(C:Addr)(ps:List Str)(sp:Sp):Prop where
 ex:∃(f:Addr) (fd:FuncData),Mk K C f/\FnOk P w K mg base CX0 k f fd ps sp/\mg x=↑C/\Binds K fd ps []
end
section
variable{ι:Type}{X:Cx}{c:RCl ι}{o e value:Expr}{es:List Expr}{f x m:Str}{p pos pos' apos:Pos}{ta tv:TE}{t:TA}{okm:ι->Bool}{k n:Nat}{ps:List Str}{sp:ι->Sp}{sp1:Sp}{C:Addr}
theorem br(he:PE X e ta)(F:FldK X.K c f)(p:attributeBase e f X.env (eval e X.env)=eval e X.env:=by rfl):PE X (.Attribute e f pos) (tFldK c ta f):=by
 intro d s σ H Q I h;refine Hm p (thn (he d s σ H _ I h) λu s1 ⟨x,t,i,b,a,k,z,y,v,n,j,m,l,q⟩=>?_);subst n;obtain rfl:u=Value.ref a:=b;obtain⟨w,g⟩:=F.ex k j;exact Dm i m w g l λA B o r=>⟨v,t,o,r,q⟩
theorem i6(t:PE X o ta)(A:PE X value tv)(F:FldK X.K c f)(z:swapsWith value (some (.Attribute o f pos')) pos.line X.env=pure false:=by rfl):PS X (.Assign [.Attribute o f pos'] value pos) (sFldK c ta tv f):=by
 intro b s σ H D I h;refine plainObj_wpAny_Assign_Attribute (thn (A b s σ H _ I h) λu s1 ⟨y,r,e,C,q⟩=>thn (t b s1 σ r _ e q) λw L ⟨x,M,B,n,a,k,J,E,i,p,j,l,g⟩=>?_) z;subst i;obtain rfl:w=Value.ref a:=n;obtain⟨m,d⟩:=F.ex k p;exact Dn B j m d l C λG v=>⟨σ,_,v,g⟩
def bR {pl:Sem Bool} (M:MCal X.prog X.w X.K X.mg X.base c okm k m ps sp) (J:Room n X.A) (G:k<=n) (he:PE X o ta) (L:PA X (e::es) t)
  (b:starEach (e::es) X.env=(false,eval e X.env)::starEach es X.env:=by rfl) (d:(backTo pos (starEach es X.env)).any (·.1)=false:=by rfl)
  (O:eval (.Call (.Attribute o m apos) (e::es) [] pos) X.env=(do
   let ov ← eval o X.env
   standAt apos.atName
   let (f,first) ← holding [ov] (getMethod ov m pl)
   callWith pos f first (backTo pos (starEach (e::es) X.env)) (backToKw pos (keywordEach [] X.env))):=by rfl):
  PE X (.Call (.Attribute o m apos) (e::es) [] pos) (aE c okm m sp ta t):=by
 intro y s σ H Q I h;refine Ru (pl:=pl) (thn (he y s σ H _ I h) λu s1 ⟨x,R,g,E,a,i,U,T,B,P,C,l,q⟩=>?_) O;subst B;obtain rfl:u=Value.ref a:=E;obtain⟨f,S,D,j,F,N⟩:=M.ex i P;refine vD g C D j l ?_;refine QE (first:=[.ref a]) (h₀:=X.base) I.ok.mod.kin j.kp (thn (L pos y s1 σ R _ g q) λv W ⟨vs,Y,p,r,z⟩=>⟨p.kIn,?_⟩) b d;exact vE (us:=.ref a::v) (vs:=.ref a::vs) F (J.mono G) N .nil vG p (.cons rfl r) (by rw[Rl];exact z)
theorem aH {pl:Sem Bool} (M:MCal X.prog X.w X.K X.mg X.base c okm k m ps sp) (z:Room n X.A) (p:k<=n) (he:PE X o ta)
  (B:eval (.Call (.Attribute o m apos) [] [] pos) X.env=(do
   let ov ← eval o X.env
   standAt apos.atName
   let (f,first) ← holding [ov] (getMethod ov m pl)
   callWith pos f first (backTo pos (starEach [] X.env)) (backToKw pos (keywordEach [] X.env))):=by rfl):
  PE X (.Call (.Attribute o m apos) [] [] pos) (aE c okm m sp ta tNil):=by
 intro g s σ H Q I h;refine Ru (pl:=pl) (thn (he g s σ H _ I h) λu s1 ⟨x,D,b,e,a,i,E,C,t,j,r,l,q⟩=>?_) B;subst t;obtain rfl:u=Value.ref a:=e;obtain⟨f,G,y,d,F,v⟩:=M.ex i j;refine vD b r y d l ?_;exact PySem.W.callWith_K0 (first:=[.ref a]) b.kIn d.kp (vE (us:=[.ref a]) (vs:=[.ref a]) F (z.mono p) v .nil vG b (.cons rfl .nil) q)
theorem lV (M:KCal X.prog X.w X.K X.mg X.base k x C ps sp1) (j:Room n X.A) (g:k+1<=n) (h:Gl X x) (c:PA X (e::es) t)
  (b:(x==("__debug__":Str))=false:=by decide) (he:starEach (e::es) X.env=(false,eval e X.env)::starEach es X.env:=by rfl) (a:(backTo pos (starEach es X.env)).any (·.1)=false:=by rfl):
  PE X (.Call (.Name x p) (e::es) [] pos) (tMake C sp1 [] E0 t):=by
 obtain⟨f,l,mk,F,d,i⟩:=M.ex;exact Ho mk F (j.mono g) h d i .nil vG c b he a
end
def mw(K:Frag):List V->Hp->VK->Prop
 | [.ref p],H,Q=>bnd (unM (H p)) λys=>∀ l,H l=none->Q (.ref l) (upd H l (.tup ys))
 | _,_,_=>False
def tInG(b:List Str)(a:Bool)(te:TE):TE:=λσ H Q=>te σ H λx c=>∃ z,x=.str z/\Q (.bl (if a then !decide (z∈b) else decide (z∈b))) c
structure GTup(K:Frag)(mg:Str->Option Value)(x:Str)(ws:List Str):Prop where
 ex:∃(p:Addr) (o:Obj) (NF:Array Value) (n:Nat),mg x=↑p/\K.lookup p=some o/\o.cls=.type "tuple"/\o.data=.seq NF n/\NF.size<=sizeLine/\Vals (ws.map V.str) NF.toList
theorem i7:∀ ns:List Str,(ns.map V.str).all flatV=true
 | []=>rfl
 | n::r=>by rw[OD,P6,i7 r];rfl
theorem ke(i:Str):∀ ns:List Str,inV (.str i) (ns.map V.str)=decide (i∈ns)
 | []=>by simp[inV]
 | n::r=>by
  have a:=ke i r;unfold inV at a ⊢;rw[OD,QQ,a];show((n==i)||decide (i∈r))=decide (i∈n::r);rw[Om,Rn,PQ,NU,NU,N4];exact⟨λh=>h.elim (λe=>.inl e.symm) .inr,λh=>h.elim (λe=>.inl e.symm) .inr⟩
section
variable{X:Cx}{a:Expr}{ta:TE}{pos p:Pos}{x:Str}{ws:List Str}
theorem ur:CallR X (.type "tuple") (mw X.K):=by
 intro a s σ H d c Q I r h;unfold mw at h
 split at h
 . obtain⟨b,e,q⟩:=ba h;exact zp a s σ H _ c Q I r ⟨_,b,rfl,.inl ⟨NW (ib e),q⟩⟩
 . exact h.elim
theorem Jg{ws:List Str}{q:Addr}(c:∃(o:Obj) (NF:Array Value) (n:Nat),X.K.lookup q=some o/\o.cls=.type "tuple"/\o.data=.seq NF n/\NF.size<=sizeLine/\Vals (ws.map V.str) NF.toList):
  OpR X (compareOp .In) (λx y H Q=>∃ z,x=.str z/\y=.ref q/\Q (.bl (decide (z∈ws))) H):=by
 intro a s σ H x y v u Q I b d h;obtain⟨z,rfl,rfl,h⟩:=h;refine np a s σ H _ _ v u Q I b d ⟨q,ws.map V.str,rfl,.inr (.inr c),rfl,i7 ws,?_⟩;rw[ke];exact h
theorem Hz{ws:List Str}{q:Addr}(c:∃(o:Obj) (NF:Array Value) (n:Nat),X.K.lookup q=some o/\o.cls=.type "tuple"/\o.data=.seq NF n/\NF.size<=sizeLine/\Vals (ws.map V.str) NF.toList):
  OpR X (compareOp .NotIn) (λx y H Q=>∃ z,x=.str z/\y=.ref q/\Q (.bl (!decide (z∈ws))) H):=by
 intro a s σ H x y v u Q I b d h;obtain⟨z,rfl,rfl,h⟩:=h;refine rJ a s σ H _ _ v u Q I b d ⟨q,ws.map V.str,rfl,.inr (.inr c),rfl,i7 ws,?_⟩;rw[ke];exact h
end
section
variable{ι:Type}{c:RCl ι}{ta tv:TE}{t:TA}{f m:Str}{σ:St}{H:Hp}{Q:VK}{D:Ends}{okm:ι->Bool}{sp:ι->Sp}{sp1:Sp}{C:Addr}{K:Frag}
def d0:tMake C sp1 [] E0 t σ H Q=t σ H λvs b=>∀ x a,b x=none->b a=none->a≠x->sp1 (.ref x::(vs++[])) (upd (upd b a (.own x)) x (.ins C a [])) (λv c=>v=.non/\Q (.ref x) c) E0:=rfl
def fI{b:List Str}{a:Bool}{te:TE}:tInG b a te σ H Q=te σ H λx c=>∃ z,x=.str z/\Q (.bl (if a then !decide (z∈b) else decide (z∈b))) c:=rfl
theorem HA{p:Addr}{xs:List V}(a:H p=↥xs)(h:∀ l,H l=none->Q (.ref l) (upd H l (.tup xs))):mw K [.ref p] H Q:=by
 unfold mw;dsimp only;rw[a];exact h
end
def cntD(ns:∅):Nat:=(firstMet (λi=>ns.getD i 0) ns.length).length
def tS(te:TE):TE:=λσ H Q=>te σ H λx b=>∃ p a,x=.ref p/\b p=↥(a.map V.int)/\a.length<=900/\Q (.int (cntD a:Nat)) b
def bX{te:TE}{σ:St}{H:Hp}{Q:VK}:tS te σ H Q=te σ H λx a=>∃ p ns,x=.ref p/\a p=↥(ns.map V.int)/\ns.length<=900/\Q (.int (cntD ns:Nat)) a:=rfl
theorem HB:bootBuiltins "set"=some (.type "set"):=by decide+kernel
theorem yO {X:Cx} {e:Expr} {te:TE} {p f pos a:Pos} (R:X.calm=true) (w:Gl X "len") (k:Gl X "set") (K:X.mg "len"=none) (O:X.mg "set"=none) (he:PE X e te)
  (d:starEach [.Call (.Name "set" f) [e] [] a] X.env=[(false,eval (.Call (.Name "set" f) [e] [] a) X.env)]:=by rfl) (c:starEach [e] X.env=[(false,eval e X.env)]:=by rfl):
  PE X (.Call (.Name "len" p) [.Call (.Name "set" f) [e] [] a] [] pos) (tS te):=by
 intro C s σ H Q I h;refine OW (fm I w K aR ?_ #[1] #[1]);refine Qg ?_ d rfl;rw[d];show wpAny _ _ (spliced [(false,eval (.Call (.Name "set" f) [e] [] a) X.env)]) _ _ s;refine Pt ?_;refine OW (fm I k O HB ?_ #[1] #[1]);refine OJ ?_ c rfl;rw[c];show wpAny _ _ (spliced [(false,eval e X.env)]) _ _ s;refine Pt (thn (he C s σ H _ I h) λu s1 ⟨x,B,y,r1,N⟩=>?_);refine Pz ?_;obtain⟨l,g,rfl,m,A,q⟩:=N;cases r1;obtain⟨r,n,z,G,S⟩:=y.lst m;have E:s1.heap.IsList l r.toArray:=⟨_,G,rfl,n,rfl⟩;have L:IntsAre r g:=vF z;have j:=z.length;rw[NM]at j;refine call_set_list (ns:=g) (I.ok.hd R) E (by simpa using L) (by rw[N8,← j];exact Pd (Nat.succ_le_succ A) #[1]) λJ M D v=>?_;refine Pz ?_;obtain⟨o,T,U,t,h1,h2,h3,h4,h5,h6,h7,h8⟩:=D;have W:(firstMet (λi=>g.getD i 0) r.toArray.size).length<=900:=NY (firstMet_length_le _ _) (by rw[N8,← j];exact A);refine call_len_set h1 h2 h3 h7 #[4] ?_;have P:Inv X C σ B {s1 with heap:=J,toks:=M}:=y.kept λb F e=>v b F (Oh e) e;refine⟨.int _,B,P.tok _,⟨_,rfl⟩,?_⟩;rw[h8,N8,← j];exact q
def rR:V->List V->Hp->VK->Prop
 | .str sep,[.ref p],H,Q=>bnd (unS (H p)) λys=>∃ ts:List Str,ys=ts.map V.str/\JoinOk sep ts=true/\Q (.str (Txt.join sep ts)) H
 | _,_,_,_=>False
theorem E5{X:Cx}:MtR X "str.join" rR:=by
 intro A s σ H x vs v D Q I r w h;unfold rR at h
 split at h
 . rename_i m p
   obtain⟨C,e,B,rfl,c,q⟩:=ba h;rcases o8 (K:=X.K) e with i | i
   . obtain⟨t,rfl⟩:=r;obtain⟨u,rfl,j⟩:=d7 w;cases j;obtain⟨y,b,d,z⟩:=I.list i;obtain⟨l,rfl,g⟩:=xJ b;exact SC.join d.isList g c λf k=>⟨.str _,H,I.tok k,⟨f,rfl⟩,q⟩
   . obtain⟨t,rfl⟩:=r;obtain⟨u,rfl,j⟩:=d7 w;cases j;obtain⟨y,b,d,z⟩:=I.tuple i;obtain⟨l,rfl,g⟩:=xJ b;subst g;obtain⟨o,h1,h2,n,h3⟩:=d;have a:=c;unfold JoinOk at a;rw[Bool.not_eq_true']at a;exact PD F.slot_str_join (Qh _ _ _) F.entry_str_join (F.args_str_join_2 _ _) (meets_str_join_tuple m t p l a) ⟨⟨o,n,h1,h2,h3⟩,post_join l ⟨joinFit_length a,λf k=>⟨.str _,H,I.tok k,⟨f,rfl⟩,q⟩⟩⟩
 . exact h.elim
section
variable{X:Cx}{e:Expr}{te:TE}{p2 p3 p4 pos:Pos}{z0:Nat}
def vY:V->List V->Hp->VK->Prop
 | .ref l,[.int i],H,Q=>bnd (unM (H l)) λxs=>0<=i/\i<xs.length/\bnd (xs[i.toNat]?) λy=>Q y (upd H l (.lst (xs.eraseIdx i.toNat)))
 | _,_,_,_=>False
theorem seqIx{i:Int}{n:Nat}(h0:0<=i)(h1:i<n):seqIndex? i n=some i.toNat:=by
 obtain⟨k,rfl⟩:=Qc h0;have b:k<n:=by lia
 unfold seqIndex?;have a:¬ ((k:Int)<0):=by lia
 simp[b,a]
theorem E6:MtR X "list.pop" vY:=by
 intro c s σ H x vs v g Q I d f h;unfold vY at h
 split at h
 . obtain⟨a,e,h0,h1,h⟩:=ba h;obtain⟨y,b,q⟩:=ba h;have j:a.length<=sizeLine:=(I.lstM (ib e)).1;have i:(sizeLine:Int)<2^63:=by decide
   exact Gh c s σ H _ _ v g Q I d f ⟨_,a,_,_,y,rfl,rfl,ib e,by lia,by lia,seqIx h0 h1,b,q⟩
 . exact h.elim
def tRevL(te:TE):TE:=λσ H Q=>te σ H λx a=>∃ p b,x=.ref p/\a p=↥b/\∀ l,a l=none->Q (.ref l) (upd a l (.lst b.reverse))
theorem CT(he:PE X e te):PE X (.Subscript e (.Slice none none (some (.UnaryOp .USub (.Constant (.int 1) z0 p3) p4)) p2) pos) (tRevL te):=by
 have R:PE X (.UnaryOp .USub (.Constant (.int 1) z0 p3) p4) (tUn (rU λi=>.int (-i)) (tC (.int 1))):=G0 Et ae;intro c s σ H Q I h;refine Subscript_ (thn (he c s σ H _ I h) λv s1 ⟨x,y,z,r1,P⟩=>?_);obtain⟨l,D,rfl,M,q⟩:=P;cases r1
 refine wpAny_Slice (thn (gN c s1 σ y (λo H=>o=none/\H=y) z ⟨rfl,rfl⟩) λj O ⟨lo,t,J,E,e2⟩=>thn (gN c O σ t (λo H=>o=none/\H=t) J ⟨rfl,rfl⟩) λg C ⟨hi,u,K,S,T⟩=>
  thn (eh R c C σ u (λo H=>o=some (-1)/\H=u) K ⟨1,rfl,-1,rfl,rfl,rfl⟩) λf a ⟨so,U,m,N,L⟩=>?_)
 obtain⟨rfl,rfl⟩:=e2;obtain⟨rfl,rfl⟩:=T;obtain⟨rfl,rfl⟩:=L;obtain⟨d,n,p,B,Y⟩:=m.lst M;have k:a.heap.IsList l d.toArray:=⟨_,B,rfl,n,rfl⟩;have Z:=p.length;have r:Inv X c σ _ {a with heap:=a.heap.push {cls:=.type "slice",data:=.fields #[j,g,f]}}:=m.kept (t':=a.toks) λb ob q=>N0 _ q;show wpAny (model X.prog X.w) X.A (subscriptTail e (.Slice none none (some (.UnaryOp .USub (.Constant (.int 1) z0 p3) p4)) p2) (.ref l) (.ref a.heap.objs.size)) (EP X c σ Q) X.xe {a with heap:=a.heap.push {cls:=.type "slice",data:=.fields #[j,g,f]}}
 refine RJ (ops:=_) (Heap.IsList.typeIs (s:={a with heap:=a.heap.push {cls:=.type "slice",data:=.fields #[j,g,f]}}) (k.push _)) F.slot_list_getitem.lookup
  (QP (k.push _) (Heap.IsSliceOf.new ..) E S N #[1] ?_ (by rw[N8];lia)) (by with_unfolding_all rfl)
 rw[PySem.W.krv_pick];have G:d.toArray.toList.reverse.toArray=d.reverse.toArray:=by simp
 rw[G];exact⟨.ref _,_,r.lnew (t':=a.toks) (ys:=D.reverse) (NF:=d.reverse) p.reverse (by rw[List.length_reverse];lia),rfl,q _ r.fresh⟩
end
section
variable{σ:St}{H:Hp}{Q:VK}{te:TE}
def fJ{i j:Int}{H:Hp}{Q:VK}:kMax [.int i,.int j] H Q=Q (.int (if j>i then j else i)) H:=rfl
def d3:tRevL te σ H Q=te σ H λx a=>∃ p xs,x=.ref p/\a p=↥xs/\∀ l,a l=none->Q (.ref l) (upd a l (.lst xs.reverse)):=rfl
theorem HC{l:Addr}{i:Int}{xs:List V}{y:V}(b:H l=↥xs)(h0:0<=i)(h1:i<xs.length)(c:xs[i.toNat]? =some y)(q:Q y (upd H l (.lst (xs.eraseIdx i.toNat)))):vY (.ref l) [.int i] H Q:=by
 show bnd (unM (H l)) _;rw[b];exact a9 (a:=xs) rfl ⟨h0,h1,a9 c q⟩
end
theorem Ds:typeLookup (.type "str") (Str.ofString "__int__")=pure none:=by rw[Px,O8];kernel_rfl
theorem AH:typeLookup (.type "str") (Str.ofString "__index__")=pure none:=by rw[Px,O8];kernel_rfl
theorem AI:typeLookup (.type "str") (Str.ofString "__trunc__")=pure none:=by rw[Px,O8];kernel_rfl
def numC(n:Nat):List Nat:=if n<10 then [48+n] else [48+n/10,48+n%10]
variable{n:Nat}
theorem E7(h:n<100):((tx (numC n)).cps.all λx=>decide (x<128))=true:=by
 have t:((List.range 100).all λn=>(tx (numC n)).cps.all λx=>decide (x<128))=true:=by decide+kernel
 exact Od.mp t n (Oe.mpr h)
def E8{α:Type}{M:Model}{A:Around}{E:Value->Shared->Prop}{s:Shared}{Q:α->Shared->Prop}{m m':Sem α}(e:m=m')(h:wpAny M A m' Q E s):wpAny M A m Q E s:=e ▸ h
def gis(n:Nat)(b:n<100)(u:Tok):Gives (Builtin.«int.__new__» ⟨[.type "int",.str (tx (numC n)) u],[]⟩) (.int n):=
 .of_wp λM A E s Q h=>by
  obtain⟨k,g,d,o,l⟩:=s;have c:=PySem.F.conv_sub_int;have i:=PySem.F.madeHere_int;have j:=Ds;have f:=AH;have e:=AI
  iterate 44 (any_goals (first | assumption | wp_step))
  refine N7 (PM (a:=some (tx (numC n))) rfl ?_);refine PM (a:=some (numC n)) ?e1 ?_
  case e1=>
   show(pure (some (if ((tx (numC n)).cps.all λx=>decide (x<128))=true then(tx (numC n)).cps.toList else _)):Sem _)=_;rw[Os (E7 b),vX]
  refine E8 (m':=mkInt (n:Int)) ?e2 ?_
  case e2=>
   clear h c i j f e
   match n,b with |0,_|1,_|2,_|3,_|4,_|5,_|6,_|7,_|8,_|9,_|10,_|11,_|12,_|13,_|14,_|15,_|16,_|17,_|18,_|19,_|20,_|21,_|22,_|23,_|24,_|25,_|26,_|27,_|28,_|29,_|30,_|31,_|32,_|33,_|34,_|35,_|36,_|37,_|38,_|39,_|40,_|41,_|42,_|43,_|44,_|45,_|46,_|47,_|48,_|49,_|50,_|51,_|52,_|53,_|54,_|55,_|56,_|57,_|58,_|59,_|60,_|61,_|62,_|63,_|64,_|65,_|66,_|67,_|68,_|69,_|70,_|71,_|72,_|73,_|74,_|75,_|76,_|77,_|78,_|79,_|80,_|81,_|82,_|83,_|84,_|85,_|86,_|87,_|88,_|89,_|90,_|91,_|92,_|93,_|94,_|95,_|96,_|97,_|98,_|99,_=>kernel_rfl | (m+100),hm=>exact absurd hm #[0]
  repeat (any_goals (first | assumption | wp_step))
  all_goals first | exact⟨_,rfl,h⟩ | skip
def tT:List V->Hp->VK->Prop
 | [.int i],H,Q=>Q (.int i) H
 | [.bl k],H,Q=>Q (.int (if k then 1 else 0)) H
 | [.str z],H,Q=>∃ n:Nat,n<100/\z=tx (numC n)/\Q (.int n) H
 | _,_,_=>False
theorem Dt{X:Cx}:CallR X (.type "int") tT:=by
 intro a s σ H e b Q I r h;unfold tT at h
 split at h
 . exact yE a s σ H _ b Q I r (.inl ⟨_,rfl,h⟩)
 . exact yE a s σ H _ b Q I r (.inr ⟨_,rfl,h⟩)
 . obtain⟨n,c,rfl,q⟩:=h;obtain⟨u,rfl,d⟩:=d7 r;obtain⟨t,rfl⟩:=d;exact call_int_1 (gis n c t).meets (show(Made.int (n:Int)).post _ s from⟨rfl,⟨.int n,H,I.tok _,⟨_,rfl⟩,q⟩⟩)
 . exact h.elim
def cS{k:Bool}{H:Hp}{Q:VK}:tT [.bl k] H Q=Q (.int (if k then 1 else 0)) H:=rfl
def cT{i:Int}{H:Hp}{Q:VK}:tT [.int i] H Q=Q (.int i) H:=rfl
theorem HD(h:n<100):Str.ofString (toString (n:Int))=tx (numC n):=by
 have t:((List.range 100).all λ(n:Nat)=>decide (Str.ofString (toString (n:Int))=tx (numC n)))=true:=by decide+kernel
 simpa using Od.mp t n (Oe.mpr h)
theorem uT(h:n<100):32∉numC n:=by
 have t:((List.range 100).all λ(n:Nat)=>decide (32∉numC n))=true:=by decide+kernel
 simpa using Od.mp t n (Oe.mpr h)
theorem Jh(h:n<100):numC n≠[]:=by unfold numC;split <;> simp
theorem xP:(numC n).length<=2:=by unfold numC;split <;> simp
theorem Gx(h:n<100):((numC n).head? =some 48->n=0)/\numC 0=[48]:=by
 have t:((List.range 100).all λ(n:Nat)=>decide ((numC n).head? =some 48->n=0))=true:=by decide+kernel
 exact⟨Oj (Od.mp t n (Oe.mpr h)),rfl⟩
theorem CU(h:n<100):∀ c∈numC n,48<=c/\c<=57:=by
 have t:((List.range 100).all λ(n:Nat)=>(numC n).all λc=>decide (48<=c/\c<=57))=true:=by decide+kernel
 intro c a
 simpa using Od.mp (Od.mp t n (Oe.mpr h)) c a
local macro_rules|`(tactic|walk_at "w")=>wk9 ws1
local macro_rules|`(tactic|symm)=>`(tactic|walk_at "w")
def bW(K:Frag):Sp:=#[3,∃ a h w g,vs=[.ref a]/\IsFl H a h w g/\1<=h/\h<=6/\Q (.int (h*w)) H]
def kZ(K:Frag):TS:=#[":jdYdk0ef#0 dk0ef#1 "]
variable{K:Frag}{vs:List V}{H:Hp}{Q:VK}{E:XK}
theorem zq(h:bW K vs H Q E):kZ K (eD9 Q) (start ["floor"] vs) H:=by
 obtain⟨a,h,w,g,rfl,b,h0,h1,q⟩:=h;exists kZ;rw[iw b];refine a9 (a:=V.int h) rfl ?_;symm;rw[iw b];refine a9 (a:=V.int w) rfl ?_;exists⟨rP h0 h1,q⟩
def cornB(h w c:Int):Bool:=decide (c/w<h-1)&&decide (c%w<w-1)
def mx(K:Frag):Sp:=#[3,∃ a h w g c,vs=[.ref a,.int c]/\IsFl H a h w g/\0<w/\w<100/\∀ b,Same H b->Q (.bl (cornB h w c)) b]
def my(K:Frag):TS:=#[":gl,'fba0a1ch#2 jLd<dk2ef#0 dUdk0ef#0 ef#1 d<dk2ef#1 dUdk0ef#1 ef#1 "]
theorem AJ(h:mx K vs H Q E):my K (eD9 Q) (start ["floor","cell","spot"] vs) H:=by
 obtain⟨a,h,w,g,c,rfl,e,l,i,k⟩:=h;exists my;refine⟨a,h,w,g,c,rfl,e,l,i,λp j=>?_⟩;have s1:Same H (upd H p (.tup [.int (c/w),.int (c%w)])):=(NP H).laid j;have k1:=k _ s1;have b:=s1 _ _ e;have d:(upd H p (.tup [.int (c/w),.int (c%w)])) p=some (.tup [.int (c/w),.int (c%w)]):=ag;generalize upd H p (.tup [.int (c/w),.int (c%w)])=H1 at*;symm;rw[iw d];refine a9 (a:=V.int (c/w)) rfl ?_;symm;rw[iw b];refine a9 (a:=V.int h) rfl ?_;symm;unfold cornB at k1
 cases f:decide (c/w<h-1) with
 | false=>
  rw[f,Oc]at k1;exact iteF k1
 | true=>
  rw[f,Ob]at k1;refine iteT ?_;rw[iw d];refine a9 (a:=V.int (c%w)) rfl ?_;symm;rw[iw b];refine a9 (a:=V.int w) rfl ?_;symm;exact k1
def sqL(w c:Int):∅:=[c,c+1,c+w,c+w+1]
def mB(K:Frag):Sp:=#[3,∃ a h w g c,vs=[.ref a,.int c]/\IsFl H a h w g/\∀ p,H p=none->Q (.ref p) (upd H p (.lst ((sqL w c).map V.int)))]
def mC(K:Frag):TS:=#[":gldC1dk0ef#1 h#2 jta1adC1ef#1 a2adC2ef#1 c"]
theorem AK(h:mB K vs H Q E):mC K (eD9 Q) (start ["floor","corner","below"] vs) H:=by
 obtain⟨a,h,w,g,c,rfl,b,k⟩:=h;exists mC;rw[iw b];refine a9 (a:=V.int w) rfl ?_;exists⟨lnR rfl,k⟩
def squL(h w:Int):List ∅:=((List.range (h*w).toNat).filter λ(i:Nat)=>cornB h w i).map λ(i:Nat)=>sqL w i
def ji(K:Frag):Sp:=#[3,∃ a h w g,vs=[.ref a]/\IsFl H a h w g/\FlOk h w g/\
 ∀ l b c,Same H c->H l=none->IsLL c l b (squL h w)->b.Nodup->l∉b->(∀ a∈b,H a=none)->Q (.ref l) c]
def qp(K:Frag):TS:=#[":jw&--0 ~ga,~hba0cch#1 x,'Gba2a1c,'Hba2a1c"]
def NewAt.ll{d:Hp}{l:Addr}{b:List Addr}{c:List ∅}(x:NewAt d H l b (c.map λxs=>.lst (xs.map V.int)))(e:H l=↥(b.map V.ref)):IsLL H l b c:=
 ⟨e,by rw[x.len,NM],λj a xs h1 h2=>x.at_ j a _ h1 (by rw[NR,h2];rfl)⟩
theorem Du(h:ji K vs H Q E):qp K (eD9 Q) (start ["floor"] vs) H:=by
 obtain⟨a,h,w,g,rfl,d,F,k⟩:=h;obtain⟨h0,h1,y,B,q,z,v⟩:=F;have f:0<=h*w:=Pm #[4] #[4];exists qp;refine⟨a,h,w,g,rfl,d,h0,h1,?_⟩;exists⟨h*w,rfl,by lia,by lia,?_⟩;refine uq (λ(i:Nat)=>cornB h w i) (λ(i:Nat)=>.lst ((sqL w i).map V.int)) #[4] ?_ ?_ ?_
 . intro i c R u s1 k1;show tB _ [none,⇑(0+(i:Int)),↑a] c R;symm;rw[Qd];exact⟨a,h,w,g,_,rfl,s1 _ _ d,by lia,by lia,λb e=>⟨_,rfl,k1 b e⟩⟩
 . intro i c s u A s1 k1;show tCall _ _ _ _ [none,⇑(0+(i:Int)),↑a] c s;symm;rw[Qd];exact⟨a,h,w,g,_,rfl,s1 _ _ d,λp j=>k1 p _ ((NP c).laid j) j ag⟩
 . intro l m b r e t x
   have o:NewAt H b l m ((squL h w).map λn=>.lst (n.map V.int)):=by
    unfold squL;rw[Op];exact x
   exact k l m b e r (o.ll t) x.nd x.nl x.fr
def ws4:String:="aB d0 fI bX d3 cS cT fJ fG dZ fH if_true if_false Bool.false_eq_true decide_true decide_false cN cO fk bJ bu cK dj cM bI dg dh bH fh bK bL bN bO bP bQ bM dk dm dn df fj Bool.not_true Bool.not_false aB "++ws1
local macro_rules|`(tactic|walk_at "w")=>wk9 ws4
def nmC:RK->List Nat
 | .Rule=>[]
 | .Unlike=>s!"unlike"
 | .Sum=>s!"sum"
 | .Rising=>s!"rising"
 | .Seen=>s!"seen"
 | .Count=>s!"count"
 | .Joined=>s!"joined"
 | .NoSquare=>s!"nosquare"
 | .Ring=>s!"ring"
def gQ:List Str:=[tx s!"sum",tx s!"seen",tx s!"count"]
def gz:List Str:=[tx s!"count",tx s!"joined",tx s!"nosquare",tx s!"ring"]
def gp:List Str:=[tx s!"joined",tx s!"nosquare",tx s!"ring"]
def rFs(p W C:Addr)(n m:Int):List (Str × V):=[("floor",.ref p),("words",.ref W),("cells",.ref C),("amount",.int n),("mark",.int m)]
abbrev RO:=RCl RK
structure IsRule(H:Hp)(c:RO)(k:RK)(r p:Addr)(ws:List (List Nat))(cs:∅)(n m:Int):Prop where
 ok:c.ok k=true
 ex:∃ dx W C,H r=some (.ins (c.A k) dx (rFs p W C n m))/\H W=some (.tup ((ws.map tx).map V.str))/\H C=some (.tup (cs.map V.int))
variable{H:Hp}{c:RO}{p:Addr}{cs:∅}
theorem IsRule.same{b:Hp}{k:RK}{r:Addr}{a:List (List Nat)}{n m:Int}(x:IsRule H c k r p a cs n m)(s:Same H b):IsRule b c k r p a cs n m:=by
 obtain⟨d,W,C,h1,h2,h3⟩:=x.ex;exact⟨x.ok,d,W,C,s _ _ h1,s _ _ h2,s _ _ h3⟩
section
variable{ι:Type}{c:RCl ι}{σ:St}{H:Hp}{Q:VK}{i:Nat}{r dx:Addr}{k:ι}{fs:List (Str × V)}{f m:Str}{v:V}{okm:ι->Bool}{sp:ι->Sp}{t:TA}{D:Ends}{tv:TE}{y:V}{H1:Hp}
def fldE(e:σ[i]? =some ↑r)(a:c.ok k=true)(d:H r=some (.ins (c.A k) dx fs))(b:fs.lookup f=some v)(q:Q v H):tFldK c (tVar i) f σ H Q:=kJ e ⟨r,k,dx,fs,v,rfl,a,d,b,q⟩
def methE(b:σ[i]? =some ↑r)(e:okm k=true)(f:H r=some (.ins (c.A k) dx fs))(d:fs.lookup m=none)(q:t σ H λvs a=>sp k (.ref r::vs) a Q E0):aE c okm m sp (tVar i) t σ H Q:=kJ b ⟨r,k,dx,fs,rfl,e,f,d,q⟩
def sfldV{j:Nat}{x:V}(e:σ[j]? =some (some x))(a:σ[i]? =some ↑r)(d:c.ok k=true)(g:H r=some (.ins (c.A k) dx fs))(b:fs.length<1000)(q:D.nx σ (upd H r (.ins (c.A k) dx (putF f x fs)))):sFldK c (tVar i) (tVar j) f D σ H:=
 kJ e (kJ a ⟨r,k,dx,fs,rfl,d,g,b,q⟩)
theorem sfldT {K:Frag} {j:Nat} {p:Addr} {xs:List V} (m:σ[j]? =some ↑p) (g:H p=↥xs) (d:σ[i]? =some ↑r) (h:c.ok k=true) (b:H r=some (.ins (c.A k) dx fs)) (e:fs.length<1000)
  (q:∀ l,H l=none->D.nx σ (upd (upd H l (.tup xs)) r (.ins (c.A k) dx (putF f (.ref l) fs)))):sFldK c (tVar i) (tCB (mw K) (tCons (tVar j) tNil)) f D σ H:=by
 unfold sFldK;exists kJ m (HA g λl a=>?_);exact kJ d ⟨r,k,dx,fs,rfl,h,by rw[ah (av b a)];exact b,e,q l a⟩
end
variable{Q:VK}
theorem HE{xs:List V}(a:H p=some (.tup xs))(h:∀ l,H l=none->Q (.ref l) (upd H l (.lst xs))):kList [.ref p] H Q:=by
 unfold kList;dsimp only;rw[a];exact h
theorem HF{a:Str}{ts:List Str}(c:H p=↥(ts.map V.str))(b:JoinOk a ts=true)(h:Q (.str (Txt.join a ts)) H):rR (.str a) [.ref p] H Q:=by
 unfold rR;dsimp only;rw[c];exact⟨ts,rfl,b,h⟩
variable{K:Frag}
theorem yP {a:Addr} {k:Nat} {t:TT} {te:TE} {h:Addr->Hp->Prop} {d:St} {c:Hp} {xs:∅} (b:Int->Bool) (f:Int->Int) (F:xs.length<=900) (v:c a=some (.tup (xs.map V.int)))
  (A:∀ x H R,x∈xs->Same c H->(∀ m,Same H m->R (b x) m)->t (d.set k ⇑x) H R)
  (he:∀ x H Q,x∈xs->b x=true->Same c H->(∀ m,Same H m->Q (.int (f x)) m)->te (d.set k ⇑x) H Q)
  (E:∀ l H,c l=none->Same c H->H l=↥(((xs.filter b).map f).map V.int)->h l H):CompR (Itt K a) (gName k) t te h d c:=by
 refine AG (xs:=xs.map V.int) (λl i σ H=>(σ=d\/∃ u,σ=d.set k u)/\Same c H/\H l=↥((((xs.take i).filter b).map f).map V.int)) (λl j=>⟨.inl rfl,(NP c).laid j,by rw[ag];rfl⟩) (λl i σ H _ _ p=>Ry (p.2.1 _ _ v)) ?_ (λl σ H j p=>E l H j p.2.1 (by have:=p.2.2;rw[NM,ON]at this;exact this));rintro l i x σ H j B ⟨D,s1,y⟩;obtain⟨z,n,rfl⟩:=aK B;have I:i<xs.length:=(NO.mp n).1;have s:xs.take (i+1)=xs.take i++[z]:=by rw[Pn,n];rfl
 rw[aL]
 have e:σ.set k ⇑z=d.set k ⇑z:=by
  rcases D with rfl | ⟨u,rfl⟩
  . rfl
  . exact Pk ..
 rw[e];refine A z H _ (NS n) s1 λC o=>?_;have g:=o _ _ y
 have w:((((xs.take i).filter b).map f).map V.int).length<sizeLine:=by
  rw[NM,NM];refine aC (NY (N1 b _) ?_);rw[OL];lia
 cases q:b z with
 | false=>
  rw[Og NV];refine⟨.inr ⟨_,rfl⟩,s1.trans o,?_⟩;rw[s,Oz,OI,q]
  simpa using g
 | true=>
  rw[Os rfl];refine he z C _ (NS n) q (s1.trans o) λG r=>⟨_,r _ _ g,w,.inr ⟨_,rfl⟩,((s1.trans o).trans r).own j,?_⟩;rw[ag,s,Oz,OI,q];simp
def xQ(K:Frag)(c:RO)(k:RK):Sp:=#[3,∃ r p w a cs n m,vs=[.ref r]/\IsRule H c k r p (w::a) cs n m/\Q (.str (tx w)) H]
def gA(K:Frag)(c:RO)(k:RK):Sp:=#[3,∃ r p a cs n m,vs=[.ref r]/\IsRule H c k r p a cs n m/\∀ l,H l=none->Q (.ref l) (upd H l (.lst (cs.map V.int)))]
def i8(K:Frag)(c:RO)(k:RK):Sp:=#[3,∃ r p a cs n m,vs=[.ref r]/\IsRule H c k r p a cs n m/\Q (.int n) H]
def i9(K:Frag)(c:RO)(k:RK):Sp:=#[3,∃ r p a cs n m,vs=[.ref r]/\IsRule H c k r p a cs n m/\Q (.int m) H]
def sgAt(xs cs:∅):∅:=cs.map λc=>xs.getD c.toNat 0
def mkAt(xs cs:∅)(m:Int):∅:=cs.filter λc=>decide (xs.getD c.toNat 0=m)
def aI(cs:∅)(n:Nat):Prop:=cs.length<=63/\∀ c∈cs,0<=c/\c<n
def ge(K:Frag)(c:RO)(k:RK):Sp:=#[3,∃ r p f d cs a n m,vs=[.ref r,.ref f]/\IsRule H c k r p d cs n m/\H f=↥(a.map V.int)/\aI cs a.length/\
 ∀ l b,Same H b->H l=none->b l=↥((sgAt a cs).map V.int)->Q (.ref l) b]
def ja(K:Frag)(c:RO)(k:RK):Sp:=#[3,∃ r p f d cs a n m,vs=[.ref r,.ref f]/\IsRule H c k r p d cs n m/\H f=↥(a.map V.int)/\aI cs a.length/\
 ∀ l b,Same H b->H l=none->b l=↥((mkAt a cs m).map V.int)->Q (.ref l) b]
def risB:∅->Bool
 | x::y::r=>decide (x<y)&&risB (y::r)
 | _=>true
def seenN(xs:∅):Int × Int:=xs.foldl (λa x=>if a.1<x then(x,a.2+1) else a) (0,0)
noncomputable def joinB (h w:Int) (ms:∅):Bool:=@decide (ms=[]\/(ms.Pairwise (· < ·)/\∀ x∈ms,RC h w ms (ms.headD 0) x)) (Classical.propDecidable _)
def twoB(h w:Int)(ms:∅)(c:Int):Bool:=decide (((besL h w c).filter λy=>decide (y∈ms)).length=2)
noncomputable def hoB (k:RK) (h w:Int) (cs:∅) (n m:Int) (xs:∅):Bool:=match k with
 | .Unlike=>decide (cntD (sgAt xs cs)=(sgAt xs cs).length)
 | .Sum=>decide ((sgAt xs cs).sum=n)
 | .Rising=>risB (sgAt xs cs)
 | .Seen=>decide ((seenN (sgAt xs cs)).2=n)
 | .Count=>decide (((mkAt xs cs m).length:Int)=n)
 | .NoSquare=>!((squL h w).any λa=>a.all λc=>decide (c∈mkAt xs cs m))
 | .Joined=>joinB h w (mkAt xs cs m)
 | .Ring=>joinB h w (mkAt xs cs m)&&(mkAt xs cs m).all (twoB h w (mkAt xs cs m))
 | _=>true
def dc(K:Frag)(c:RO)(k:RK):Sp:=#[3,∃ r p f d cs a n m h w g,vs=[.ref r,.ref f]/\IsRule H c k r p d cs n m/\IsFl H p h w g/\FlOk h w g/\H f=↥(a.map V.int)/\aI cs a.length/\(∀ x∈a,0<=x/\x<=1000)/\
 ∀ b,Same H b->Q (.bl (hoB k h w cs n m a)) b]
def jj(K:Frag)(c:RO)(k:RK):Sp:=#[3,∃ r p C d cs a n m h w g,vs=[.ref r,.ref C]/\IsRule H c k r p d cs n m/\IsFl H p h w g/\FlOk h w g/\H C=↥(a.map V.int)/\a.length<=63/\
 ∀ b,Same H b->Q (.bl (joinB h w a)) b]
def gS(K:Frag)(c:RO)(k:RK):Sp:=#[3,∃ r p C d cs a n m h w g z,vs=[.ref r,.ref C,.int z]/\IsRule H c k r p d cs n m/\IsFl H p h w g/\FlOk h w g/\H C=↥(a.map V.int)/\a.length<=63/\
 ∀ b,Same H b->Q (.bl (twoB h w a z)) b]
def aQ(K:Frag)(c:RO):Sp:=#[3,∃ k x e p W C d cs n m,vs=[.ref x,.ref p,.ref W,.ref C,.int n,.int m]/\c.ok k=true/\H x=some (.ins (c.A k) e [])/\W≠x/\C≠x/\
 H W=↥((d.map tx).map V.str)/\H C=↥(cs.map V.int)/\∀ a,(∀ b o,b≠x->H b=some o->a b=some o)->IsRule a c k x p d cs n m->Q .non a]
def iA(K:Frag)(c:RO):TS:=#[":g~bi01?g~bi0q'gba2c'hg~bi0q'gba3c~Fg~bi04~u~bi05~V"]
variable{vs:List V}{E:XK}
theorem uU(h:aQ K c vs H Q E):iA K c (eD9 Q) (start ["self","floor","words","cells","amount","mark"] vs) H:=by
 obtain⟨k,x,y,p,W,C,B,cs,n,m,rfl,d,w,z,s,A,u,q⟩:=h;exists iA;refine sfldV (k:=k) (j:=1) rfl rfl d w #[1] ?_;exists sfldT (k:=k) (j:=2) (p:=W) rfl (by rw[ah z];exact A) rfl d ag (by show(1:Nat)<1000;decide) λr h1=>?_;have a:r≠x:=λe=>by rw[e,ag]at h1;cases h1
 have t:H r=none:=by rw[ah a]at h1;exact h1
 exists sfldT (k:=k) (j:=3) (p:=C) rfl (by rw[ah s,ah (av u t),ah s];exact u) rfl d ag (by show(2:Nat)<1000;decide) λl h2=>?_;have f:l≠x:=λe=>by rw[e,ag]at h2;cases h2
 have i:l≠r:=λe=>by rw[e,ah a,ag]at h2;cases h2
 have v:H l=none:=by rw[ah f,ah i,ah f]at h2;exact h2
 exists sfldV (k:=k) (j:=4) rfl rfl d ag (by show(3:Nat)<1000;decide) ?_;exists sfldV (k:=k) (j:=5) rfl rfl d ag (by show(4:Nat)<1000;decide) ?_;refine q _ (λb o g e=>?_) ⟨d,y,r,l,by rw[ag];rfl,?_,?_⟩
 . rw[ah g,ah g,ah g,ah (av e v),ah g,ah (av e t),ah g];exact e
 . rw[ah a,ah a,ah a,ah i.symm,ah a,ag]
 . rw[ah f,ah f,ah f,ag]
def rS(K:Frag)(c:RO):Sp:=λvs H Q E=>∃ k,xQ K c k vs H Q E
def mD(K:Frag)(c:RO):TS:=#[":jdkMi0'hef#0 "]
theorem AL(h:rS K c vs H Q E):mD K c (eD9 Q) (start ["self"] vs) H:=by
 obtain⟨k,r,p,w,a,cs,n,m,rfl,x,q⟩:=h;obtain⟨d,W,C,h1,h2,h3⟩:=x.ex;exists mD;refine fldE rfl x.ok h1 (v:=.ref W) (by rfl) ?_;symm;have b:atI (((w::a).map tx).map V.str) 0=some (V.str (tx w)):=gc (j:=0) rfl;exact ixT h2 b q
def qS(K:Frag)(c:RO):Sp:=λvs H Q E=>∃ k,gA K c k vs H Q E
def k9(K:Frag)(c:RO):TS:=#[":jq~laMi0~Fc"]
theorem zr(h:qS K c vs H Q E):k9 K c (eD9 Q) (start ["self"] vs) H:=by
 obtain⟨k,r,p,a,cs,n,m,rfl,x,q⟩:=h;obtain⟨b,W,C,h1,h2,h3⟩:=x.ex;exists k9;refine fldE rfl x.ok h1 (v:=.ref C) (by rfl) ?_;exists HE h3 q
def ph(K:Frag)(c:RO):Sp:=λvs H Q E=>∃ k,i8 K c k vs H Q E
def kf(K:Frag)(c:RO):TS:=#[":jMi0~u"]
theorem xR(h:ph K c vs H Q E):kf K c (eD9 Q) (start ["self"] vs) H:=by
 obtain⟨k,r,p,a,cs,n,m,rfl,x,q⟩:=h;obtain⟨b,W,C,h1,h2,h3⟩:=x.ex;exists kf;exact fldE rfl x.ok h1 (v:=.int n) (by rfl) q
def rT(K:Frag)(c:RO):Sp:=λvs H Q E=>∃ k,i9 K c k vs H Q E
def mE(K:Frag)(c:RO):TS:=#[":jMi0~V"]
theorem AM(h:rT K c vs H Q E):mE K c (eD9 Q) (start ["self"] vs) H:=by
 obtain⟨k,r,p,a,cs,n,m,rfl,x,q⟩:=h;obtain⟨b,W,C,h1,h2,h3⟩:=x.ex;exists mE;exact fldE rfl x.ok h1 (v:=.int m) (by rfl) q
def mF(K:Frag)(c:RO):Sp:=λvs H Q E=>∃ k,ge K c k vs H Q E
def iB(K:Frag)(c:RO):TS:=#[":jw&--1 ~WbMi0~Fh#1 Ddk21"]
theorem uV(h:mF K c vs H Q E):iB K c (eD9 Q) (start ["self","filling"] vs) H:=by
 obtain⟨k,r,p,f,t,cs,b,n,m,rfl,x,o,⟨u,j⟩,q⟩:=h;obtain⟨w,W,C,h1,h2,h3⟩:=x.ex;ac_nf;unfold iB;rw[b7,xO];refine fldE rfl x.ok h1 (v:=.ref C) (by rfl) ?_;refine⟨C,rfl,⟨_,Ry h3⟩,?_⟩;refine yP (xs:=cs) (λ_=>true) (λc=>b.getD c.toNat 0) #[4] h3 ?_ ?_ ?_
 . intro x a R s s1 k1;exact k1 _ (NP _)
 . intro z a e i y s1 k1;show tOp cIx _ _ [none,⇑z,↑f] a e;symm;have:=j z i;exact ixI (s1 _ _ o) this.1 #[4] (k1 _ (NP _))
 . intro l a g s1 d;rw[aZ]at d;exact q l a s1 g d
def mG(K:Frag):Sp:=#[3,∃ n:Nat,vs=[.str (tx (numC n))]/\n<100/\∀ a,Same H a->Q (.int n) a]
def mH(K:Frag):TS:=#[":gnJmdrb0euv=Jmd>qAa0cef#9 ~Xmdrbdk0ef#0 euv`0mdBb0euv`0jeZognKxq*aw&-- 'I0h#1 DdNbz1euv`1cjeZojq'Ja0c",[48],s!"0123456789"]
theorem Ji{c:Nat}(h0:48<=c)(h1:c<=57):(!(Builtin.Str.occurrences (tx s!"0123456789") ⟨#[c]⟩ 0 (tx s!"0123456789").length 1).isEmpty)=true:=by
 have t:((List.range 58).all λc=>!decide (48<=c)||!(Builtin.Str.occurrences (tx s!"0123456789") ⟨#[c]⟩ 0 (tx s!"0123456789").length 1).isEmpty)=true:=by decide+kernel
 have:=Od.mp t c (Oe.mpr #[4])
 simpa [h0] using this
theorem AN(h:mG K vs H Q E):mH K (eD9 Q) (start ["word"] vs) H:=by
 obtain⟨n,rfl,k,q⟩:=h;have f:=Jh k;have y:=xP (n:=n);ac_nf;unfold mH;rw[aB,az];symm;rw[bx,NQ f];refine iteF ⟨by rw[mt];exact aT #[4],?_⟩;symm;rw[mt,NQ (show ¬ (9:Int) < ((numC n).length:Nat) by lia)];refine iteF ?_;rw[JY,mt,vX]
 obtain⟨c,r,ec⟩:∃ c r,numC n=c::r:=by
  cases e:numC n with
  | nil=>exact absurd e f
  | cons c r=>exact⟨c,r,rfl⟩
 refine⟨aT #[4],a9 (a:=c) (by rw[ec];exact gc (j:=0) rfl) ?_⟩;symm
 have e1:decide ((⟨#[c]⟩:Str)=tx [48])=decide (c=48):=by
  have:(⟨#[c]⟩:Str)=tx [c]:=rfl;rw[this,bx];simp
 rw[e1,bx]
 have e2:(decide (c=48)=true->decide (numC n=[48])=true):=by
  intro h;rw[NU]at h;have:=(Gx k).1 (by rw[ec,h];rfl);subst this;decide
 have d:tSeq (tIfS (tNot (tB (tCB kAll (tCons (tComp [none,none] (iStr (tVar 0)) (gName 1) tTrue (tOp (cIn K false) (tVar 1) (tC (.str (tx s!"0123456789"))))) tNil)))) (tRet (tC .non)) tNext) (tRet (tCB tT (tCons (tVar 0) tNil)))
   (eD9 Q) [some (.str (tx (numC n)))] H:=by
  rw[aB,az];exists E3 (cs:=numC n) (λ_=>true) (λ_=>.bl true) #[4] ?_ ?_ ?_
  . intro i c g R m s1 k1;exact k1 _ (NP _)
  . intro i c g s m p s1 k1;have o:=CU k c (NS m);show tOp (cIn K false) _ _ [none,some (.str (tx [c]))] g s;symm;have u:=k1 _ (NP g);show s (.bl (if false=true then _ else !(Builtin.Str.occurrences (tx s!"0123456789") (tx [c]) 0 (tx s!"0123456789").length 1).isEmpty)) g;rw[Og NV,show tx [c]=⟨#[c]⟩ from rfl,Ji o.1 o.2];exact u
  . intro l g w s1 t
    have x:((List.range (numC n).length).filter λ_=>true).map (λ_=>V.bl true)=(List.replicate (numC n).length true).map V.bl:=by
     rw[aZ,List.map_const',OU,QH]
    rw[x]at t;refine jh t ?_
    have v:(List.replicate (numC n).length true).all id=true:=by
     rw[Od];intro b p;exact(QI.mp p).2
    rw[v];exists⟨n,k,rfl,q _ s1⟩
 cases m:decide (c=48) with
 | false=>
  refine iteF ?_;exact d
 | true=>
  refine iteT ?_;rw[e2 m];exact d
def fL(K:Frag):Sp:=#[3,∃ n a c,vs=[.str (tx (numC n)),.int a,.int c]/\n<100/\a<=n/\n<=c/\∀ b,Same H b->Q (.int n) b]
def iC(K:Frag):TS:=#[":gl,'Kba0ch#3 gnJmd~v3eZJmd<31md>32Voj3"]
theorem uW(h:fL K vs H Q E):iC K (eD9 Q) (start ["word","least","most","number"] vs) H:=by
 obtain⟨n,a,c,rfl,b,h0,h1,q⟩:=h;exists iC;refine⟨n,rfl,b,λd s1=>?_⟩;symm;rw[az];symm;rw[NQ (show ¬ V.int n=V.non from λe=>nomatch e)];refine iteF ?_;rw[NQ (show ¬ (n:Int)<a by lia)];refine iteF ?_;rw[NQ (show ¬ c < (n:Int) by lia)];refine iteF ?_;exists q _ s1
def WOk(a:List (List Nat)):Prop:=∀ w∈a,∀ c∈w,c<128
variable{w:List Nat}
def WOk.cons{b:List (List Nat)}(h:∀ c∈w,c<128)(d:WOk b):WOk (w::b):=λv a=>by
 rcases N4.mp a with rfl | a
 . exact h
 . exact d v a
variable{n:Nat}
def xS(h:n<100):∀ c∈numC n,c<128:=λc a=>by have:=CU h c a;omega
theorem Ad(h:∀ c∈w,c<128):PyData.strOk (tx w)=true:=by
 unfold PyData.strOk;simp[tx];intro c a;have:=h c a;lia
def WOk.strs{a:List (List Nat)}(h:WOk a):∀ x∈a.map tx,PyData.strOk x=true:=λx b=>by
 obtain⟨w,hw,rfl⟩:=N9.mp b;exact Ad (h w hw)
def eJ(K:Frag):Sp:=#[3,∃ p n a c d,vs=[.ref p,.int c,.int d]/\H p=↥(((numC n::a).map tx).map V.str)/\n<100/\WOk a/\c<=n/\n<=d/\∀ b,Same H b->Q (.int n) b]
def jk(K:Frag):TS:=#[":gnmdrb0tcVoj,'ibadk0ef#0 a1a2c"]
theorem DVs.strs{K:Frag}{H:Hp}:∀ ns:List Str,DVs K H (ns.map V.str) (ns.map PyData.str)
 | []=>.nil
 | n::r=>.cons (.str n) (DVs.strs r)
theorem nv(a b:Str):PyData.eqv (.str a) (.str b)=decide (a=b):=by
 rw[PyData.eqv];by_cases h:a=b
 . subst h;simp
 . simp[h]
theorem kL(ns:List Str)(c:∀ x∈ns,PyData.strOk x=true):SeqAt.shaped (.list (ns.map PyData.str))=true:=by
 have h1:PyData.canLayAll0 (ns.map PyData.str)=true:=pb λd a=>by obtain⟨x,b,rfl⟩:=N9.mp a;rw[PyData.canLay0];exact c x b
 have h2:PyData.depthAll (ns.map PyData.str)<=0:=kR λd a=>by obtain⟨x,_,rfl⟩:=N9.mp a;exact NZ _
 simp[SeqAt.shaped,PyData.canLay0,h1,PyData.depth];lia
variable{xs:List Str}
theorem Jj{q:Addr}{ys:List Str}(b:H p=↥(xs.map V.str))(a:H q=↥(ys.map V.str))(h1:∀ x∈xs,PyData.strOk x=true)(h2:∀ x∈ys,PyData.strOk x=true)(h:Q (.bl (decide (xs=ys))) H):cEq K (.ref p) (.ref q) H Q:=by
 show rEqD K (.ref p) (.ref q) H Q;refine⟨.list (xs.map PyData.str),.list (ys.map PyData.str),.lst (NW b) (.strs xs),.lst (NW a) (.strs ys),kL xs h1,kL ys h2,?_⟩;rw[PyData.eqv,xM PyData.str nv];exact h
theorem Jk{q:Addr}{ys:List Str}(b:H p=↥(xs.map V.str))(a:H q=↥(ys.map V.str))(h1:∀ x∈xs,PyData.strOk x=true)(h2:∀ x∈ys,PyData.strOk x=true)(h:Q (.bl (!decide (xs=ys))) H):cNe K (.ref p) (.ref q) H Q:=by
 show rNeD K (.ref p) (.ref q) H Q;refine⟨.list (xs.map PyData.str),.list (ys.map PyData.str),.lst (NW b) (.strs xs),.lst (NW a) (.strs ys),kL xs h1,kL ys h2,?_⟩;rw[PyData.eqv,xM PyData.str nv];exact h
theorem vZ(h:eJ K vs H Q E):jk K (eD9 Q) (start ["words","least","most"] vs) H:=by
 obtain⟨p,n,d,e,g,rfl,b,a,hw,h0,h1,q⟩:=h;ac_nf;unfold jk;rw[aB,az];exists⟨aT #[1],λl f=>?_⟩;have s1:Same H (upd H l (.lst [])):=(NP H).laid f;refine Jj (s1 _ _ b) (ys:=[]) ag (WOk.strs (WOk.cons (xS a) hw)) (λx c=>nomatch c) ?_;generalize upd H l (.lst [])=H1 at*;symm;rw[NQ (by simp)];refine iteF ?_;symm;have i:atI (((numC n::d).map tx).map V.str) 0=some (V.str (tx (numC n))):=gc (j:=0) rfl;refine ixL (s1 _ _ b) i ?_;exists⟨n,e,g,rfl,a,h0,h1,λm k=>q _ (s1.trans k)⟩
theorem Gy(a:∅)(v:Int):(step_dedup a v).length<=a.length+1:=by
 unfold step_dedup
 split <;> simp
theorem AO:∀(l a:∅),(l.foldl step_dedup a).length<=a.length+l.length
 | [],a=>by simp
 | x::r,a=>by
  have h1:=AO r (step_dedup a x);have h2:=Gy a x;rw[O9,OA];lia
theorem ut:∀(l c:∅),c.Nodup->((l.foldl step_dedup c).length=c.length+l.length↔(c++l).Nodup)
 | [],c,h=>by simpa using h
 | x::r,c,h=>by
  rw[O9];by_cases d:x∈c
  . have e:step_dedup c x=c:=by
     unfold step_dedup;rw[Os (by simpa using d)]
    rw[e];have:=AO r c;constructor
    . intro z;rw[OA]at z;lia
    . intro z;have:=(PC.mp z).2.2 x d x Oa;exact absurd rfl this
  . have e:step_dedup c x=c++[x]:=by
     unfold step_dedup;rw[Og (by simpa using d)]
    rw[e];have i:(c++[x]).Nodup:=PC.mpr ⟨h,by simp,λa g b j z=>d (by rw[NX.mp j]at z;exact z ▸ g)⟩;have f:=ut r (c++[x]) i;rw[Oy,Rs]at f;rw[OA,show c.length+(r.length+1)=c.length+1+r.length by lia,show c++x::r=c++[x]++r by simp];exact f
theorem xT(ns:∅):(List.range ns.length).map (λi=>ns.getD i 0)=ns:=by
 have:=kY ns (λx=>x)
 simpa using this
theorem AQ(ns:∅):cntD ns=ns.length↔ns.Nodup:=by
 unfold cntD firstMet;rw[xT];have:=ut ns [] PU
 simpa using this
def lc(K:Frag):Sp:=#[3,∃(a p:Addr) (h w g:Int) (b:List Nat),vs=[.ref a,.ref p]/\IsFl H a h w g/\FlOk h w g/\H p=↥(((b.map numC).map tx).map V.str)/\b≠[]/\b.length<=16/\(∀ n∈b,(n:Int)<h*w)/\b.Nodup/\
 ∀ l c,Same H c->H l=none->c l=↥((b.map λ(n:Nat)=>(n:Int)).map V.int)->Q (.ref l) c]
def ld(K:Frag):TS:=#[":g~i#2 &--0 sb1h#1 D,'iba1aef#0 adU,~hba2cef#1 cgnmdrb2tcVognmdBb'j2qAa2cVoj2"]
variable{ns:List Nat}
theorem wa(h:ns.Nodup):(ns.map λ(n:Nat)=>(n:Int)).Nodup:=by
 induction ns with
 | nil=>exact PU
 | cons a r ih=>
  rw[OR]at h;rw[OD,OR];refine⟨λz=>?_,ih h.2⟩;obtain⟨b,hb,e⟩:=N9.mp z
  exact h.1 (by have:b=a:=by lia
                exact this ▸ hb)
theorem zt(h:lc K vs H Q E):ld K (eD9 Q) (start ["floor","words","cells"] vs) H:=by
 obtain⟨a,p,h,w,g,ns,rfl,y,F,o,m,s,j,k,q⟩:=h;obtain⟨h0,h1,I,N,v,J,G⟩:=F;exists ld;refine⟨⟨_,NW o⟩,?_⟩;refine bE (xs:=((ns.map numC).map tx).map V.str) (λ_=>true) (λi=>.int (ns.getD i 0:Nat)) (by simp;lia) (NW o) ?_ ?_ ?_
 . intro i x c R d s1 k1;exact k1 _ (NP _)
 . intro i x c B d M s1 k1;rw[NR,NR,NR]at d
   cases e:ns[i]? with
   | none=>rw[e]at d;cases d
   | some n=>
    rw[e]at d;cases d;have L:=j n (NS e);show tCall _ _ _ _ [none,some (.str (tx (numC n))),↑a] c B;exists⟨a,h,w,g,rfl,s1 _ _ y,h0,h1,?_⟩;exists⟨n,0,_,rfl,by lia,by lia,by lia,λC b=>?_⟩;have r:=k1 _ b;have t:ns.getD i 0=n:=by rw[List.getD,e];rfl
    rw[t]at r;exact r
 . intro l c A s1 f
   have D:((List.range (((ns.map numC).map tx).map V.str).length).filter λ_=>true).map (λi=>V.int (ns.getD i 0:Nat))=(ns.map λ(n:Nat)=>(n:Int)).map V.int:=by
    rw[aZ,NM,NM,NM,Op];refine O6 λi=>?_;rw[NR,NR];by_cases h:i<ns.length
    . rw[OQ h,NN h];simp[List.getD,h]
    . rw[Oi (by simpa using h),Oi #[4]];rfl
   rw[D]at f;symm;rw[az];exists⟨aT #[1],λz u=>?_⟩;have b:Same c (upd c z (.lst [])):=(NP c).laid u;refine vP (b _ _ f) (ys:=[]) ag ?_;generalize upd c z (.lst [])=C at*;symm;rw[NQ (by simpa using m)];refine iteF ?_;symm;rw[az];exists⟨l,_,rfl,b _ _ f,by rw[NM];lia,?_⟩;rw[bh (b _ _ f),NM];symm;rw[NT (by rw[(AQ _).mpr (wa k)])];refine iteF ?_;exists q l _ (s1.trans b) A (b _ _ f)
def allK:RK->Bool
 | .Joined=>true
 | .NoSquare=>true
 | .Ring=>true
 | _=>false
def numK:RK->Bool
 | .Sum=>true
 | .Seen=>true
 | .Count=>true
 | _=>false
def sgnK:RK->Bool
 | .Count=>true
 | .Joined=>true
 | .NoSquare=>true
 | .Ring=>true
 | _=>false
theorem Jl(k:RK):decide (tx (nmC k)∈gp)=allK k:=by cases k <;> decide+kernel
theorem Jm(k:RK):decide (tx (nmC k)∈gQ)=numK k:=by cases k <;> decide+kernel
theorem Jn(k:RK):decide (tx (nmC k)∈gz)=sgnK k:=by cases k <;> decide+kernel
structure xU(k:RK)(h w:Int)(ns:List Nat)(cs:∅):Prop where
 told:allK k=false->ns≠[]/\ns.length<=16/\(∀ n∈ns,(n:Int)<h*w)/\ns.Nodup/\cs=ns.map λ(n:Nat)=>(n:Int)
 all:allK k=true->ns=[]/\cs=rngL 0 (h*w)
def oF(K:Frag):Sp:=#[3,∃ k a p h w g ns cs,vs=[.ref a,.str (tx (nmC k)),.ref p]/\IsFl H a h w g/\FlOk h w g/\H p=↥(((ns.map numC).map tx).map V.str)/\xU k h w ns cs/\(∀ n∈ns,n<100)/\
 ∀ l b,Same H b->H l=none->b l=↥(cs.map V.int)->Q (.ref l) b]
def oG(K:Frag):TS:=#[":gnx~w'LQ1j,'Mba0a2cognmdBb2tcVoj~Ya,~hba0cc"]
theorem Cb(h:oF K vs H Q E):oG K (eD9 Q) (start ["floor","name","words"] vs) H:=by
 obtain⟨k,a,p,h,w,g,ns,cs,rfl,d,F,i,j,y,q⟩:=h;obtain⟨h0,h1,B,A,m,v,u⟩:=id F;have c:0<=h*w:=Pm #[4] #[4];ac_nf;unfold oG;rw[aB,az];symm;rw[Jl]
 cases f:allK k with
 | false=>
  obtain⟨s,r,o,n,rfl⟩:=j.told f;exists⟨a,p,h,w,g,ns,rfl,d,F,i,s,r,o,n,q⟩
 | true=>
  obtain⟨rfl,rfl⟩:=j.all f;symm;rw[az];exists⟨aT #[1],λz t=>?_⟩;have s1:Same H (upd H z (.lst [])):=(NP H).laid t;refine Jk (xs:=[]) (ys:=[]) (s1 _ _ i) ag (λx b=>nomatch b) (λx b=>nomatch b) ?_;generalize upd H z (.lst [])=H1 at*;exists⟨a,h,w,g,rfl,s1 _ _ d,h0,h1,?_⟩;exists⟨h*w,rfl,by lia,by lia,λl e=>?_⟩;exact q l _ (s1.laid e) (s1.free e) ag
def qq(K:Frag)(c:RO):Sp:=#[3,∃ k p W C b cs n m,vs=[.ref p,.ref W,.ref C,.int n,.int m]/\k≠.Rule/\c.ok k=true/\H W=↥(((nmC k::b).map tx).map V.str)/\H C=↥(cs.map V.int)/\
 ∀ r a,Same H a->H r=none->IsRule a c k r p (nmC k::b) cs n m->Q (.ref r) a]
def qr(K:Frag)(c:RO):TS:=#[":gldk1ef#0 h#5 gnmdrb5euv`0j[~c'N~dbi=]a0a1a2a3a4cognmdrb5euv`1j[~c'O~dbi=]a0a1a2a3a4cognmdrb5euv`2j[~c'P~dbi=]a0a1a2a3a4cognmdrb5euv`3j[~c'Q~dbi=]a0a1a2a3a4cognmdrb5euv`4j[~c'R~dbi=]a0a1a2a3a4cognmdrb5euv`5j[~c'S~dbi=]a0a1a2a3a4cognmdrb5euv`6j[~c'T~dbi=]a0a1a2a3a4cognmdrb5euv`7j[~c'U~dbi=]a0a1a2a3a4coV",s!"unlike",s!"sum",s!"rising",s!"seen",s!"count",s!"joined",s!"nosquare",s!"ring"]
theorem HG{k:RK}{W C:Addr}{i:List (List Nat)}{n m:Int}(t:c.ok k=true)(g:H W=↥((i.map tx).map V.str))(h:H C=↥(cs.map V.int))(q:∀ r f,Same H f->H r=none->IsRule f c k r p i cs n m->Q (.ref r) f):
  ∀ x d,H x=none->H d=none->d≠x->aQ K c (.ref x::([.ref p,.ref W,.ref C,.int n,.int m]++[])) (upd (upd H d (.own x)) x (.ins (c.A k) d [])) (λv l=>v=.non/\Q (.ref x) l) E0:=by
 intro x d a j w;refine⟨k,x,d,p,W,C,i,cs,n,m,rfl,t,ag,av g a,av h a,?_,?_,λf s u=>⟨rfl,q x f (λb o e=>s b o (av e a) ?_) a u⟩⟩
 . rw[ah (av g a),ah (av g j)];exact g
 . rw[ah (av h a),ah (av h j)];exact h
 . rw[ah (av e a),ah (av e j)];exact e
theorem Dv(h:qq K c vs H Q E):qr K c (eD9 Q) (start ["floor","words","cells","amount","mark","name"] vs) H:=by
 obtain⟨k,p,W,C,d,cs,n,m,rfl,g,i,a,r,q⟩:=h;have mk:=HG (K:=K) i a r q;have e:atI (((nmC k::d).map tx).map V.str) 0=some (V.str (tx (nmC k))):=gc (j:=0) rfl;exists qr;refine ixL a e ?_
 have D:∀(l:List Nat) (t:TS) (u:TS) (D:Ends) (b:Bool),decide (nmC k=l)=b->(if b=true then t D [↑p,↑W,↑C,⇑n,⇑m,some (.str (tx (nmC k)))] H else u D [↑p,↑W,↑C,⇑n,⇑m,some (.str (tx (nmC k)))] H)->
   tIfS (tTest (tOp (cEq K) (tVar 5) (tC (.str (tx l))))) t u D [↑p,↑W,↑C,⇑n,⇑m,some (.str (tx (nmC k)))] H:=λl t u D b o f=>by
  rw[az];symm;rw[bx,o];exact f
 have R:∀(D:Ends),D.rt=Q->tRet (tMake (c.A k) (aQ K c) [] E0 (tCons (tVar 0) (tCons (tVar 1) (tCons (tVar 2) (tCons (tVar 3) (tCons (tVar 4) tNil)))))) D [↑p,↑W,↑C,⇑n,⇑m,some (.str (tx (nmC k)))] H:=λD s=>by
  symm;rw[s];exact mk
 cases k with
 | Rule=>exact absurd rfl g
 | Unlike=>exact D _ _ _ _ true #[1] (iteT (R _ rfl))
 | Sum=>exact D _ _ _ _ false #[1] (iteF (D _ _ _ _ true #[1] (iteT (R _ rfl))))
 | Rising=>exact D _ _ _ _ false #[1] (iteF (D _ _ _ _ false #[1] (iteF (D _ _ _ _ true #[1] (iteT (R _ rfl))))))
 | Seen=>exact D _ _ _ _ false #[1] (iteF (D _ _ _ _ false #[1] (iteF (D _ _ _ _ false #[1] (iteF (D _ _ _ _ true #[1] (iteT (R _ rfl))))))))
 | Count=>exact D _ _ _ _ false #[1] (iteF (D _ _ _ _ false #[1] (iteF (D _ _ _ _ false #[1] (iteF (D _ _ _ _ false #[1] (iteF (D _ _ _ _ true #[1] (iteT (R _ rfl))))))))))
 | Joined=>exact D _ _ _ _ false #[1] (iteF (D _ _ _ _ false #[1] (iteF (D _ _ _ _ false #[1] (iteF (D _ _ _ _ false #[1] (iteF (D _ _ _ _ false #[1] (iteF (D _ _ _ _ true #[1] (iteT (R _ rfl))))))))))))
 | NoSquare=>exact D _ _ _ _ false #[1] (iteF (D _ _ _ _ false #[1] (iteF (D _ _ _ _ false #[1] (iteF (D _ _ _ _ false #[1] (iteF (D _ _ _ _ false #[1] (iteF (D _ _ _ _ false #[1] (iteF (D _ _ _ _ true #[1] (iteT (R _ rfl))))))))))))))
 | Ring=>exact D _ _ _ _ false #[1] (iteF (D _ _ _ _ false #[1] (iteF (D _ _ _ _ false #[1] (iteF (D _ _ _ _ false #[1] (iteF (D _ _ _ _ false #[1] (iteF (D _ _ _ _ false #[1] (iteF (D _ _ _ _ false #[1] (iteF (D _ _ _ _ true #[1] (iteT (R _ rfl))))))))))))))))
def rowW(k:RK)(n m:Nat)(ns:List Nat):List (List Nat):=nmC k::((if numK k then [numC n] else [])++(if sgnK k then [numC m] else [])++ns.map numC)
structure AR(k:RK)(h w g:Int)(n m:Nat)(ns:List Nat)(cs:∅):Prop where
 k0:k≠.Rule
 n0:n<=99
 nz:numK k=false->n=0
 m0:sgnK k=true->1<=(m:Int)/\(m:Int)<=g
 mz:sgnK k=false->m=0
 cl:xU k h w ns cs
 ns0:∀ x∈ns,x<100
 len:ns.length<=16
def mI(K:Frag)(c:RO):Sp:=#[3,∃ k p h w g n m ns cs,vs=[.ref p,.str (tx (catL 32 (rowW k n m ns)))]/\IsFl H p h w g/\FlOk h w g/\AR k h w g n m ns cs/\c.ok k=true/\
 ∀ r a,Same H a->H r=none->IsRule a c k r p (rowW k n m ns) cs n m->Q (.ref r) a]
def gq(K:Frag)(c:RO):TS:=#[":j,'Vbia0a2a,'Wba0a3a4ca5a6c"]
def jl(K:Frag)(c:RO):TS:=#[":gldk2ef#0 h#3 gl^~a2+ef#1 ~jh#4 glef#0 h#5 glef#0 h#6 gnx~w'Xz3gl,'kba4aef#0 aef#99 ch#5 l^~a4+ef#1 ~jh#4 ognx~w'Yz3gl,'kba4aef#1 adk0ef#2 ch#6 l^~a4+ef#1 ~jh#4 o'Zbi"]
def mJ(K:Frag)(c:RO):TS:=#[":gnKxqWa1aeX~ZcVoglHb~Z'*1aeuv`0ch#2 '+bi",[32]]
theorem HH(k:RK):32∉nmC k:=by cases k <;> decide
variable{m:Nat}
theorem E9{k:RK}(c:n<100)(d:m<100)(e:∀ x∈ns,x<100):∀ r∈rowW k n m ns,32∉r:=by
 intro r a;unfold rowW at a;rcases N4.mp a with rfl | a
 . exact HH k
 rcases Of.mp a with a | a
 . rcases Of.mp a with a | a
   . split at a
     . rw[NX.mp a];exact uT c
     . cases a
   . split at a
     . rw[NX.mp a];exact uT d
     . cases a
 . obtain⟨x,b,rfl⟩:=N9.mp a;exact uT (e x b)
theorem Gz(xs:List V):cutV xs (some 1) none=xs.drop 1:=by
 unfold cutV;have h1:HT.sIx xs.length 0 (some 1)=min 1 xs.length:=HT.sIx_nat ..;have h2:HT.sIx xs.length xs.length none=xs.length:=rfl;rw[h1,h2]
 cases xs with
 | nil=>rfl
 | cons x r=>
  have:min 1 (x::r).length=1:=by simp
  rw[this];show(r).take _=r;rw[OK (by simp)]
theorem nA {k:RK} {W R:Addr} {h w g:Int} {a:List (List Nat)} {t:V} (F:FlOk h w g) (f:IsFl H p h w g) (j:H W=↥(((nmC k::a).map tx).map V.str)) (e:H R=↥(((ns.map numC).map tx).map V.str)) (u:xU k h w ns cs) (i:∀ x∈ns,x<100) (k0:k≠.Rule) (o:c.ok k=true)
  (q:∀ r b,Same H b->H r=none->IsRule b c k r p (nmC k::a) cs n m->Q (.ref r) b):
  gq K c (eD9 Q) [↑p,some t,↑W,some (.str (tx (nmC k))),↑R,⇑n,⇑m] H:=by
 unfold gq;exists⟨k,p,R,h,w,g,ns,cs,rfl,f,F,e,u,i,λl A s1 z y=>?_⟩;exists⟨k,p,W,l,a,cs,n,m,rfl,k0,o,s1 _ _ j,y,λr d s v x=>q r d (s1.trans s) (s1.free v) x⟩
theorem Cc{k:RK}(h:ns.length<=16):(rowW k n m ns).length<=100/\∀ w∈rowW k n m ns,w.length<=100:=by
 unfold rowW;refine⟨?_,λw hw=>?_⟩
 . simp only[OA,Oy,NM]
   split <;> split <;> simp <;> lia
 . rcases N4.mp hw with rfl | hw
   . cases k <;> decide
   have h2:∀ x,(numC x).length<=100:=λx=>NY xP #[1];rcases Of.mp hw with hw | hw
   . rcases Of.mp hw with hw | hw
     . split at hw
       . rw[NX.mp hw];exact h2 _
       . cases hw
     . split at hw
       . rw[NX.mp hw];exact h2 _
       . cases hw
   . obtain⟨x,a,rfl⟩:=N9.mp hw;exact h2 _
theorem wb:∀(NC:List (List Nat)),(∀ r∈NC,r.length<=100)->(catL 32 NC).length<=101*NC.length
 | [],_=>OP _
 | [x],h=>by
  have:=h x Oa;show x.length<=101*1;lia
 | x::y::r,h=>by
  have h1:=h x Oa;have b:=wb (y::r) λz a=>h z (N5 _ a);have e:catL 32 (x::y::r)=x++32::catL 32 (y::r):=by first | rfl | simp[catL]
  rw[e,Oy,OA,OA];lia
theorem xV{x:Str}(b:H p=↥((x::xs).map V.str))(q:∀ l,H l=none->Q (.ref l) (upd H l (.lst (xs.map V.str)))):kc (.ref p) (some 1) none H Q:=by
 refine qh b λl a=>?_;rw[Gz];exact q l a
theorem wc {k:RK} {W:Addr} {h w g:Int} {S:V} (F:FlOk h w g) (I:IsFl H p h w g) (A:H W=↥(((rowW k n m ns).map tx).map V.str)) (O:AR k h w g n m ns cs) (P:c.ok k=true)
  (q:∀ r J,Same H J->H r=none->IsRule J c k r p (rowW k n m ns) cs n m->Q (.ref r) J):
  jl K c (eD9 Q) [↑p,some S,↑W,none,none,none,none] H:=by
 obtain⟨k0,n0,Z,N,U,L,l,X⟩:=O;obtain⟨h0,h1,w0,w1,aa,g0,g1⟩:=id F;have e0:atI (((rowW k n m ns).map tx).map V.str) 0=some (V.str (tx (nmC k))):=gc (j:=0) rfl;have u:WOk (ns.map numC):=λv e=>by obtain⟨x,hx,rfl⟩:=N9.mp e;exact xS (l x hx)
 unfold jl;exists ixL A e0 ?_;exists xV A λR hR=>?_;obtain⟨H1,Y,s1,t⟩:=aP (.lst ((((if numK k then [numC n] else [])++(if sgnK k then [numC m] else [])++ns.map numC).map tx).map V.str)) hR;rw[Y];symm
 have y:∀{B:Hp} {z:Addr},Same H B->B z=↥((((if sgnK k then [numC m] else [])++ns.map numC).map tx).map V.str)->
   tSeq (tIfS (tB (tInG gz false (tVar 3))) (tSeq (tAsg (tCall (eJ K) [] E0 (tCons (tVar 4) (tCons (tC (.int 1)) (tCons (tOp cIx (tVar 0) (tC (.int 2))) tNil)))) (gName 6)) (tAsg (tSl kc (tVar 4) (tPart (tC (.int 1))) gb) (gName 4))) tNext) (gq K c) (eD9 Q)
    [↑p,some S,↑W,some (.str (tx (nmC k))),↑z,⇑n,⇑0] B:=by
  intro B z o a;rw[aB,az];symm;rw[Jn]
  cases s:sgnK k with
  | false=>
   rw[s]at a;have:=U s;subst this;exists nA F (o _ _ I) (o _ _ A) a L l k0 P λr d f G x=>q r d (o.trans f) (o.free G) x
  | true=>
   rw[s]at a;have M:=N s;exists ixT (o _ _ I) (v:=V.int g) rfl ?_;exists⟨z,m,ns.map numC,1,g,rfl,a,by lia,u,M.1,M.2,λd f=>?_⟩;exists xV (f _ _ a) λC i=>?_;have E:Same d (upd d C (.lst (((ns.map numC).map tx).map V.str))):=(NP d).laid i;have b:=(o.trans f).trans E;exact nA F (b _ _ I) (b _ _ A) ag L l k0 P λr T s5 G x=>q r T (b.trans s5) (b.free G) x
 rw[az];symm;rw[Jm]
 cases D:numK k with
 | false=>
  rw[D]at t;have:=Z D;subst this;exists y s1 t
 | true=>
  rw[D]at t;exists⟨R,n,(if sgnK k then [numC m] else [])++ns.map numC,0,99,rfl,t,by lia,?_,by lia,by lia,λd f=>?_⟩
  . intro v e;rcases Of.mp e with e | e
    . split at e
      . rename_i s
        have:=N s;rw[NX.mp e];exact xS #[4]
      . cases e
    . exact u v e
  exists xV (f _ _ t) λC i=>?_;have E:Same d (upd d C (.lst ((((if sgnK k then [numC m] else [])++ns.map numC).map tx).map V.str))):=(NP d).laid i;exists y ((s1.trans f).trans E) ag
theorem AS(h:mI K c vs H Q E):mJ K c (eD9 Q) (start ["floor","line","words","name","rest","amount","mark"] vs) H:=by
 obtain⟨k,p,h,w,g,n,m,ns,cs,rfl,i,F,O,s,q⟩:=h
 have j:m<100:=by
  by_cases e:sgnK k=true
  . have:=(O.m0 e).2;have:=F.g1;lia
  . have:=O.mz (by simpa using e);lia
 have a:Txt.split (tx (catL 32 (rowW k n m ns))) (tx [32])=(rowW k n m ns).map tx:=Gw (by simp[rowW]) (E9 (by have:=O.n0;lia) j O.ns0);have d:=Cc (k:=k) (n:=n) (m:=m) O.len;have b:=wb _ d.2;ac_nf;unfold mJ;rw[aB,az];exists⟨G5,?_⟩;rw[Hw,a];refine⟨by rw[mt];decide,by rw[mt];exact OH (Pd b (Pd (Nat.mul_le_mul_left 101 d.1) #[1])),by rw[NM];exact aT #[4],λW l=>?_⟩;have s1:Same H (upd H W (.lst (((rowW k n m ns).map tx).map V.str))):=(NP H).laid l;exact wc F (s1 _ _ i) ag O s λr f o t x=>q r f (s1.trans o) (s1.free t) x
theorem yQ{α β:Type}(f:α->β):∀(l:List α) (j:Nat),(l.map f).eraseIdx j=(l.eraseIdx j).map f
 | [],_=>rfl
 | _::_,0=>rfl
 | x::r,j+1=>by
  show f x::(r.map f).eraseIdx j=f x::(r.eraseIdx j).map f;rw[yQ f r j]
theorem wd{α:Type}:∀(l:List α) (j:Nat) (h:j<l.length),(l[j]::l.eraseIdx j).Perm l
 | [],_,h=>absurd h (by simp)
 | x::r,0,_=>List.Perm.refl _
 | x::r,j+1,h=>by
  have b:j<r.length:=by simpa using h
  have a:=wd r j b;show(r[j]::x::r.eraseIdx j).Perm (x::r);exact(List.Perm.swap x r[j] (r.eraseIdx j)).trans (List.Perm.cons x a)
theorem rV{α β:Type}(f:α->β):∀{l:List α},(l.map f).Nodup->l.Nodup
 | [],_=>PU
 | a::r,h=>by
  rw[OD,OR]at h;rw[OR];exact⟨λz=>h.1 (N9.mpr ⟨a,z,rfl⟩),rV f h.2⟩
theorem Fa(n:Int):(rngL 0 n).Nodup:=by
 unfold rngL;have e:(List.range (n-0).toNat).map (λ(k:Nat)=>0+(k:Int))=(List.range (n-0).toNat).map λ(k:Nat)=>(k:Int):=PJ λk _=>by lia
 rw[e];exact wa List.nodup_range
theorem tU{n x:Int}(h:x∈rngL 0 n):0<=x/\x<n:=by
 unfold rngL at h;obtain⟨k,a,rfl⟩:=N9.mp h;have:=Oe.mp a;lia
def nD(K:Frag)(c:RO):Sp:=dc K c .Unlike
def jm(K:Frag)(c:RO):TS:=#[":glyiE~G~Hbi0a1ch#2 jdrb'j2qAa2c"]
theorem we(h:nD K c vs H Q E):jm K c (eD9 Q) (start ["self","filling","signs"] vs) H:=by
 obtain⟨r,p,f,i,cs,xs,n,m,h,w,g,rfl,x,o,F,j,b,k,q⟩:=h;obtain⟨t,W,C,h1,h2,h3⟩:=x.ex;exists jm;refine methE rfl x.ok h1 (by rfl) ?_;exists⟨r,p,f,i,cs,xs,n,m,rfl,x,j,b,λl v s1 s d=>?_⟩;have u:(sgAt xs cs).length<=100:=by unfold sgAt;rw[NM];exact NY b.1 #[1]
 exists⟨l,_,rfl,d,by lia,?_⟩;symm;rw[bh d,NM];symm;have a:=q _ s1;unfold hoB at a;dsimp only at a
 have e:decide (((cntD (sgAt xs cs):Nat):Int)=((sgAt xs cs).length:Nat))=decide (cntD (sgAt xs cs)=(sgAt xs cs).length):=by
  rw[Om,NU,NU];lia
 rw[e];exact a
theorem HI(h:n<100):((n:Int)).natAbs.log2<1920:=by
 have t:((List.range 100).all λn=>decide (n.log2<1920))=true:=by decide+kernel
 have:=Od.mp t n (Oe.mpr h)
 simpa using this
theorem HJ(h:n<100)(q:Q (.str (tx (numC n))) H):kStr [.int (n:Int)] H Q:=by
 refine⟨HI h,?_⟩;rw[HD h];exact q
theorem Fc {C:Addr} {cs:List Nat} {d:Addr->Hp->Prop} (p:H C=↥((cs.map λ(n:Nat)=>(n:Int)).map V.int)) (s:cs.length<=100) (q:∀ c∈cs,c<100)
  (m:∀ l g,H l=none->Same H g->g l=↥(((cs.map numC).map tx).map V.str)->d l g):CompR (Itl K C) (gName 1) tTrue (tCB kStr (tCons (tVar 1) tNil)) d [none,none] H:=by
 refine bE (xs:=(cs.map λ(n:Nat)=>(n:Int)).map V.int) (λ_=>true) (λi=>.str (tx (numC (cs.getD i 0)))) (by simp;lia) (NW p) ?_ ?_ ?_
 . intro i x b R a s1 k1;exact k1 _ (NP _)
 . intro i x b k a t s1 k1;rw[NR,NR]at a
   cases e:cs[i]? with
   | none=>rw[e]at a;cases a
   | some n=>
    rw[e]at a;cases a;show tCB kStr _ [none,⇑(n:Int)] b k;symm;have j:=k1 _ (NP b);have o:cs.getD i 0=n:=by rw[List.getD,e];rfl
    rw[o]at j;have:=HJ (H:=b) (Q:=k) (q n (NS e)) j;exact this
 . intro l b f s1 r;refine m l b f s1 ?_;rw[r,aZ,NM,NM,Op,Op]
   congr 2
   refine O6 λi=>?_;rw[NR,NR];by_cases h:i<cs.length
   . rw[OQ h,NN h];simp[List.getD,h]
   . rw[Oi (by simpa using h),Oi #[4]];rfl
section
variable{X:Cx}{a:Expr}{ta:TE}{pos p:Pos}{x:Str}{ws:List Str}
theorem wg(G:GTup X.K X.mg x ws)(g:PE X a ta)(l:Gl X x)(c:(x==("__debug__":Str))=false:=by decide)(i:behindInMarks .In (.Name x p)=false:=by with_unfolding_all rfl):PT X (.Compare a [.In] [.Name x p] pos) (tB (tInG ws false ta)):=by
 obtain⟨q,o,j,n,h1,h2⟩:=G.ex;have h0:=aj (pos:=pos) (Jg ⟨o,j,n,h2⟩) g (dQ (v:=V.ref q) l h1 rfl c) i;intro f s σ H Q I h;refine h0 f s σ H Q I ?_
 have e:(λ(x:V) (b:Hp)=>∃ z,x=.str z/\∃ k,V.bl (if false=true then !decide (z∈ws) else decide (z∈ws))=.bl k/\Q k b)=λx b=>∃ z,x=.str z/\(V.ref q=V.ref q)/\∃ k,V.bl (decide (z∈ws))=.bl k/\Q k b:=by
  funext x b;simp
 have d:ta σ H (λ(x:V) (b:Hp)=>∃ z,x=.str z/\∃ k,V.bl (if false=true then !decide (z∈ws) else decide (z∈ws))=.bl k/\Q k b):=h;rw[e]at d;exact d
theorem HK(G:GTup X.K X.mg x ws)(g:PE X a ta)(l:Gl X x)(c:(x==("__debug__":Str))=false:=by decide)(i:behindInMarks .NotIn (.Name x p)=false:=by with_unfolding_all rfl):PT X (.Compare a [.NotIn] [.Name x p] pos) (tB (tInG ws true ta)):=by
 obtain⟨q,o,j,n,h1,h2⟩:=G.ex;have h0:=aj (pos:=pos) (Hz ⟨o,j,n,h2⟩) g (dQ (v:=V.ref q) l h1 rfl c) i;intro f s σ H Q I h;refine h0 f s σ H Q I ?_
 have e:(λ(x:V) (b:Hp)=>∃ z,x=.str z/\∃ k,V.bl (if true=true then !decide (z∈ws) else decide (z∈ws))=.bl k/\Q k b)=λx b=>∃ z,x=.str z/\(V.ref q=V.ref q)/\∃ k,V.bl (!decide (z∈ws))=.bl k/\Q k b:=by
  funext x b;simp
 have d:ta σ H (λ(x:V) (b:Hp)=>∃ z,x=.str z/\∃ k,V.bl (if true=true then !decide (z∈ws) else decide (z∈ws))=.bl k/\Q k b):=h;rw[e]at d;exact d
end
inductive PzK where
 | Puzzle
 deriving DecidableEq
structure RR where
 k:RK
 n:Nat
 m:Nat
 ns:List Nat
 cs:∅
def RR.ws(r:RR):List (List Nat):=rowW r.k r.n r.m r.ns
def RR.txt(r:RR):Str:=tx (catL 32 r.ws)
def RR.Ok(r:RR)(h w g:Int):Prop:=AR r.k h w g r.n r.m r.ns r.cs
structure IsRules(H:Hp)(c:RO)(p L:Addr)(rs:List Addr)(NC:List RR):Prop where
 top:H L=↥(rs.map V.ref)
 len:rs.length=NC.length
 at_:∀(i:Nat) (r:Addr) (x:RR),rs[i]? =some r->NC[i]? =some x->IsRule H c x.k r p x.ws x.cs x.n x.m
variable{H:Hp}{c:RO}{p:Addr}{rs:List Addr}{NC:List RR}
def IsRules.same{a:Hp}{L:Addr}(x:IsRules H c p L rs NC)(s:Same H a):IsRules a c p L rs NC:=
 ⟨s _ _ x.top,x.len,λi r y h1 h2=>(x.at_ i r y h1 h2).same s⟩
variable{cs:∅}{o:HO}
theorem IsRule.lst{k:RK}{r a:Addr}{d:List (List Nat)}{n m:Int}{xs:List V}(x:IsRule H c k r p d cs n m)(b:H a=↥xs):IsRule (upd H a o) c k r p d cs n m:=by
 obtain⟨f,W,C,h1,h2,h3⟩:=x.ex;refine⟨x.ok,f,W,C,?_,?_,?_⟩
 . rw[ah (λe=>by rw[e,b]at h1;cases h1)];exact h1
 . rw[ah (λe=>by rw[e,b]at h2;cases h2)];exact h2
 . rw[ah (λe=>by rw[e,b]at h3;cases h3)];exact h3
def pFs(p L G:Addr):List (Str × V):=[("floor",.ref p),("laws",.ref L),("given",.ref G)]
structure ie(c:RO)(h w g:Int)(NC:List RR):Prop where
 F:FlOk h w g
 n:NC.length<=12
 ok:∀ r∈NC,r.Ok h w g
 c:∀ r∈NC,c.ok r.k=true
structure CluesOk(h w g:Int)(cl:∅):Prop where
 len:cl.length=(h*w).toNat
 ok:∀ x∈cl,0<=x/\x<=g
abbrev RP:=RCl PzK
structure IsPz(H:Hp)(c:RO)(d:RP)(P L G:Addr)(h w g:Int)(NC:List RR)(cl:∅):Prop where
 ok:d.ok .Puzzle=true
 R:ie c h w g NC
 C:CluesOk h w g cl
 gv:H G=↥(cl.map V.int)
 ex:∃ dx p rs,H P=some (.ins (d.A .Puzzle) dx (pFs p L G))/\IsFl H p h w g/\IsRules H c p L rs NC
variable{d:RP}{cl:∅}
theorem IsPz.same{a:Hp}{P L G:Addr}{h w g:Int}(x:IsPz H c d P L G h w g NC cl)(s:Same H a):IsPz a c d P L G h w g NC cl:=by
 obtain⟨b,p,rs,h1,h2,h3⟩:=x.ex;exact⟨x.ok,x.R,x.C,s _ _ x.gv,b,p,rs,s _ _ h1,s _ _ h2,h3.same s⟩
def ig(K:Frag):Sp:=#[3,∃ i:Int,vs=[.int i]/\Q (.bl true) H]
def oH(K:Frag):TS:=#[":jLqWa0aeX~Ic'lqWa0aeX~*c"]
variable{K:Frag}{vs:List V}{Q:VK}{E:XK}
theorem Cd(h:ig K vs H Q E):oH K (eD9 Q) (start ["value"] vs) H:=by
 obtain⟨i,rfl,q⟩:=h;exists oH;exact q
def cP(K:Frag):Sp:=#[3,∃ i m:Int,vs=[.int i,.int m]/\Q (.bl (decide (1<=i)&&decide (i<=m))) H]
def gU(K:Frag):TS:=#[":jL,~+ba0cLd(ef#1 0d(01"]
theorem t1(h:cP K vs H Q E):gU K (eD9 Q) (start ["value","most"] vs) H:=by
 obtain⟨i,m,rfl,q⟩:=h;exists gU;refine⟨i,rfl,⟨true,rfl,iteT ?_⟩⟩;symm
 cases a:decide (1<=i) with
 | false=>
  rw[a,Oc]at q;exact iteF q
 | true=>
  rw[a,Ob]at q;exact iteT q
def oI(K:Frag):Sp:=#[3,∃ h w g:Int,vs=[.int h,.int w,.int g]/\FlOk h w g/\∀ p,H p=none->Q (.ref p) (upd H p (.tup [.int h,.int w,.int g]))]
def oJ(K:Frag):TS:=#[":gnKx,~Jba0aef#6 cVognKx,~Jba1aef#6 cVognmd>dY01ef#16 VognKx,~Jba2aef#6 cVojOa0a1a2c"]
theorem Ce(h:oI K vs H Q E):oJ K (eD9 Q) (start ["high","wide","signs"] vs) H:=by
 obtain⟨h,w,g,rfl,F,q⟩:=h;obtain⟨h0,h1,e,d,b,a,c⟩:=id F;ac_nf;unfold oJ;rw[aB,az];exists⟨h,6,rfl,⟨_,rfl,?_⟩⟩;rw[NT h0,NT h1,RE];refine iteF ?_;rw[az];exists⟨w,6,rfl,⟨_,rfl,?_⟩⟩;rw[NT e,NT d,RE];refine iteF ?_;rw[az];exists⟨rP h0 h1,?_⟩;rw[NQ (show ¬ (16:Int)<h*w by lia)];refine iteF ?_;rw[az];exists⟨g,6,rfl,⟨_,rfl,?_⟩⟩;rw[NT a,NT c,RE];refine iteF ?_;exists⟨lnR rfl,q⟩
def iD(K:Frag):Sp:=#[3,∃ p h w g,vs=[.ref p]/\IsFl H p h w g/\FlOk h w g/\∀ p,H p=none->Q (.ref p) (upd H p (.tup [.int h,.int w,.int g]))]
def iE(K:Frag):TS:=#[":gnJKxqWa0aeX~-cmdBbqAa0cef#3 Voj,'-badk0ef#0 adk0ef#1 adk0ef#2 c"]
theorem uX(h:iD K vs H Q E):iE K (eD9 Q) (start ["floor"] vs) H:=by
 obtain⟨p,h,w,g,rfl,a,F,q⟩:=h;ac_nf;unfold iE;rw[aB,az];exists AC a ?_;symm;rw[EN a,show(([V.int h,V.int w,V.int g]:List V).length:Int)=3 from rfl];exists ixT a (v:=V.int h) rfl ?_;exists ixT a (v:=V.int w) rfl ?_;exists ixT a (v:=V.int g) rfl ?_;exists⟨h,w,g,rfl,F,q⟩
def lf(K:Frag)(c:RO):Sp:=#[3,∃ p a h w g NC,vs=[.ref p,.ref a]/\IsFl H p h w g/\H a=↥((NC.map RR.txt).map V.str)/\ie c h w g NC/\
 ∀ l rs b,Same H b->H l=none->IsRules b c p l rs NC->Q (.ref l) b]
def lg(K:Frag)(c:RO):TS:=#[":gnmd>qAa1cef#12 Vojw&--0 sb1h#1 D,'/bia2a1c"]
theorem zu(h:lf K c vs H Q E):lg K c (eD9 Q) (start ["floor","lines"] vs) H:=by
 obtain⟨p,a,h,w,g,NC,rfl,M,v,O,q⟩:=h;have R:=O.n;ac_nf;unfold lg;rw[aB,az];symm;rw[bh v,NM,NM];symm;rw[NQ (show ¬ (12:Int) < (NC.length:Nat) by lia)];refine iteF ?_;exists⟨⟨_,NW v⟩,?_⟩
 refine nr (xs:=(NC.map RR.txt).map V.str) (λl i σ t=>(∃ G,σ=[none,G,↑p])/\Same H t/\∃ rs:List Addr,t l=↥(rs.map V.ref)/\rs.length=i/\∀(j:Nat) (r:Addr) (x:RR),rs[j]? =some r->NC[j]? =some x->IsRule t c x.k r p x.ws x.cs x.n x.m)
  (λl f=>⟨⟨none,rfl⟩,(NP H).laid f,[],by rw[ag];rfl,rfl,λj r x e=>by simp at e⟩) (λl i σ t _ _ x=>x.2.1.seq (NW v)) ?_ ?_
 . rintro l i x σ B f s ⟨⟨G,rfl⟩,s1,rs,d,A,b⟩;rw[NR,NR]at s
   cases e:NC[i]? with
   | none=>rw[e]at s;cases s
   | some y=>
    rw[e]at s;cases s;have T:=(NO.mp e).1;have C:=NS e;rw[aL];show tTrue [none,some (.str y.txt),↑p] B _;exists⟨y.k,p,h,w,g,y.n,y.m,y.ns,y.cs,rfl,s1 _ _ M,O.F,O.ok y C,O.c y C,λr S o D P=>?_⟩;have I:r≠l:=λz=>by rw[z,d]at D;cases D
    refine⟨_,o _ _ d,by rw[NM];exact aC #[4],⟨_,rfl⟩,(s1.trans o).own f,rs++[r],by rw[ag];simp,by simp[A],λj N J h1 h2=>?_⟩;by_cases L:j<rs.length
    . rw[Ow L]at h1;exact((b j N J h1 h2).same o).lst (o _ _ d)
    . rw[Ot #[4]]at h1
      have u:j-rs.length=0:=by
       have:=(NO.mp h1).1;simp at this;lia
      rw[u]at h1;have:j=i:=by lia
      subst this;rw[e]at h2;simp at h1;cases h2;subst h1;exact P.lst (o _ _ d)
 . rintro l σ B f ⟨_,s1,rs,d,A,b⟩;exact q l rs B s1 f ⟨d,by rw[A];simp,b⟩
def filB(a g:Int)(n:Nat)(xs:∅):Bool:=decide (xs.length=n)&&xs.all λx=>decide (a<=x)&&decide (x<=g)
def ip(K:Frag):Sp:=#[3,∃ p a h w g b xs,vs=[.ref p,.ref a,.int b]/\IsFl H p h w g/\FlOk h w g/\H a=↥(xs.map V.int)/\xs.length<=100/\∀ c,Same H c->Q (.bl (filB b g (h*w).toNat xs)) c]
def li(K:Frag):TS:=#[":gnJKxqWa1aeXFcmdBbqAa1c,~hba0cjeGzojq*aw&--02 sb1h#1 DL,~+ba1cLd(31d(1dk2ef#2 c"]
theorem zv(h:ip K vs H Q E):li K (eD9 Q) (start ["floor","filling","least"] vs) H:=by
 obtain⟨p,a,h,w,g,b,xs,rfl,m,F,d,G,q⟩:=h;obtain⟨h0,h1,C,I,t,D,B⟩:=id F;have j:0<=h*w:=Pm #[4] #[4];ac_nf;unfold li;rw[aB,az];exists vW d ?_;symm;rw[bh d,NM];exists⟨p,h,w,g,rfl,m,h0,h1,?_⟩;symm;unfold filB at q;by_cases k:xs.length=(h*w).toNat
 . rw[NT (show(xs.length:Int)=h*w by lia)];rw[NT k]at q;exists⟨⟨_,NW d⟩,?_⟩;refine bE (xs:=xs.map V.int) (λ_=>true) (λi=>.bl (decide (b<=xs.getD i 0)&&decide (xs.getD i 0<=g))) (by rw[NM];lia) (NW d) ?_ ?_ ?_
   . intro i x e R o s1 k1;exact k1 _ (NP _)
   . intro i x e y o f s1 k1;obtain⟨z,s,rfl⟩:=aK o;have c:=k1 _ (NP e);rw[dU s]at c;show tAndV _ _ [none,⇑z,↑p,⇑b] e y;exists⟨z,rfl,⟨true,rfl,iteT ?_⟩⟩;symm
     cases f:decide (b<=z) with
     | false=>
      rw[f,Oc]at c;exact iteF c
     | true=>
      rw[f,Ob]at c;refine iteT ?_;exists ixT (s1 _ _ m) (v:=V.int g) rfl ?_;symm;exact c
   . intro l e u s1 n
     have A:((List.range (xs.map V.int).length).filter λ_=>true).map (λi=>V.bl (decide (b<=xs.getD i 0)&&decide (xs.getD i 0<=g)))=(xs.map λx=>decide (b<=x)&&decide (x<=g)).map V.bl:=by
      rw[aZ,NM];refine O6 λi=>?_;rw[NR,NR,NR];by_cases h:i<xs.length
      . rw[OQ h,NN h];simp[List.getD,h]
      . rw[Oi (by simpa using h),Oi #[4]];rfl
     rw[A]at n;refine jh n ?_;have r:(xs.map λx=>decide (b<=x)&&decide (x<=g)).all id=xs.all λx=>decide (b<=x)&&decide (x<=g):=by rw[Pl];rfl
     rw[r];exact q _ s1
 . rw[NQ (show ¬ (xs.length:Int)=h*w by lia)];rw[NQ k]at q;exists q _ (NP _)
def iF(K:Frag):Sp:=#[3,∃ p a h w g xs,vs=[.ref p,.ref a]/\IsFl H p h w g/\FlOk h w g/\H a=↥(xs.map V.int)/\CluesOk h w g xs/\∀ l b,Same H b->H l=none->b l=↥(xs.map V.int)->Q (.ref l) b]
def iG(K:Frag):TS:=#[":gnKx,'mba0a1aef#0 cVojq~la1c"]
theorem CluesOk.fil{h w g:Int}{xs:∅}(C:CluesOk h w g xs):filB 0 g (h*w).toNat xs=true:=by
 unfold filB;rw[NT C.len,Ob,Od];intro x a;have:=C.ok x a;simp[this.1,this.2]
theorem uY(h:iF K vs H Q E):iG K (eD9 Q) (start ["floor","clues"] vs) H:=by
 obtain⟨p,a,h,w,g,xs,rfl,e,F,b,C,q⟩:=h;obtain⟨h0,h1,k,j,d,i,f⟩:=id F;ac_nf;unfold iG;rw[aB,az];exists⟨p,a,h,w,g,0,xs,rfl,e,F,b,by have:=C.len;lia,λm s1=>?_⟩;rw[C.fil];refine⟨true,rfl,iteF ?_⟩;exists rN (s1 _ _ b) λl c=>?_;exact q l _ (s1.laid c) (s1.free c) ag
theorem IsRule.ins{k:RK}{r a:Addr}{f:List (List Nat)}{n m:Int}{C h:Addr}{g:List (Str × V)}(x:IsRule H c k r p f cs n m)(b:H a=some (.ins C h g))(i:g.length≠5):IsRule (upd H a o) c k r p f cs n m:=by
 obtain⟨d,W,j,h1,h2,h3⟩:=x.ex;refine⟨x.ok,d,W,j,?_,?_,?_⟩
 . rw[ah (λe=>by rw[e,b]at h1;cases h1;exact i rfl)];exact h1
 . rw[ah (λe=>by rw[e,b]at h2;cases h2)];exact h2
 . rw[ah (λe=>by rw[e,b]at h3;cases h3)];exact h3
def IsRules.ins{L a:Addr}{C g:Addr}{b:List (Str × V)}(x:IsRules H c p L rs NC)(d:H a=some (.ins C g b))(f:b.length≠5):IsRules (upd H a o) c p L rs NC:=
 ⟨by rw[ah (λe=>by have:=x.top;rw[e,d]at this;cases this)];exact x.top,x.len,λi r y h1 h2=>(x.at_ i r y h1 h2).ins d f⟩
def cZ(K:Frag)(c:RO)(d:RP):Sp:=#[3,∃ x f p a b h w g NC cl,vs=[.ref x,.ref p,.ref a,.ref b]/\d.ok .Puzzle=true/\H x=some (.ins (d.A .Puzzle) f [])/\IsFl H p h w g/\H a=↥((NC.map RR.txt).map V.str)/\H b=↥(cl.map V.int)/\ie c h w g NC/\CluesOk h w g cl/\
 ∀ L G e,(∀ y o,y≠x->H y=some o->e y=some o)->H L=none->H G=none->IsPz e c d x L G h w g NC cl->Q .non e]
def gB(K:Frag)(c:RO)(d:RP):TS:=#[":g~bp0,':ba1c?g~bp0,';biaMp0?a2c~/~bp0,'?baMp0?a3c~:"]
theorem rW(h:cZ K c d vs H Q E):gB K c d (eD9 Q) (start ["self","floor","lines","clues"] vs) H:=by
 obtain⟨x,i,p,a,b,h,w,g,NC,cl,rfl,t,N,hp,U,Y,R,C,q⟩:=h;ac_nf;unfold gB sFldK;exists⟨p,h,w,g,rfl,hp,R.F,λf D=>?_⟩;have j:x≠f:=av N D;refine⟨x,.Puzzle,i,[],rfl,t,by rw[ah j];exact N,by show(0:Nat)<1000;decide,?_⟩
 have f1:∀ y o,y≠x->H y=some o->(upd (upd H f (.tup [.int h,.int w,.int g])) x (.ins (d.A .Puzzle) i (putF "floor" (.ref f) []))) y=some o:=λy o s e=>by
  rw[ah s,ah (av e D)];exact e
 have m:(upd (upd H f (.tup [.int h,.int w,.int g])) x (.ins (d.A .Puzzle) i (putF "floor" (.ref f) []))) x=some (.ins (d.A .Puzzle) i [("floor",.ref f)]):=ag
 have r:IsFl (upd (upd H f (.tup [.int h,.int w,.int g])) x (.ins (d.A .Puzzle) i (putF "floor" (.ref f) []))) f h w g:=by
  show(upd (upd H f (.tup [.int h,.int w,.int g])) x _) f=_;rw[ah j.symm,ag]
 have J:∀ l,(upd (upd H f (.tup [.int h,.int w,.int g])) x (.ins (d.A .Puzzle) i (putF "floor" (.ref f) []))) l=none->H l=none:=λl e=>by
  have n1:l≠x:=λz=>by rw[z,ag]at e;cases e
  rw[ah n1]at e;have n2:l≠f:=λz=>by rw[z,ag]at e;cases e
  rw[ah n2]at e;exact e
 have S:a≠x:=λz=>by rw[z,N]at U;cases U
 have T:b≠x:=λz=>by rw[z,N]at Y;cases Y
 generalize upd (upd H f (.tup [.int h,.int w,.int g])) x (.ins (d.A .Puzzle) i (putF "floor" (.ref f) []))=H1 at*;refine fldE (c:=d) (k:=.Puzzle) rfl t m (v:=.ref f) (by rfl) ?_;exists⟨f,a,h,w,g,NC,rfl,r,f1 a _ S U,R,λL rs u I P X=>?_⟩;refine⟨x,.Puzzle,i,_,rfl,t,I _ _ m,by show(1:Nat)<1000;decide,?_⟩;have aa:L≠x:=λz=>by rw[z,m]at P;cases P
 have X3:=X.ins (o:=.ins (d.A .Puzzle) i (putF "laws" (.ref L) [("floor",.ref f)])) (I _ _ m) (by show(1:Nat)≠5;decide)
 have f2:∀ y o,y≠x->H y=some o->(upd u x (.ins (d.A .Puzzle) i (putF "laws" (.ref L) [("floor",.ref f)]))) y=some o:=λy o s e=>by
  rw[ah s];exact I _ _ (f1 y o s e)
 have n:(upd u x (.ins (d.A .Puzzle) i (putF "laws" (.ref L) [("floor",.ref f)]))) x=some (.ins (d.A .Puzzle) i [("floor",.ref f),("laws",.ref L)]):=ag
 have M:IsFl (upd u x (.ins (d.A .Puzzle) i (putF "laws" (.ref L) [("floor",.ref f)]))) f h w g:=by
  show(upd u x _) f=_;rw[ah j.symm];exact I _ _ r
 have W:∀ l,(upd u x (.ins (d.A .Puzzle) i (putF "laws" (.ref L) [("floor",.ref f)]))) l=none->H1 l=none:=λl e=>by
  have n1:l≠x:=λz=>by rw[z,ag]at e;cases e
  rw[ah n1]at e;exact I.free e
 generalize upd u x (.ins (d.A .Puzzle) i (putF "laws" (.ref L) [("floor",.ref f)]))=H3 at*;refine fldE (c:=d) (k:=.Puzzle) rfl t n (v:=.ref f) (by rfl) ?_;exists⟨f,b,h,w,g,cl,rfl,M,R.F,f2 b _ T Y,C,λG H4 B O eG=>?_⟩;refine⟨x,.Puzzle,i,_,rfl,t,B _ _ n,by show(2:Nat)<1000;decide,?_⟩;have Z:G≠x:=λz=>by rw[z,n]at O;cases O
 refine q L G _ (λy o s e=>?_) (J L P) (J G (W G O)) ⟨t,R,C,?_,i,f,rs,?_,?_,?_⟩
 . rw[ah s];exact B _ _ (f2 y o s e)
 . rw[ah Z];exact eG
 . rw[ag];rfl
 . show(upd H4 x _) f=_;rw[ah j.symm];exact B _ _ M
 . exact(X3.same B).ins (B _ _ n) (by show(2:Nat)≠5;decide)
theorem Jo {Z:Addr->Hp->Prop} {a b:Addr} {h w g:Int} (D:d.ok .Puzzle=true) (u:IsFl H p h w g) (r:H a=↥((NC.map RR.txt).map V.str)) (F:H b=↥(cl.map V.int)) (R:ie c h w g NC) (C:CluesOk h w g cl)
  (q:∀ P L G i,Same H i->H P=none->H L=none->H G=none->IsPz i c d P L G h w g NC cl->Z P i):
  ∀ x f,H x=none->H f=none->f≠x->cZ K c d (.ref x::([.ref p,.ref a,.ref b]++[])) (upd (upd H f (.own x)) x (.ins (d.A .Puzzle) f [])) (λv m=>v=.non/\Z x m) E0:=by
 intro x f j I J;have k:∀ y o,H y=some o->(upd (upd H f (.own x)) x (.ins (d.A .Puzzle) f [])) y=some o:=λy o e=>by rw[ah (av e j),ah (av e I)];exact e
 have l:∀ y,(upd (upd H f (.own x)) x (.ins (d.A .Puzzle) f [])) y=none->H y=none:=λy e=>by
  have s:y≠x:=λz=>by rw[z,ag]at e;cases e
  rw[ah s]at e;have E:y≠f:=λz=>by rw[z,ag]at e;cases e
  rw[ah E]at e;exact e
 exact⟨x,f,p,a,b,h,w,g,NC,cl,rfl,D,ag,k _ _ u,k _ _ r,k _ _ F,R,C,λL G i t B n X=>⟨rfl,q x L G i (λy o e=>t y o (av e j) (k _ _ e)) j (l L B) (l G n) X⟩⟩
def iH(K:Frag)(c:RO)(d:RP)(_:PzK):Sp:=#[3,∃(P L G:Addr) (h w g:Int) (NC:List RR) (cl:∅),vs=[.ref P]/\IsPz H c d P L G h w g NC cl/\∀ p,IsFl H p h w g->Q (.ref p) H]
def nE(K:Frag)(c:RO)(d:RP):Sp:=iH K c d .Puzzle
def jn(K:Frag)(c:RO)(d:RP):TS:=#[":jMp0?"]
theorem wj(h:nE K c d vs H Q E):jn K c d (eD9 Q) (start ["self"] vs) H:=by
 obtain⟨P,L,G,h,w,g,NC,cl,rfl,x,q⟩:=h;obtain⟨a,p,rs,h1,h2,h3⟩:=x.ex;exists jn;exact fldE (k:=.Puzzle) rfl x.ok h1 (v:=.ref p) (by rfl) (q p h2)
def uZ(K:Frag)(c:RO)(d:RP)(_:PzK):Sp:=#[3,∃(P L G:Addr) (h w g:Int) (NC:List RR) (cl:∅),vs=[.ref P]/\IsPz H c d P L G h w g NC cl/\∀ l,H l=none->Q (.ref l) (upd H l (.lst (cl.map V.int)))]
def nG(K:Frag)(c:RO)(d:RP):Sp:=uZ K c d .Puzzle
def jo(K:Frag)(c:RO)(d:RP):TS:=#[":jq~laMp0~:c"]
theorem wk(h:nG K c d vs H Q E):jo K c d (eD9 Q) (start ["self"] vs) H:=by
 obtain⟨P,L,G,h,w,g,NC,cl,rfl,x,q⟩:=h;obtain⟨a,p,rs,h1,h2,h3⟩:=x.ex;exists jo;refine fldE (k:=.Puzzle) rfl x.ok h1 (v:=.ref G) (by rfl) ?_;exists rN x.gv q
def e8(K:Frag)(c:RO)(d:RP)(_:PzK):Sp:=#[3,∃(P L G:Addr) (h w g:Int) (NC:List RR) (cl:∅),vs=[.ref P]/\IsPz H c d P L G h w g NC cl/\∀ l p rs,H l=none->IsFl (upd H l (.lst (rs.map V.ref))) p h w g->IsRules (upd H l (.lst (rs.map V.ref))) c p l rs NC->Q (.ref l) (upd H l (.lst (rs.map V.ref)))]
def nI(K:Frag)(c:RO)(d:RP):Sp:=e8 K c d .Puzzle
def jp(K:Frag)(c:RO)(d:RP):TS:=#[":jq~laMp0~/c"]
theorem wl(h:nI K c d vs H Q E):jp K c d (eD9 Q) (start ["self"] vs) H:=by
 obtain⟨P,L,G,h,w,g,NC,cl,rfl,x,q⟩:=h;obtain⟨b,p,rs,h1,h2,h3⟩:=x.ex;exists jp;refine fldE (k:=.Puzzle) rfl x.ok h1 (v:=.ref L) (by rfl) ?_;exists rN h3.top λl a=>?_;have s1:Same H (upd H l (.lst (rs.map V.ref))):=(NP H).laid a;exact q l p rs a (s1 _ _ h2) ⟨ag,h3.len,λi r y e1 e2=>(h3.at_ i r y e1 e2).same s1⟩
inductive DRows(w:World)(K:Frag):List DictEntry->List (Str × List Str)->Prop
 | nil:DRows w K [] []
 | cons {hsh:Int} {k:Str} {t:Tok} {q:Addr} {o:Obj} {NF:Array Value} {n:Nat} {ws:List Str} {es:List DictEntry} {D:List (Str × List Str)}:hsh=hashStr w k->K.lookup q=some o->o.cls=.type "tuple"->o.data=.seq NF n->NF.size<=sizeLine->Vals (ws.map V.str) NF.toList->DRows w K es D->DRows w K (⟨hsh,.str k t,.ref q⟩::es) ((k,ws)::D)
structure GDict(w:World)(K:Frag)(mg:Str->Option Value)(x:Str)(D:List (Str × List Str)):Prop where
 ex:∃(p:Addr) (o:Obj) (es:Array DictEntry) (ep:Nat),mg x=↑p/\K.lookup p=some o/\o.ExactDict/\o.data=.dict es ep/\DRows w K es.toList D/\(D.map λx=>x.1).Nodup
theorem DRows.of{P:Program}{w:World}{K:Frag}{f:List DictEntry}{D:List (Str × List Str)}(h:DRows w K f D):
  ∃ b:List (Str × Value),Pairs (strKind P w) f b/\b.map (λx=>x.1)=D.map (λx=>x.1)/\(∀ e∈f,∃ k,(strKind P w).is k e.key=true/\e.hash=(strKind P w).hash k)/\
   ∀ k c,D.lookup k=some c->∃ q,valueAt b k=↑q/\∃(o:Obj) (NF:Array Value) (n:Nat),K.lookup q=some o/\o.cls=.type "tuple"/\o.data=.seq NF n/\NF.size<=sizeLine/\Vals (c.map V.str) NF.toList:=by
 induction h with
 | nil=>exact⟨[],.nil,rfl,λe he=>(by cases he),λk c e=>(by cases e)⟩
 | @cons m k t q o NF n c f D h1 h2 h3 h4 h5 h6 _ u=>
  obtain⟨b,j,v,l,r⟩:=u;have i:(strKind P w).is k (.str k t)=true:=by show(k==k)=true;simp
  refine⟨(k,.ref q)::b,.cons i rfl j,by rw[OD,OD,v],λe he=>?_,λd g e=>?_⟩
  . rcases N4.mp he with rfl | he
    . exact⟨k,i,h1⟩
    . exact l e he
  . rw[OM]at e;unfold valueAt;rw[Pw];by_cases a:d=k
    . subst a;simp at e;subst e;refine⟨q,by simp,o,NF,n,h2,h3,h4,h5,h6⟩
    . have s:(d==k)=false:=by simpa using a
      rw[s]at e;have p:decide (k=d)=false:=NQ (λz=>a z.symm);dsimp only;rw[p];exact r d g e
def tIxG(K:Frag)(D:List (Str × List Str))(te:TE):TE:=λσ H Q=>te σ H λy b=>∃ k a,y=.str k/\D.lookup k=some a/\∀ q,SqT K b q (a.map V.str)->Q (.ref q) b
def rInS(K:Frag):R2:=λx y H Q=>∃(z:Str) (q:Addr) (a:List Str),x=.str z/\y=.ref q/\SqT K H q (a.map V.str)/\Q (.bl (decide (z∈a))) H
section
variable{X:Cx}{a b:Expr}{ta tb:TE}{pos p:Pos}{x:Str}{D:List (Str × List Str)}
theorem Jp(G:GDict X.w X.K X.mg x D)(S:PE X b tb)(hg:Gl X x)(j:xH b)(l:(x==("__debug__":Str))=false:=by decide):PE X (.Subscript (.Name x p) b pos) (tIxG X.K D tb):=by
 obtain⟨d,o,N,O,h1,h2,h3,h4,h5,h6⟩:=G.ex;obtain⟨NE,U,E,W,Z⟩:=h5.of (P:=X.prog)
 have J:IxR X (λx y H Q=>x=.ref d/\∃ k a,y=.str k/\D.lookup k=some a/\∀ q,SqT X.K H q (a.map V.str)->Q (.ref q) H):=by
  intro i g A s σ H x y v u Q I rx ry h Y;obtain⟨rfl,k,a,rfl,R,q⟩:=h;cases (show v=Value.ref d from rx);have f:s.heap.get? d=some o:=I.kIn d o h2;have z:Heap.DictOf (strKind X.prog X.w) s.heap d NE:=⟨o,N,O,f,h3,h4,λe he=>W e (Array.mem_toList_iff.mpr he),U,by rw[E];exact h6⟩;obtain⟨m,hv,o2,M,n,B,C,T,g4,F⟩:=Z k a R;obtain⟨t,rfl⟩:∃ t,u=Value.str k t:=ry;have L:(strKind X.prog X.w).is k (.str k t)=true:=by show(k==k)=true;simp
  refine RJ z.typeIs QK.lookup (wpAny_getItem_of L z.mapOf hv ?_) Y;exact⟨.ref m,H,I.tok _,rfl,q m (.inr ⟨o2,M,n,B,C,T,g4,F⟩)⟩
 have h0:=z8 (pos:=pos) J (dQ (pos:=p) (v:=V.ref d) hg h1 rfl l) S j;intro A s σ H Q I h;refine h0 A s σ H Q I ?_
 have e:(λ(y:V) (c:Hp)=>∃ k a,y=.str k/\D.lookup k=some a/\∀ q,SqT X.K c q (a.map V.str)->Q (.ref q) c)=λy c=>(V.ref d=V.ref d)/\∃ k a,y=.str k/\D.lookup k=some a/\∀ q,SqT X.K c q (a.map V.str)->Q (.ref q) c:=by
  funext y c;simp
 have r:tb σ H (λ(y:V) (c:Hp)=>∃ k a,y=.str k/\D.lookup k=some a/\∀ q,SqT X.K c q (a.map V.str)->Q (.ref q) c):=h;rw[e]at r;exact r
theorem Jq:OpR X (compareOp .In) (rInS X.K):=by
 intro b s σ H x y v u Q I d e h;obtain⟨z,q,a,rfl,rfl,c,h⟩:=h;refine np b s σ H _ _ v u Q I d e ⟨q,a.map V.str,rfl,.inr c,rfl,i7 a,?_⟩;rw[ke];exact h
end
section
variable{K:Frag}{σ:St}{H:Hp}{Q:VK}{te:TE}{D:List (Str × List Str)}
def J0:tIxG K D te σ H Q=te σ H λy b=>∃ k a,y=.str k/\D.lookup k=some a/\∀ q,SqT K b q (a.map V.str)->Q (.ref q) b:=rfl
end
def ws5:String:="aB if_true if_false Bool.false_eq_true decide_true decide_false cN cO fk bJ bu cK dj cM bI dg dh bH fh bK bL bN bO bP bQ bM dk dm dn df fj Bool.not_true Bool.not_false aB "++ws1
local macro_rules|`(tactic|walk_at "w")=>wk9 ws5
def stB(m s:Int):Bool:=decide (1<=s)&&(decide (s<=((Builtin.Int.intBits m:Nat):Int))&&decide (m/2^(s-1).toNat%2=1))
def gC(K:Frag):Sp:=#[3,∃ m s:Int,vs=[.int m,.int s]/\Q (.bl (stB m s)) H]
def rX(K:Frag):TS:=#[":jLd(ef#1 1Ld(1~;b~I'n0drbdSd'[0dU1ef#1 ef#2 ef#1 "]
variable{K:Frag}{vs:List V}{H:Hp}{Q:VK}{E:XK}
theorem Fd(h:gC K vs H Q E):rX K (eD9 Q) (start ["mask","sign"] vs) H:=by
 obtain⟨m,s,rfl,q⟩:=h;exists rX;unfold stB at q
 cases h1:decide (1<=s) with
 | false=>rw[h1,Oc]at q;exact iteF q
 | true=>
  refine iteT ⟨rfl,?_⟩;symm;rw[h1,Ob]at q
  cases h2:decide (s<=((Builtin.Int.intBits m:Nat):Int)) with
  | false=>rw[h2,Oc]at q;exact iteF q
  | true=>
   rw[h2,Ob]at q;exact iteT ⟨by have:=Oj h1;lia,by decide,q⟩
def nJ(K:Frag):Sp:=#[3,∃ s:Int,vs=[.int s]/\1<=s/\s<=100000/\Q (.int (2^(s-1).toNat)) H]
def rY(K:Frag):TS:=#[":glef#1 h#1 gI~gadU0ef#1 ch#2 ldY1ef#2 h#1 j1"]
theorem Fe(h:nJ K vs H Q E):rY K (eD9 Q) (start ["sign","bit","step"] vs) H:=by
 obtain⟨s,rfl,h1,h2,q⟩:=h;exists rY;refine⟨s-1,rfl,by lia,by lia,?_⟩;refine no (λi σ a=>∃ b:Option V,σ=[⇑s,⇑(2^i),b]/\a=H) ⟨none,rfl,rfl⟩ ?_ ?_
 . rintro i σ a c ⟨b,rfl,rfl⟩;exists⟨.inr ⟨by decide,by decide⟩,?_⟩;simp[Int.pow_succ]
 . rintro σ a ⟨b,rfl,rfl⟩;symm;exact q
def woI(m s:Int):Int:=if stB m s=true then m-2^(s-1).toNat else m
def lW(K:Frag):Sp:=#[3,∃ m s:Int,vs=[.int m,.int s]/\s<=100000/\Q (.int (woI m s)) H]
def qt(K:Frag):TS:=#[":j~mx,~xba0a1cdU0,'oba1c0"]
theorem Dw(h:lW K vs H Q E):qt K (eD9 Q) (start ["mask","sign"] vs) H:=by
 obtain⟨m,s,rfl,h2,q⟩:=h;exists qt;refine⟨m,s,rfl,_,rfl,?_⟩;unfold woI at q
 cases a:stB m s with
 | false=>
  rw[a,Og NV]at q;exact iteF q
 | true=>
  rw[a,Os rfl]at q;refine iteT ⟨s,rfl,?_,h2,?_⟩
  . unfold stB at a;rw[OB,NU]at a;exact a.1
  . symm;exact q
def dP(K:Frag):Sp:=#[3,∃ m s:Int,vs=[.int m,.int s]/\s<=100000/\Q (.bl (decide (woI m s=0))) H]
def oK(K:Frag):TS:=#[":jdrb,'pba0a1cef#0 "]
theorem Cf(h:dP K vs H Q E):oK K (eD9 Q) (start ["mask","sign"] vs) H:=by
 obtain⟨m,s,rfl,h2,q⟩:=h;exists oK;refine⟨m,s,rfl,h2,?_⟩;symm;exact q
def sgL(m:Int):∅:=((List.range (Builtin.Int.intBits m)).filter λ(i:Nat)=>stB m (1+(i:Int))).map λ(i:Nat)=>1+(i:Int)
def bt(K:Frag):Sp:=#[3,∃ m:Int,vs=[.int m]/\Builtin.Int.intBits m<=900/\∀ l a,Same H a->H l=none->a l=↥((sgL m).map V.int)->Q (.ref l) a]
def oM(K:Frag):TS:=#[":jw&--0 'qaef#1 adC~;b~I'n0ef#1 ch#1 x,~xba2a1c1"]
theorem Cg(h:bt K vs H Q E):oM K (eD9 Q) (start ["mask"] vs) H:=by
 obtain⟨m,rfl,b,k⟩:=h;exists oM;refine⟨rfl,1,_,rfl,by lia,?_⟩;have e:(((Builtin.Int.intBits m:Nat):Int)+1-1).toNat=Builtin.Int.intBits m:=by lia
 rw[e];refine uo (λ(i:Nat)=>stB m (1+(i:Int))) (λ(i:Nat)=>1+(i:Int)) b ?_ ?_ ?_
 . intro i a R c s1 k1;show tB _ [none,⇑(1+(i:Int)),⇑m] a R;exists⟨m,_,rfl,_,rfl,k1 _ (NP _)⟩
 . intro i a g c b s1 k1;exact k1 _ (NP _)
 . intro l a d s1 f;exact k l a s1 d f
local macro_rules|`(tactic|walk_at "w")=>wk9 ws4
inductive TK where
 | clue | only | place | count | step | sum | square | reach | turn | pair | ways
 deriving DecidableEq
def tkC:TK->List Nat
 | .clue=>s!"clue"
 | .only=>s!"only"
 | .place=>s!"place"
 | .count=>s!"count"
 | .step=>s!"step"
 | .sum=>s!"sum"
 | .square=>s!"square"
 | .reach=>s!"reach"
 | .turn=>s!"turn"
 | .pair=>s!"pair"
 | .ways=>s!"ways"
def iI:List Str:=[tx s!"clue",tx s!"only",tx s!"place",tx s!"count",tx s!"step",tx s!"sum",tx s!"square",tx s!"reach",tx s!"turn",tx s!"pair",tx s!"ways"]
def iq:List Str:=[tx s!"clue",tx s!"only",tx s!"place",tx s!"step",tx s!"pair"]
def gr:List Str:=[tx s!"count",tx s!"sum",tx s!"ways"]
def gd_RULES_OF_KIND:List (Str × List Str):=[(tx s!"only",[tx s!"unlike"]),(tx s!"place",[tx s!"unlike"]),(tx s!"count",[tx s!"count"]),(tx s!"step",[tx s!"rising"]),(tx s!"sum",[tx s!"sum"]),(tx s!"square",[tx s!"nosquare"]),(tx s!"reach",[tx s!"joined",tx s!"ring"]),(tx s!"turn",[tx s!"ring"]),(tx s!"pair",[tx s!"unlike"])]
def wsOf:TK->List Str
 | .only=>[tx s!"unlike"]
 | .place=>[tx s!"unlike"]
 | .count=>[tx s!"count"]
 | .step=>[tx s!"rising"]
 | .sum=>[tx s!"sum"]
 | .square=>[tx s!"nosquare"]
 | .reach=>[tx s!"joined",tx s!"ring"]
 | .turn=>[tx s!"ring"]
 | .pair=>[tx s!"unlike"]
 | _=>[]
def goesB:TK->RK->Bool
 | .ways,_=>true
 | .only,.Unlike=>true
 | .place,.Unlike=>true
 | .count,.Count=>true
 | .step,.Rising=>true
 | .sum,.Sum=>true
 | .square,.NoSquare=>true
 | .reach,.Joined=>true
 | .reach,.Ring=>true
 | .turn,.Ring=>true
 | .pair,.Unlike=>true
 | _,_=>false
def lineK:TK->Bool
 | .clue=>true
 | .only=>true
 | .place=>true
 | .step=>true
 | .pair=>true
 | _=>false
def nbrK:TK->Bool
 | .count=>true
 | .sum=>true
 | .ways=>true
 | _=>false
theorem HL(t:TK):decide (tx (tkC t)∈iq)=lineK t:=by cases t <;> decide+kernel
theorem Jr(t:TK):decide (tx (tkC t)∈gr)=nbrK t:=by cases t <;> decide+kernel
variable{t:TK}
theorem J1(h1:t≠.clue)(h2:t≠.ways):gd_RULES_OF_KIND.lookup (tx (tkC t))=some (wsOf t):=by
 cases t <;> first | exact absurd rfl h1 | exact absurd rfl h2 | decide+kernel
theorem HM(h2:t≠.ways)(k:RK):decide (tx (nmC k)∈wsOf t)=goesB t k:=by
 cases t <;> first | exact absurd rfl h2 | (cases k <;> decide+kernel)
theorem HN(t:TK):decide (tkC t=s!"ways")=decide (t=.ways):=by cases t <;> decide
theorem xW(t:TK):decide (tkC t=s!"clue")=decide (t=.clue):=by cases t <;> decide
theorem CV(t:TK):decide (tkC t=s!"only")=decide (t=.only):=by cases t <;> decide
def qu(K:Frag):Sp:=#[3,∃ p h w g i,vs=[.ref p,.int i]/\IsFl H p h w g/\FlOk h w g/\Q (.bl (decide (0<=i)&&decide (i<h*w))) H]
def qv(K:Frag):TS:=#[":jL,~+ba1cLd(ef#0 1d<1,~hba0c"]
variable{K:Frag}{vs:List V}{H:Hp}{Q:VK}{E:XK}
theorem Dx(h:qu K vs H Q E):qv K (eD9 Q) (start ["floor","value"] vs) H:=by
 obtain⟨p,h,w,g,i,rfl,b,F,q⟩:=h;exists qv;refine⟨i,rfl,⟨true,rfl,iteT ?_⟩⟩;symm
 cases a:decide (0<=i) with
 | false=>
  rw[a,Oc]at q;exact iteF q
 | true=>
  rw[a,Ob]at q;refine iteT ?_;exists⟨p,h,w,g,rfl,b,F.h0,F.h1,?_⟩;symm;exact q
def qw(K:Frag):Sp:=#[3,∃ p h w g i,vs=[.ref p,.int i]/\IsFl H p h w g/\Q (.bl (decide (1<=i)&&decide (i<=g))) H]
def qx(K:Frag):TS:=#[":j,~Jba1adk0ef#2 c"]
theorem Dy(h:qw K vs H Q E):qx K (eD9 Q) (start ["floor","value"] vs) H:=by
 obtain⟨p,h,w,g,i,rfl,a,q⟩:=h;exists qx;refine ixT a (v:=V.int g) rfl ?_;exists⟨i,g,rfl,q⟩
def qy(K:Frag)(c:RO):Sp:=#[3,∃ t k r p a cs n m,vs=[.str (tx (tkC t)),.ref r]/\t≠.clue/\IsRule H c k r p (nmC k::a) cs n m/\Q (.bl (goesB t k)) H]
def qz(K:Frag)(c:RO):TS:=#[":j~ydrb0euv`0d']byiE'^{abi1c{bb{c0",s!"ways"]
variable{c:RO}
theorem Dz(h:qy K c vs H Q E):qz K c (eD9 Q) (start ["kind","rule"] vs) H:=by
 obtain⟨t,k,r,p,b,cs,n,m,rfl,e,x,q⟩:=h;obtain⟨f,W,C,h1,h2,h3⟩:=x.ex;exists qz;rw[bx,HN];by_cases hw:t=.ways
 . subst hw;rw[NT rfl];exact iteT q
 . rw[NQ hw];refine iteF ?_;refine methE (k:=k) rfl x.ok h1 (by rfl) ?_;exists⟨r,p,nmC k,b,cs,n,m,rfl,x,?_⟩;dsimp only;rw[J0];exists⟨_,_,rfl,J1 e hw,λa d=>?_⟩;refine⟨_,a,_,rfl,rfl,d,?_⟩;rw[HM hw];exact q
def b6(K:Frag)(c:RO):Sp:=#[3,∃ k r p b cs n m z,vs=[.ref r,.int z]/\IsRule H c k r p b cs n m/\cs.length<=63/\∀ l a,Same H a->H l=none->a l=↥((cs.filter λx=>!decide (x=z)).map V.int)->Q (.ref l) a]
def rZ(K:Frag)(c:RO):TS:=#[":jw&--1 sbyiE~n~obi0ch#1 mdBb121"]
theorem Ff(h:b6 K c vs H Q E):rZ K c (eD9 Q) (start ["rule","cell"] vs) H:=by
 obtain⟨k,r,p,f,cs,n,m,z,rfl,x,t,q⟩:=h;obtain⟨u,W,C,h1,h2,h3⟩:=x.ex;ac_nf;unfold rZ;rw[b7,bq];refine methE (k:=k) rfl x.ok h1 (by rfl) ?_;exists⟨r,p,f,cs,n,m,rfl,x,λl g=>?_⟩;obtain⟨w,o,s1,e⟩:=aP (.lst (cs.map V.int)) g;rw[o];refine⟨l,rfl,⟨_,NW e⟩,?_⟩;refine aY (xs:=cs) (λx=>!decide (x=z)) (λx=>x) #[4] (NW e) ?_ ?_ ?_
 . intro y a R s b k2;show tTest _ [none,⇑y,⇑z] a R;exists k2 _ (NP _)
 . intro y a j s v b k2;show tVar 1 [none,⇑y,⇑z] a j;exists k2 _ (NP _)
 . intro T a i b d;rw[Pa]at d;exact q T a (s1.trans b) (s1.free i) d
def hitB(t:TK)(NC:List RR)(r z:Int):Bool:=if r<0 then false else if t=.clue then decide (r=0) else match NC[r.toNat]? with
 | none=>false
 | some x=>goesB t x.k&&decide (z∈x.cs)
structure IsTh(H:Hp)(T M:Addr)(t:TK)(r z s:Int)(ms:∅):Prop where
 T:H T=some (.tup [.str (tx (tkC t)),.int r,.int z,.int s,.ref M])
 M:H M=↥(ms.map V.int)
 n:ms.length<=100
def IsTh.same{a:Hp}{T M:Addr}{r z s:Int}{ms:∅}(x:IsTh H T M t r z s ms)(s':Same H a):IsTh a T M t r z s ms:=⟨s' _ _ x.T,s' _ _ x.M,x.n⟩
def formB(h w g:Int)(NC:List RR)(t:TK)(r z s:Int):Bool:=(decide (0<=z)&&decide (z<h*w))&&((decide (1<=s)&&decide (s<=g))&&hitB t NC r z)
abbrev nsV(cs:List Nat):List V:=(cs.map λ(n:Nat)=>(n:Int)).map V.int
theorem u6(xs:List V){k:Int}(h:0<=k):cutV xs none (some k)=xs.take k.toNat:=by
 unfold cutV;have e:k=((k.toNat:Nat):Int):=by lia
 have h1:HT.sIx xs.length 0 none=0:=rfl
 have h2:HT.sIx xs.length xs.length (some k)=min k.toNat xs.length:=by
  conv=>lhs;rw[e]
  exact HT.sIx_nat ..
 rw[h1,h2];show(xs.drop 0).take _=_;rw[List.drop_zero];by_cases a:k.toNat<=xs.length
 . rw[Qq a];rfl
 . rw[PZ #[4],OK #[4],OK #[4]]
def clueB(cl:∅)(z s:Int)(ms:∅):Bool:=decide (ms=[])&&(!decide (cl.getD z.toNat 0=0)&&!decide (cl.getD z.toNat 0=s))
def jq(K:Frag):Sp:=#[3,∃ C M z s cl a,vs=[.ref C,.int z,.int s,.ref M]/\H C=↥(cl.map V.int)/\0<=z/\z<cl.length/\H M=↥(a.map V.int)/\∀ b,Same H b->Q (.bl (clueB cl z s a)) b]
def jr(K:Frag):TS:=#[":jLdrb3tcLdBbdk01ef#0 dBbdk012"]
theorem wm(h:jq K vs H Q E):jr K (eD9 Q) (start ["clues","cell","sign","more"] vs) H:=by
 obtain⟨C,M,z,s,cl,g,rfl,e,f,c,j,q⟩:=h;exists jr;refine⟨aT #[1],λl i=>?_⟩;obtain⟨H1,z9,s1,el⟩:∃ z,upd H l (.lst [])=z/\Same H z/\z l=↥(([]:∅).map V.int):=aP _ i;rw[z9];refine vP (s1 _ _ j) el ?_;have a:=q _ s1;unfold clueB at a
 cases d:decide (g=[]) with
 | false=>
  rw[d,Oc]at a;exact⟨false,rfl,iteF a⟩
 | true=>
  rw[d,Ob]at a;refine⟨true,rfl,iteT ?_⟩;exists ixI (s1 _ _ e) f c ?_;symm
  cases b:decide (cl.getD z.toNat 0=0) with
  | true=>
   rw[b,PF,Oc]at a;exact iteF a
  | false=>
   rw[b,PV,Ob]at a;refine iteT ?_;refine ixI (s1 _ _ e) f c ?_;symm;exact a
def onlyB(cs NA:∅)(z s:Int)(ms:∅):Bool:=decide (ms.length=1)&&(decide (ms.getD 0 0∈cs.filter λx=>!decide (x=z))&&decide (woI (NA.getD (ms.getD 0 0).toNat 0) s=0))
def js(K:Frag)(c:RO):Sp:=#[3,∃ k r p A M e cs a b n m z s,vs=[.ref r,.ref A,.int z,.int s,.ref M]/\IsRule H c k r p e cs n m/\aI cs a.length/\H A=↥(a.map V.int)/\H M=↥(b.map V.int)/\s<=1000/\∀ d,Same H d->Q (.bl (onlyB cs a z s b)) d]
def jt(K:Frag)(c:RO):TS:=#[":jLdrbqAa4cef#1 LdNbzdk4ef#0 ,-bia0a2c,~pbadk1dk4ef#0 a3c"]
theorem wn(h:js K c vs H Q E):jt K c (eD9 Q) (start ["rule","masks","cell","sign","more"] vs) H:=by
 obtain⟨k,r,p,A,M,j,cs,B,b,n,m,z,s,rfl,x,f,i,d,w,q⟩:=h;exists jt;rw[bh d,NM];symm;unfold onlyB at q
 have e1:decide ((b.length:Int)=1)=decide (b.length=1):=by
  rw[Om,NU,NU];lia
 rw[e1]
 cases e:decide (b.length=1) with
 | false=>
  rw[e,Oc]at q;exact iteF (q _ (NP _))
 | true=>
  rw[e,Ob]at q;have v:=Oj e;refine iteT ?_;refine ixI d #[1] #[4] ?_;rw[show(0:Int).toNat=0 from rfl];exists⟨k,r,p,j,cs,n,m,z,rfl,x,f.1,λl y s1 t u=>?_⟩;dsimp only;rw[uQ u]
  cases a:decide (b.getD 0 0∈cs.filter λx=>!decide (x=z)) with
  | false=>
   rw[a,Oc]at q;exact⟨false,rfl,iteF (q _ s1)⟩
  | true=>
   rw[a,Ob]at q;have o:=Ol.mp (Oj a);have g:=f.2 _ o.1;refine⟨true,rfl,iteT ?_⟩;exists ixI (s1 _ _ d) #[1] #[4] ?_;rw[show(0:Int).toNat=0 from rfl];exists ixI (s1 _ _ i) g.1 g.2 ?_;exists⟨_,s,rfl,by lia,q _ s1⟩
theorem RR.cin22{r:RR}{h w g:Int}(O:r.Ok h w g)(F:FlOk h w g):aI r.cs (h*w).toNat:=by
 obtain⟨h0,h1,s,p,f,m,l⟩:=id F;have b:0<=h*w:=Pm #[4] #[4]
 cases d:allK r.k with
 | false=>
  obtain⟨t,q,j,o,e⟩:=O.cl.told d;rw[e];refine⟨by rw[NM];lia,λc a=>?_⟩;obtain⟨n,i,rfl⟩:=N9.mp a;have:=j n i;lia
 | true=>
  obtain⟨_,e⟩:=O.cl.all d;rw[e];refine⟨by rw[iy];lia,λc a=>?_⟩;have:=tU a;lia
abbrev QZ:=@RR.cin22
structure Asks(H:Hp)(c:RO)(d:RP)(P L G A T M:Addr)(h w g:Int)(NC:List RR)(cl NA:∅)(t:TK)(r z s:Int)(ms:∅):Prop where
 P:IsPz H c d P L G h w g NC cl
 T:IsTh H T M t r z s ms
 A:H A=↥(NA.map V.int)
 n:NA.length=(h*w).toNat
variable{NC:List RR}
theorem gD{h w g:Int}{r z s:Int}(f:formB h w g NC t r z s=true):0<=z/\z<h*w/\1<=s/\s<=g/\hitB t NC r z=true:=by
 unfold formB at f;simp only[OB,NU]at f;exact⟨f.1.1,f.1.2,f.2.1.1,f.2.1.2,f.2.2⟩
theorem tV{r z:Int}(b:t≠.clue)(f:hitB t NC r z=true):0<=r/\∃ x,NC[r.toNat]? =some x/\goesB t x.k=true/\z∈x.cs:=by
 unfold hitB at f;by_cases a:r<0
 . rw[Os a]at f;cases f
 rw[Og a,Og b]at f
 cases e:NC[r.toNat]? with
 | none=>rw[e]at f;cases f
 | some x=>
  rw[e]at f;simp only[OB,NU]at f;exact⟨by lia,x,rfl,f.1,f.2⟩
def cV(K:Frag):Sp:=#[3,∃ A C b cs,vs=[.ref A,.ref C]/\H A=↥(b.map V.int)/\H C=↥(cs.map V.int)/\aI cs b.length/\∀ l a,Same H a->H l=none->a l=↥((sgAt b cs).map V.int)->Q (.ref l) a]
def oN(K:Frag):TS:=#[":jw&--0 sb1h#1 Ddk21"]
theorem Ch(h:cV K vs H Q E):oN K (eD9 Q) (start ["masks","cells"] vs) H:=by
 obtain⟨A,C,j,cs,rfl,e,b,⟨n,k⟩,q⟩:=h;exists oN;refine⟨⟨_,NW b⟩,?_⟩;refine aY (xs:=cs) (λ_=>true) (λc=>j.getD c.toNat 0) #[4] (NW b) ?_ ?_ ?_
 . intro x a R m s1 k1;exact k1 _ (NP _)
 . intro z a f i o s1 k1;show tOp cIx _ _ [none,⇑z,↑A] a f;symm;have:=k z i;exact ixI (s1 _ _ e) this.1 #[4] (k1 _ (NP _))
 . intro l a g s1 d;rw[aZ]at d;exact q l a s1 g d
def gf(K:Frag):Sp:=#[3,∃(C:Addr) (a:∅) (s:Int),vs=[.ref C,.int s]/\H C=↥(a.map V.int)/\a.length<=63/\∀ b,Same H b->Q (.int ((a.filter λm=>stB m s).length:Nat)) b]
def oO(K:Frag):TS:=#[":jqAaw&--1 sb0h#1 x,~xba1a2c1c"]
theorem Ci(h:gf K vs H Q E):oO K (eD9 Q) (start ["some","sign"] vs) H:=by
 obtain⟨C,e,s,rfl,b,i,q⟩:=h;exists oO;refine⟨⟨_,NW b⟩,?_⟩;refine aY (xs:=e) (λm=>stB m s) (λm=>m) #[4] (NW b) ?_ ?_ ?_
 . intro x a R f s1 k1;show tB _ [none,⇑x,⇑s] a R;exists⟨x,s,rfl,_,rfl,k1 _ (NP _)⟩
 . intro z a d k j s1 k1;show tVar 1 [none,⇑z,⇑s] a d;exists k1 _ (NP _)
 . intro l a g s1 c;rw[Pa]at c;rw[bh c,NM];exact q _ s1
def AT(g:Int)(cs NA:∅)(z s:Int)(ms:∅):Bool:=decide ((cs.length:Int)=g)&&(decide (ms.length=1)&&(!decide (ms.getD 0 0=s)&&((decide (1<=ms.getD 0 0)&&decide (ms.getD 0 0<=g))&&decide (((sgAt NA (cs.filter λx=>!decide (x=z))).filter λm=>stB m (ms.getD 0 0)).length=0))))
def iJ(K:Frag)(c:RO):Sp:=#[3,∃ k f r p A M e cs a b n m z s h w g,vs=[.ref f,.ref r,.ref A,.int z,.int s,.ref M]/\IsFl H f h w g/\IsRule H c k r p e cs n m/\aI cs a.length/\H A=↥(a.map V.int)/\H M=↥(b.map V.int)/\∀ d,Same H d->Q (.bl (AT g cs a z s b)) d]
def gg(K:Frag)(c:RO):TS:=#[":jdrb,~Kba,~kba2a,-bia1a3ccadk5ef#0 cef#0 "]
def jY(K:Frag)(c:RO):TS:=#[":gnJmdrbdk5ef#0 4Kx,{dba0adk5ef#0 cjeGzo{ebi"]
def iK(K:Frag)(c:RO):TS:=#[":gnJmdBbqAayiE~n~obi1ccdk0ef#2 mdBbqAa5cef#1 jeGzo{fbi"]
theorem ro {k:RK} {f r p A M:Addr} {d:List (List Nat)} {cs NA ms:∅} {n m z s:Int} (x:IsRule H c k r p d cs n m) (b:aI cs NA.length) (l:H A=↥(NA.map V.int)) (v:H M=↥(ms.map V.int)) (E:ms.length=1)
  (q:∀ h,Same H h->Q (.bl (decide (((sgAt NA (cs.filter λx=>!decide (x=z))).filter λm=>stB m (ms.getD 0 0)).length=0))) h):
  gg K c (eD9 Q) [↑f,↑r,↑A,⇑z,⇑s,↑M] H:=by
 unfold gg;exists⟨k,r,p,d,cs,n,m,z,rfl,x,b.1,λO G s1 F t=>?_⟩;symm;have a:aI (cs.filter λx=>!decide (x=z)) NA.length:=⟨NY (N1 _ _) b.1,λy w=>b.2 y (Ol.mp w).1⟩;refine⟨A,O,NA,_,rfl,s1 _ _ l,t,a,λB D g C u=>?_⟩;dsimp only;refine ixI ((s1.trans g) _ _ v) #[1] #[4] ?_;rw[show(0:Int).toNat=0 from rfl];exists⟨B,_,_,rfl,u,by unfold sgAt;rw[NM];exact a.1,λo j=>?_⟩;symm;have i:=q o ((s1.trans g).trans j)
 have e:decide ((((sgAt NA (cs.filter λx=>!decide (x=z))).filter λm=>stB m (ms.getD 0 0)).length:Int)=0)=decide (((sgAt NA (cs.filter λx=>!decide (x=z))).filter λm=>stB m (ms.getD 0 0)).length=0):=by
  rw[Om,NU,NU];lia
 rw[e];exact i
theorem u7(h:iJ K c vs H Q E):iK K c (eD9 Q) (start ["floor","rule","masks","cell","sign","more"] vs) H:=by
 obtain⟨k,f,r,p,A,M,J,cs,N,b,n,m,z,s,h,w,g,rfl,t,x,u,I,i,q⟩:=h;obtain⟨L,W,C,h1,h2,h3⟩:=x.ex;ac_nf;unfold iK;rw[aB,az];exists methE (k:=k) rfl x.ok h1 (by rfl) ?_;exists⟨r,p,J,cs,n,m,rfl,x,λl B=>?_⟩;obtain⟨O,y,s1,G⟩:=aP (.lst (cs.map V.int)) B;rw[y]
 try dsimp only
 rw[bh G,NM];refine ixT (s1 _ _ t) (v:=V.int g) rfl ?_;symm;unfold AT at q
 cases o:decide ((cs.length:Int)=g) with
 | false=>
  rw[o,Oc]at q;exists q _ s1
 | true=>
  rw[o,Ob]at q;symm;rw[bh (s1 _ _ i),NM];symm
  have e1:decide ((b.length:Int)=1)=decide (b.length=1):=by
   rw[Om,NU,NU];lia
  rw[e1]
  cases a:decide (b.length=1) with
  | false=>
   rw[a,Oc]at q;exists q _ s1
  | true=>
   rw[a,Ob]at q;have j:=Oj a;symm;unfold jY;rw[aB,az];exists ixI (s1 _ _ i) #[1] #[4] ?_;rw[show(0:Int).toNat=0 from rfl];symm
   cases e:decide (b.getD 0 0=s) with
   | true=>
    rw[e,PF,Oc]at q;refine iteT ?_;exists q _ s1
   | false=>
    rw[e,PV,Ob]at q;refine iteF ?_;refine ixI (s1 _ _ i) #[1] #[4] ?_;rw[show(0:Int).toNat=0 from rfl];exists⟨f,h,w,g,_,rfl,s1 _ _ t,?_⟩
    cases d:(decide (1<=b.getD 0 0)&&decide (b.getD 0 0<=g)) with
    | false=>
     rw[d,Oc]at q;refine⟨false,rfl,iteT ?_⟩;exists q _ s1
    | true=>
     rw[d,Ob]at q;refine⟨true,rfl,iteF ?_⟩;exact ro (x.same s1) u (s1 _ _ I) (s1 _ _ i) j λD F=>q D (s1.trans F)
theorem AU(t:TK):decide (tkC t=s!"place")=decide (t=.place):=by cases t <;> decide
def fw(K:Frag):Sp:=#[3,∃(C:Addr) (a:∅) (s:Int),vs=[.ref C,.int s]/\H C=↥(a.map V.int)/\a.length<=63/\s<=100000/\∀ b,Same H b->Q (.int ((a.filter λm=>decide (woI m s=0)).length:Nat)) b]
def mK(K:Frag):TS:=#[":jqAaw&--1 sb0h#1 x,~pba1a2c1c"]
variable{K:Frag}{vs:List V}{H:Hp}{Q:VK}{E:XK}
theorem AV(h:fw K vs H Q E):mK K (eD9 Q) (start ["some","sign"] vs) H:=by
 obtain⟨C,e,s,rfl,b,j,f,q⟩:=h;exists mK;refine⟨⟨_,NW b⟩,?_⟩;refine aY (xs:=e) (λm=>decide (woI m s=0)) (λm=>m) #[4] (NW b) ?_ ?_ ?_
 . intro x a R g s1 k1;show tB _ [none,⇑x,⇑s] a R;exists⟨x,s,rfl,f,_,rfl,k1 _ (NP _)⟩
 . intro z a d n k s1 k1;show tVar 1 [none,⇑z,⇑s] a d;exists k1 _ (NP _)
 . intro l a i s1 c;rw[Pa]at c;rw[bh c,NM];exact q _ s1
def rosP(c z:Int)(q:∅):Bool:=decide (q.getD 0 0=c)&&decide (z∈q)
def rosL(h w c z:Int):∅:=match (squL h w).find? (rosP c z) with
 | none=>[]
 | some q=>q.filter λx=>!decide (x=z)
variable{h w:Int}
theorem xX{q:∅}(b:q∈squL h w):∃ i:Nat,i < (h*w).toNat/\cornB h w i=true/\q=sqL w i:=by
 unfold squL at b;obtain⟨i,a,rfl⟩:=N9.mp b;obtain⟨a,c⟩:=Ol.mp a;exact⟨i,Oe.mp a,c,rfl⟩
theorem HP{c:Int}(b:1<=w)(c0:0<=c)(a:cornB h w c=true):c+w+1<h*w:=by
 unfold cornB at a;rw[OB,NU,NU]at a;have e:=Int.mul_ediv_add_emod c w;have m:=Int.mul_le_mul_of_nonneg_left (show c/w+2<=h by lia) (show 0<=w by lia);rw[Int.mul_add]at m;rw[Int.mul_comm h w];lia
theorem J3{c x:Int}(b:1<=w)(c0:0<=c)(d:cornB h w c=true)(a:x∈sqL w c):0<=x/\x<h*w:=by
 have:=HP b c0 d;simp[sqL]at a;lia
variable{z:Int}
theorem Js{g c:Int}{n:Nat}(F:FlOk h w g)(j:n=(h*w).toNat):aI (rosL h w c z) n:=by
 have b:=F.w0;unfold rosL
 cases e:(squL h w).find? (rosP c z) with
 | none=>exact⟨by show(0:Nat)<=63;lia,λx a=>by cases a⟩
 | some q=>
  obtain⟨i,f,d,rfl⟩:=xX (List.mem_of_find?_eq_some e);refine⟨NY (N1 _ _) (by show(4:Nat)<=63;lia),λx a=>?_⟩;have:=J3 b #[4] d (Ol.mp a).1;lia
def gW(K:Frag):Sp:=#[3,∃ f h w g c z,vs=[.ref f,.int c,.int z]/\IsFl H f h w g/\FlOk h w g/\∀ l a,Same H a->H l=none->a l=↥((rosL h w c z).map V.int)->Q (.ref l) a]
def gX(K:Frag):TS:=#[":gIsb,~?ba0ch#3 n~Xmdrbdk3ef#0 1mdNbz23jw&--2 sb3h#1 mdBb121ojtc"]
theorem t3(h:gW K vs H Q E):gX K (eD9 Q) (start ["floor","corner","cell","square"] vs) H:=by
 obtain⟨f,h,w,g,c,z,rfl,L,F,q⟩:=h;ac_nf;unfold gX;rw[aB];exists⟨f,h,w,g,rfl,L,F,λl U Z s1 hl x nd nl hn=>?_⟩;refine⟨l,rfl,⟨_,NW x.top⟩,?_⟩;refine bc (K:=K) (xs:=U.map V.ref) (λi σ O=>∃ J:Option V,σ=[↑f,⇑c,⇑z,J]/\Same Z O/\∀(j:Nat) (q:∅),j<i->(squL h w)[j]? =some q->rosP c z q=false) ⟨none,rfl,NP _,λj q D=>by lia⟩ (λi σ O _ ⟨_,_,s,_⟩=>s.seq (NW x.top)) ?_ ?_
 . rintro i v σ P r ⟨J,rfl,d,b⟩;rw[NR]at r
   cases B:U[i]? with
   | none=>rw[B]at r;cases r
   | some a=>
   rw[B]at r;cases r;have m:i < (squL h w).length:=by rw[← x.len];exact(NO.mp B).1
   have N:(squL h w)[i]? =some (squL h w)[i]:=NN m;have u:=(x.same d).at_ i a _ B N
   have q4:((squL h w)[i]).length=4:=by
    obtain⟨k,_,_,e⟩:=xX (On m);rw[e];rfl
   have nx:rosP c z (squL h w)[i]=false->∀(j:Nat) (q:∅),j<i+1->(squL h w)[j]? =some q->rosP c z q=false:=λL j q D n=>by
    by_cases I:j=i
    . subst I;rw[N]at n;cases n;exact L
    . exact b j q #[4] n
   have A:rosP c z (squL h w)[i]=true->rosL h w c z=(squL h w)[i].filter λx=>!decide (x=z):=λX=>by
    have e:(squL h w).find? (rosP c z)=some (squL h w)[i]:=by
     rw[Qj];refine⟨X,i,m,rfl,λj D=>?_⟩;rw[b j _ D (NN #[4])];rfl
    unfold rosL;rw[e]
   generalize (squL h w)[i]=sq at*;unfold rosP at nx A;symm;rw[az];exists ixI u #[1] #[4] ?_;rw[show(0:Int).toNat=0 from rfl];symm
   cases G:decide (sq.getD 0 0=c) with
   | false=>
    rw[G,Oc]at nx;refine iteF ?_;exists⟨_,rfl,d,nx rfl⟩
   | true=>
    rw[G,Ob]at nx A;refine iteT ?_;rw[uQ u]
    cases o:decide (z∈sq) with
    | false=>
     rw[o]at nx;refine⟨false,rfl,?_⟩;exists⟨_,rfl,d,nx rfl⟩
    | true=>
     rw[o]at A;refine⟨true,rfl,?_⟩;exists⟨⟨_,NW u⟩,?_⟩;refine aY (xs:=sq) (λx=>!decide (x=z)) (λx=>x) #[4] (NW u) ?_ ?_ ?_
     . intro y p R W C k3;show tTest _ [none,⇑y,⇑z] p R;exists k3 _ (NP _)
     . intro y p Y W G C k3;show tVar 1 [none,⇑y,⇑z] p Y;exists k3 _ (NP _)
     . intro T p t C M;rw[Pa,← A rfl]at M;exact q T p ((s1.trans d).trans C) ((s1.trans d).free t) M
 . rintro σ P ⟨J,rfl,d,b⟩
   have e:rosL h w c z=[]:=by
    have e:(squL h w).find? (rosP c z)=none:=by
     rw[List.find?_eq_none];intro q n;obtain⟨i,S⟩:=List.getElem?_of_mem n;rw[b i q (by rw[NM,x.len];exact(NO.mp S).1) S];decide
    unfold rosL;rw[e]
   exists⟨aT #[1],λT t=>?_⟩;exact q T _ ((s1.trans d).trans ((NP P).laid t)) ((s1.trans d).free t) (by rw[ag,e];rfl)
def squB(h w m:Int)(NA:∅)(z s:Int)(ms:∅):Bool:=decide (s=m)&&(decide (ms.length=1)&&(!decide (rosL h w (ms.getD 0 0) z=[])&&decide (((sgAt NA (rosL h w (ms.getD 0 0) z)).filter λk=>decide (woI k s=0)).length=(rosL h w (ms.getD 0 0) z).length)))
def gY(K:Frag)(c:RO):Sp:=#[3,∃ k f r p A M e cs a b n m z s h w g,vs=[.ref f,.ref r,.ref A,.int z,.int s,.ref M]/\IsFl H f h w g/\FlOk h w g/\IsRule H c k r p e cs n m/\a.length=(h*w).toNat/\H A=↥(a.map V.int)/\H M=↥(b.map V.int)/\s<=1000/\∀ d,Same H d->Q (.bl (squB h w m a z s b)) d]
def fO(K:Frag)(c:RO):TS:=#[":gl,{gba0adk5ef#0 a3ch#6 jLdBb6tcdrb,~Lba,~kba2a6ca4cqAa6c"]
def gZ(K:Frag)(c:RO):TS:=#[":gnJmdBb4yiE~q~rbi1cmdBbqAa5cef#1 jeGzo{hbi"]
variable{c:RO}{NA:∅}
theorem qA {f A M:Addr} {v:V} {ms:∅} {s g:Int} (D:IsFl H f h w g) (F:FlOk h w g) (i:NA.length=(h*w).toNat) (x:H A=↥(NA.map V.int)) (t:H M=↥(ms.map V.int)) (G:ms.length=1) (L:s<=1000)
  (q:∀ n,Same H n->Q (.bl (!decide (rosL h w (ms.getD 0 0) z=[])&&decide (((sgAt NA (rosL h w (ms.getD 0 0) z)).filter λk=>decide (woI k s=0)).length=(rosL h w (ms.getD 0 0) z).length))) n):
  fO K c (eD9 Q) [↑f,some v,↑A,⇑z,⇑s,↑M,none] H:=by
 have b:=Js (c:=ms.getD 0 0) (z:=z) F i;unfold fO;exists ixI t #[1] #[4] ?_;rw[show(0:Int).toNat=0 from rfl];exists⟨f,h,w,g,_,z,rfl,D,F,λR p s1 E d=>?_⟩;exists⟨aT #[1],λZ r=>?_⟩;obtain⟨H2,z9,s2,eZ⟩:∃ z,upd p Z (.lst [])=z/\Same p z/\z Z=↥(([]:∅).map V.int):=aP _ r;rw[z9];have a:=s1.trans s2;refine tR (s2 _ _ d) eZ ?_;generalize j:rosL h w (ms.getD 0 0) z=ros at*
 cases o:decide (ros=[]) with
 | true=>
  rw[o,PF]at q;refine⟨false,rfl,iteF ?_⟩;exact q _ a
 | false=>
  rw[o,PV]at q;refine⟨true,rfl,iteT ?_⟩;exists⟨A,R,NA,ros,rfl,a _ _ x,s2 _ _ d,b,λB J l I C=>?_⟩;dsimp only;refine⟨B,_,s,rfl,C,by unfold sgAt;rw[NM];exact b.1,by lia,λu m=>?_⟩;symm;rw[bh (((s2.trans l).trans m) _ _ d),NM];symm;have y:=q u ((a.trans l).trans m)
  have e:decide ((((sgAt NA ros).filter λk=>decide (woI k s=0)).length:Int)=(ros.length:Int))=decide (((sgAt NA ros).filter λk=>decide (woI k s=0)).length=ros.length):=by
   rw[Om,NU,NU];lia
  rw[e];exact y
theorem t4(h:gY K c vs H Q E):gZ K c (eD9 Q) (start ["floor","rule","masks","cell","sign","more","rest"] vs) H:=by
 obtain⟨k,f,r,p,A,M,l,cs,NA,b,n,m,z,s,h,w,g,rfl,t,F,x,d,j,e,o,q⟩:=h;obtain⟨u,W,C,h1,h2,h3⟩:=x.ex;ac_nf;unfold gZ;rw[aB,az];exists methE (k:=k) rfl x.ok h1 (by rfl) ?_;exists⟨r,p,l,cs,n,m,rfl,x,?_⟩;symm;unfold squB at q
 cases i:decide (s=m) with
 | false=>
  rw[i,Oc]at q;exists q _ (NP _)
 | true=>
  rw[i,Ob]at q;symm;rw[bh e,NM];symm
  have e1:decide ((b.length:Int)=1)=decide (b.length=1):=by
   rw[Om,NU,NU];lia
  rw[e1]
  cases a:decide (b.length=1) with
  | false=>
   rw[a,Oc]at q;exists q _ (NP _)
  | true=>
   rw[a,Ob]at q;exists qA t F d j e (Oj a) o q
theorem yR(t:TK):decide (tkC t=s!"square")=decide (t=.square):=by cases t <;> decide
def othL(cs:∅)(z:Int):∅:=cs.filter λx=>!decide (x=z)
def cntB(cs:∅)(n m:Int)(NA:∅)(z s:Int)(ms:∅):Bool:=
 decide (ms=[])&&(if s=m then decide (n<=(((sgAt NA (othL cs z)).filter λk=>decide (woI k s=0)).length:Int)) else decide ((((sgAt NA (othL cs z)).filter λk=>stB k m).length:Int)<n))
def iL(K:Frag)(c:RO):Sp:=#[3,∃ k r p A M d cs NA a n m z s,vs=[.ref r,.ref A,.int z,.int s,.ref M]/\IsRule H c k r p d cs n m/\aI cs NA.length/\H A=↥(NA.map V.int)/\H M=↥(a.map V.int)/\s<=1000/\∀ b,Same H b->Q (.bl (cntB cs n m NA z s a)) b]
def gh(K:Frag)(c:RO):TS:=#[":gl,~kba1a,-bia0a2cch#5 gnmdrb3yiE~q~rbi0cjd),~Lba5a3cyiE~M~Nbi0cojd<,~Kba5ayiE~q~rbi0ccyiE~M~Nbi0c"]
def iM(K:Frag)(c:RO):TS:=#[":gnmdBb4tcjeGzo{ibi"]
variable{cs:∅}{m:Int}
theorem rp {k:RK} {r p A M:Addr} {e:List (List Nat)} {n s:Int} (x:IsRule H c k r p e cs n m) (j:aI cs NA.length) (J:H A=↥(NA.map V.int)) (D:s<=1000)
  (q:∀ o,Same H o->Q (.bl (if s=m then decide (n<=(((sgAt NA (othL cs z)).filter λk=>decide (woI k s=0)).length:Int)) else decide ((((sgAt NA (othL cs z)).filter λk=>stB k m).length:Int)<n))) o):
  gh K c (eD9 Q) [↑r,↑A,⇑z,⇑s,↑M,none] H:=by
 have f:aI (othL cs z) NA.length:=⟨NY (N1 _ _) j.1,λy E=>j.2 y (Ol.mp E).1⟩;have t:(sgAt NA (othL cs z)).length<=63:=by unfold sgAt;rw[NM];exact f.1
 unfold gh;exists⟨k,r,p,e,cs,n,m,z,rfl,x,j.1,λO U s1 T F=>?_⟩;exists⟨A,O,NA,othL cs z,rfl,s1 _ _ J,F,f,λB S G R u=>?_⟩;have b:=s1.trans G;have d:=x.same b;obtain⟨P,W,C,h1,h2,h3⟩:=d.ex;symm;rw[az];exists methE (k:=k) rfl d.ok h1 (by rfl) ?_;exists⟨r,p,e,cs,n,m,rfl,d,?_⟩;symm;by_cases h:s=m
 . rw[Os h]at q;rw[NT h];exists⟨B,_,_,rfl,u,t,by lia,λL g=>?_⟩;have a:=d.same g;obtain⟨l,v,N,i,w,I⟩:=a.ex;refine methE (k:=k) rfl a.ok i (by rfl) ?_;exists⟨r,p,e,cs,n,m,rfl,a,?_⟩;exists q _ (b.trans g)
 . rw[Og h]at q;rw[NQ h];exists methE (k:=k) rfl d.ok h1 (by rfl) ?_;exists⟨r,p,e,cs,n,m,rfl,d,?_⟩;exists⟨B,_,_,rfl,u,t,λL g=>?_⟩;have a:=d.same g;obtain⟨l,v,N,i,w,I⟩:=a.ex;refine methE (k:=k) rfl a.ok i (by rfl) ?_;exists⟨r,p,e,cs,n,m,rfl,a,?_⟩;exists q _ (b.trans g)
theorem u8(h:iL K c vs H Q E):iM K c (eD9 Q) (start ["rule","masks","cell","sign","more","some"] vs) H:=by
 obtain⟨k,r,p,A,M,o,cs,NA,d,n,m,z,s,rfl,x,l,b,j,f,q⟩:=h;ac_nf;unfold iM;rw[aB,az];exists⟨aT #[1],λZ e=>?_⟩;obtain⟨H1,z9,s1,eZ⟩:∃ z,upd H Z (.lst [])=z/\Same H z/\z Z=↥(([]:∅).map V.int):=aP _ e;rw[z9];refine tR (s1 _ _ j) eZ ?_;unfold cntB at q
 cases a:decide (d=[]) with
 | false=>
  rw[a,Oc]at q;refine⟨true,rfl,?_⟩;exists q _ s1
 | true=>
  rw[a,Ob]at q;refine⟨false,rfl,?_⟩;exists rp (x.same s1) l (s1 _ _ b) f λg i=>q g (s1.trans i)
theorem GA(t:TK):decide (tkC t=s!"count")=decide (t=.count):=by cases t <;> decide
variable{xs:∅}
theorem kg{q:Addr}{x:Int}(i:H q=↥(xs.map V.int))(j:x∈xs)(k:xs.length<=900)(h:Q (.int (xs.findIdx (· ==x):Nat)) H):jg K (.ref q) [.int x] H Q:=by
 have c:xs.findIdx (· ==x)<xs.length:=Qe ⟨x,j,by simp⟩
 have g:∀ a b:Int,PyData.eqv (.int a) (.int b)=decide (a=b):=λa b=>by
  rw[PyData.eqv];by_cases h:a=b
  . subst h;simp
  . simp[h]
 refine⟨xs.map PyData.int,.int x,xs.findIdx (· ==x),.lst (NW i) (.ints xs),.int x,mj xs,rfl,?_,by lia,⟨PyData.int xs[xs.findIdx (· ==x)],?_,?_⟩,λm e f he=>?_,h⟩
 . rw[jd];lia
 . rw[NR,NN c];rfl
 . have:=List.findIdx_getElem (w:=c);rw[g,NU]
   simpa using this
 . have d:m<xs.length:=by lia
   rw[NR,NN d]at he;cases he;have:=List.not_of_lt_findIdx f;rw[g,decide_eq_false_iff_not]
   simpa using this
def ju(xs:∅)(x:Int):Nat:=xs.findIdx (· ==x)
def ordB(cs ms:∅):Bool:=decide (ms.length=2)&&(decide (ms.getD 0 0∈cs)&&(decide (ms.getD 1 0∈cs)&&decide (ju cs (ms.getD 0 0)<ju cs (ms.getD 1 0))))
def fP(K:Frag):Sp:=#[3,∃ C M cs a,vs=[.ref C,.ref M]/\H C=↥(cs.map V.int)/\cs.length<=63/\H M=↥(a.map V.int)/\Q (.bl (ordB cs a)) H]
def fQ(K:Frag):TS:=#[":gnJmdBbqAa1cef#2 JmdNbQdk1ef#0 0mdNbQdk1ef#1 0jeGzojd<HbF~sb0adk1ef#0 cHbF~sb0adk1ef#1 c"]
theorem qB(h:fP K vs H Q E):fQ K (eD9 Q) (start ["cells","more"] vs) H:=by
 obtain⟨C,M,cs,a,rfl,d,i,e,q⟩:=h;ac_nf;unfold fQ;rw[aB,az];symm;rw[bh e,NM];symm;unfold ordB at q
 have e1:decide ((a.length:Int)=2)=decide (a.length=2):=by
  rw[Om,NU,NU];lia
 rw[e1]
 cases f:decide (a.length=2) with
 | false=>
  rw[f,Oc]at q;symm;exact q
 | true=>
  rw[f,Ob]at q;have g:=Oj f;exists ixI e #[1] #[4] ?_;rw[show(0:Int).toNat=0 from rfl];symm;rw[lS d]
  cases c:decide (a.getD 0 0∈cs) with
  | false=>
   rw[c,Oc]at q;refine⟨true,rfl,iteT ?_⟩;symm;exact q
  | true=>
   rw[c,Ob]at q;refine⟨false,rfl,iteF ?_⟩;exists ixI e #[1] #[4] ?_;rw[show(1:Int).toNat=1 from rfl];symm;rw[lS d]
   cases b:decide (a.getD 1 0∈cs) with
   | false=>
    rw[b,Oc]at q;refine⟨true,rfl,iteT ?_⟩;symm;exact q
   | true=>
    rw[b,Ob]at q;refine⟨false,rfl,iteF ?_⟩;exists⟨a7 d,?_⟩;refine ixI e #[1] #[4] ?_;rw[show(0:Int).toNat=0 from rfl];exists kg d (Oj c) #[4] ?_;exists⟨a7 d,?_⟩;refine ixI e #[1] #[4] ?_;rw[show(1:Int).toNat=1 from rfl];exists kg d (Oj b) #[4] ?_;symm
    have e2:decide (((cs.findIdx (· ==a.getD 0 0):Nat):Int) < ((cs.findIdx (· ==a.getD 1 0):Nat):Int))=decide (ju cs (a.getD 0 0)<ju cs (a.getD 1 0)):=by
     rw[Om,NU,NU];unfold ju;lia
    rw[e2];exact q
def orM(NA:∅)(ms:∅):Int:=Builtin.bitOr (NA.getD (ms.getD 0 0).toNat 0) (NA.getD (ms.getD 1 0).toNat 0)
def pairB(cs NA:∅)(z s:Int)(ms:∅):Bool:=ordB (cs.filter λx=>!decide (x=z)) ms&&decide (((sgL (orM NA ms)).filter λx=>!decide (x=s)).length<=1)
theorem Jt{a b:Int}(c:0<=a)(d:0<=b):Builtin.bitOr a b=((a.toNat||| b.toNat:Nat):Int):=by
 have f:∀{x:Int},0<=x->decide (0<= -x-1)=false/\ -(-x-1)-1=x:=λh=>⟨NQ #[4],by lia⟩;unfold Builtin.bitOr Builtin.bitAnd Builtin.bitNot;rw[(f c).1,(f d).1];show -(-((((-(-a-1)-1).toNat||| (-(-b-1)-1).toNat:Nat):Int))-1)-1=_;rw[(f c).2,(f d).2];lia
theorem J4{a b:Int}(c:0<=a)(e:a<64)(d:0<=b)(f:b<64):0<=Builtin.bitOr a b/\Builtin.bitOr a b<64:=by
 have l:a.toNat||| b.toNat<2^6:=Nat.or_lt_two_pow #[4] #[4];rw[Jt c d];lia
theorem Ju:((List.range 64).all λm=>decide (Builtin.Int.intBits (m:Int)<=6)&&decide (sgL (m:Int)=(([0,1,2,3,4,5]:List Nat).filter λ(i:Nat)=>stB (m:Int) (1+(i:Int))).map λ(i:Nat)=>1+(i:Int)))=true:=by decide+kernel
theorem gE(a:0<=m)(b:m<64):Builtin.Int.intBits m<=6/\sgL m=(([0,1,2,3,4,5]:List Nat).filter λ(i:Nat)=>stB m (1+(i:Int))).map λ(i:Nat)=>1+(i:Int):=by
 have t:=Od.mp Ju m.toNat (Oe.mpr #[4]);have e1:((m.toNat:Nat):Int)=m:=by lia
 rw[e1,OB,NU,NU]at t;exact t
theorem wo{i:Int}(mm:∀ m∈NA,0<=m/\m<64)(c:0<=i)(b:i<NA.length):0<=NA.getD i.toNat 0/\NA.getD i.toNat 0<64:=by
 have a:i.toNat<NA.length:=by lia
 rw[List.getD,NN a];exact mm _ (On a)
def jv(K:Frag)(c:RO):Sp:=#[3,∃ k r p A M d cs NA a n m z s,vs=[.ref r,.ref A,.int z,.int s,.ref M]/\IsRule H c k r p d cs n m/\aI cs NA.length/\(∀ m∈NA,0<=m/\m<64)/\H A=↥(NA.map V.int)/\H M=↥(a.map V.int)/\∀ b,Same H b->Q (.bl (pairB cs NA z s a)) b]
def gF(K:Frag)(c:RO):TS:=#[":gl,/bad{jdk1dk4ef#0 dk1dk4ef#1 ch#5 jd(qAaw&--3 sb5h#1 mdBb121cef#1 "]
def jw(K:Frag)(c:RO):TS:=#[":gnKx,{kba,-bia0a2ca4cjeGzo{lbi"]
theorem r8 {A M:Addr} {ms:∅} {s:Int} {v:V} (j:aI cs NA.length) (mm:∀ m∈NA,0<=m/\m<64) (o:H A=↥(NA.map V.int)) (i:H M=↥(ms.map V.int)) (g:ordB (cs.filter λx=>!decide (x=z)) ms=true)
  (q:∀ n,Same H n->Q (.bl (decide (((sgL (orM NA ms)).filter λx=>!decide (x=s)).length<=1))) n):
  gF K c (eD9 Q) [some v,↑A,⇑z,⇑s,↑M,none] H:=by
 unfold ordB at g;simp only[OB,NU]at g;obtain⟨E,r,u,_⟩:=g;have e:=j.2 _ (Ol.mp r).1;have d:=j.2 _ (Ol.mp u).1;have k0:=wo mm e.1 e.2;have k1:=wo mm d.1 d.2;have b:=J4 k0.1 k0.2 k1.1 k1.2;have G:=(gE b.1 b.2).1;unfold gF;exists ixI i #[1] #[4] ?_;rw[show(0:Int).toNat=0 from rfl];exists ixI o e.1 e.2 ?_;exists ixI i #[1] #[4] ?_;rw[show(1:Int).toNat=1 from rfl];exists ixI o d.1 d.2 ?_;exists⟨_,rfl,by lia,λl C s1 w y=>?_⟩;have a:C l=↥((sgL (orM NA ms)).map V.int):=y
 have p:(sgL (orM NA ms)).length<=6:=by
  unfold orM;rw[(gE b.1 b.2).2,NM];exact N1 _ _
 exists⟨⟨_,NW a⟩,?_⟩;refine aY (xs:=sgL (orM NA ms)) (λx=>!decide (x=s)) (λx=>x) #[4] (NW a) ?_ ?_ ?_
 . intro x f R B h k2;show tTest _ [none,⇑x,⇑s] f R;exists k2 _ (NP _)
 . intro x f t B F h k2;show tVar 1 [none,⇑x,⇑s] f t;exists k2 _ (NP _)
 . intro T f D h k;rw[Pa]at k;symm;rw[bh k,NM];symm
   have e2:decide ((((sgL (orM NA ms)).filter λx=>!decide (x=s)).length:Int)<=1)=decide (((sgL (orM NA ms)).filter λx=>!decide (x=s)).length<=1):=by
    rw[Om,NU,NU];lia
   rw[e2];exact q _ (s1.trans h)
theorem wp(h:jv K c vs H Q E):jw K c (eD9 Q) (start ["rule","masks","cell","sign","more","together"] vs) H:=by
 obtain⟨k,r,p,A,M,i,cs,NA,d,n,m,z,s,rfl,x,b,j,f,e,q⟩:=h;ac_nf;unfold jw;rw[aB,az];exists⟨k,r,p,i,cs,n,m,z,rfl,x,b.1,λO u s1 t g=>?_⟩;exists⟨O,M,_,d,rfl,g,NY (N1 _ _) b.1,s1 _ _ e,?_⟩;unfold pairB at q
 cases a:ordB (cs.filter λx=>!decide (x=z)) d with
 | false=>
  rw[a,Oc]at q;refine⟨false,rfl,iteT ?_⟩;exists q _ s1
 | true=>
  rw[a,Ob]at q;refine⟨true,rfl,iteF ?_⟩;exact r8 b j (s1 _ _ f) (s1 _ _ e) a λl o=>q l (s1.trans o)
theorem HQ(t:TK):decide (tkC t=s!"step")=decide (t=.step):=by cases t <;> decide
theorem CW(xs:List V){a b:Nat}(c:a<=b):cutV xs (some (a:Int)) (some (b:Int))=(xs.drop a).take (b-a):=by
 have h1:HT.sIx xs.length 0 (some (a:Int))=min a xs.length:=by rw[HT.sIx_nat]
 have h2:HT.sIx xs.length xs.length (some (b:Int))=min b xs.length:=by rw[HT.sIx_nat]
 unfold cutV;rw[h1,h2];by_cases e:a<=xs.length
 . rw[Qq e];by_cases d:b<=xs.length
   . rw[Qq d]
   . rw[PZ #[4],OK (by simp),OK (by simp;lia)]
 . rw[PZ #[4],PZ #[4],Qk,Rg #[4]];simp
theorem kM {k:Nat} {a:Addr} {te:TE} {c:Addr->Hp->Prop} {j:St} {b:Hp} (f:Int->Bool) (m:xs.length<=900) (n:SqL K b a (xs.map V.int))
  (he:∀ x H Q,x∈xs->Same b H->(∀ e,Same H e->Q (.bl (f x)) e)->te (j.set k ⇑x) H Q)
  (p:∀ l H,b l=none->Same b H->H l=↥((xs.map f).map V.bl)->c l H):
  CompR (Itl K a) (gName k) tTrue te c j b:=by
 refine bE (xs:=xs.map V.int) (λ_=>true) (λi=>.bl (f (xs.getD i 0))) (by rw[NM];exact m) n ?_ ?_ ?_
 . intro i x H R d s1 k1;exact k1 _ (NP _)
 . intro i x H Q d r s1 h;obtain⟨z,g,rfl⟩:=aK d;have h2:=h;simp only[dU g]at h2;exact he z H Q (NS g) s1 h2
 . intro l H o s1 q;refine p l H o s1 ?_;rw[q,aZ,NM,Op]
   congr 2
   exact kY xs λx=>V.bl (f x)
def ahdL(cs:∅)(z:Int):∅:=if 0<ju cs z then [cs.getD (ju cs z-1) 0] else []
def behL(cs:∅)(z:Int):∅:=if ju cs z+1<cs.length then [cs.getD (ju cs z+1) 0] else []
def G6(h:z∈cs):ju cs z<cs.length:=Qe ⟨z,h,by simp⟩
theorem HR{o:Int}(h:z∈cs)(a:o∈ahdL cs z):o∈cs:=by
 have:=G6 h;unfold ahdL at a
 split at a
 . rw[NX.mp a,List.getD,NN #[4]];exact On _
 . cases a
theorem HS{o:Int}(a:o∈behL cs z):o∈cs:=by
 unfold behL at a
 split at a
 . rename_i h
   rw[NX.mp a,List.getD,NN h];exact On _
 . cases a
theorem AW(cs:∅)(k:Nat):(cs.drop k).take 1=if k<cs.length then [cs.getD k 0] else []:=by
 by_cases h:k<cs.length
 . rw[Os h,Pj h,List.getD,NN h];rfl
 . rw[Og h,Rg #[4]];rfl
def oP(K:Frag)(c:RO):Sp:=#[3,∃ k r p b cs n m z,vs=[.ref r,.int z]/\IsRule H c k r p b cs n m/\cs.length<=63/\z∈cs/\∀ l a,Same H a->H l=none->a l=↥((ahdL cs z).map V.int)->Q (.ref l) a]
def oQ(K:Frag)(c:RO):TS:=#[":glyiE~n~obi0ch#2 glHbF~sb2a1ch#3 j~mmd>3ef#0 ^~a2+dU3ef#1 +3tc"]
theorem Cj(h:oP K c vs H Q E):oQ K c (eD9 Q) (start ["rule","cell","spots","place"] vs) H:=by
 obtain⟨k,r,p,g,cs,n,m,z,rfl,x,u,d,q⟩:=h;obtain⟨v,W,C,h1,h2,h3⟩:=x.ex;have o:=G6 d;ac_nf;unfold oQ;rw[aB,bw];refine methE (k:=k) rfl x.ok h1 (by rfl) ?_;exists⟨r,p,g,cs,n,m,rfl,x,λS f=>?_⟩;obtain⟨w,s,s1,b⟩:=aP (.lst (cs.map V.int)) f;rw[s];exists⟨a7 b,?_⟩;refine kg b d #[4] ?_;have t:(cs.findIdx (· ==z))=ju cs z:=rfl;rw[t];unfold ahdL at q;generalize ju cs z=j at*;symm;by_cases e:0<j
 . rw[Os e]at q;rw[NT (show(0:Int) < (j:Int) by lia)];refine iteT ?_;refine qh b λl a=>?_;have i:(j:Int)-1=((j-1:Nat):Int):=by lia
   rw[i,CW _ #[4],show j - (j-1)=1 by lia,← List.map_drop,← PH,AW,Os #[4]];exact q l _ (s1.laid a) (s1.free a) ag
 . rw[Og e]at q;rw[NQ (show ¬ (0:Int) < (j:Int) by lia)];refine iteF ?_;refine⟨aT #[1],λl a=>?_⟩;exact q l _ (s1.laid a) (s1.free a) ag
def sd(K:Frag)(c:RO):Sp:=#[3,∃ k r p b cs n m z,vs=[.ref r,.int z]/\IsRule H c k r p b cs n m/\cs.length<=63/\z∈cs/\∀ l a,Same H a->H l=none->a l=↥((behL cs z).map V.int)->Q (.ref l) a]
def se(K:Frag)(c:RO):TS:=#[":glyiE~n~obi0ch#2 glHbF~sb2a1ch#3 j^~a2+dC3ef#1 +dC3ef#2 "]
theorem Fg(h:sd K c vs H Q E):se K c (eD9 Q) (start ["rule","cell","spots","place"] vs) H:=by
 obtain⟨k,r,p,e,cs,n,m,z,rfl,x,t,i,q⟩:=h;obtain⟨u,W,C,h1,h2,h3⟩:=x.ex;ac_nf;unfold se;rw[aB,bw];refine methE (k:=k) rfl x.ok h1 (by rfl) ?_;exists⟨r,p,e,cs,n,m,rfl,x,λS d=>?_⟩;obtain⟨v,g,s1,a⟩:=aP (.lst (cs.map V.int)) d;rw[g];exists⟨a7 a,?_⟩;refine kg a i #[4] ?_;have s:(cs.findIdx (· ==z))=ju cs z:=rfl;rw[s];unfold behL at q;generalize ju cs z=j at*;exists qh a λl b=>?_;have f:(j:Int)+1=((j+1:Nat):Int):=by lia
 have o:(j:Int)+2=((j+2:Nat):Int):=by lia
 rw[f,o,CW _ #[4],show j+2 - (j+1)=1 by lia,← List.map_drop,← PH,AW];exact q l _ (s1.laid b) (s1.free b) ag
def nogB(s m:Int):Bool:=(sgL m).all λx=>decide (s<=x)
def nolB(s m:Int):Bool:=(sgL m).all λx=>decide (x<=s)
theorem G7(a:0<=m)(b:m<64):(sgL m).length<=6:=by
 rw[(gE a b).2,NM];exact N1 _ _
def iO(K:Frag):Sp:=#[3,∃ s m:Int,vs=[.int s,.int m]/\0<=m/\m<64/\∀ a,Same H a->Q (.bl (nogB s m)) a]
def iP(K:Frag):TS:=#[":jq*aw&--0 sb,/ba1ch#1 Dd(21c"]
theorem u9(h:iO K vs H Q E):iP K (eD9 Q) (start ["sign","mask"] vs) H:=by
 obtain⟨s,m,rfl,c,f,q⟩:=h;have p:=(gE c f).1;have n:=G7 c f;exists iP;refine⟨m,rfl,by lia,λl r s1 o e=>?_⟩;refine⟨l,rfl,⟨_,NW e⟩,?_⟩;refine kM (xs:=sgL m) (λx=>decide (s<=x)) #[4] (NW e) ?_ ?_
 . intro x b i k d k2;show tOp _ _ _ [none,⇑x,⇑s] b i;exists k2 _ (NP _)
 . intro j b g d a;exists jh a ?_;rw[Pl];exact q _ (s1.trans d)
def lj(K:Frag):Sp:=#[3,∃ s m:Int,vs=[.int s,.int m]/\0<=m/\m<64/\∀ a,Same H a->Q (.bl (nolB s m)) a]
def lm(K:Frag):TS:=#[":jq*aw&--0 sb,/ba1ch#1 Dd)21c"]
theorem zw(h:lj K vs H Q E):lm K (eD9 Q) (start ["sign","mask"] vs) H:=by
 obtain⟨s,m,rfl,c,f,q⟩:=h;have p:=(gE c f).1;have n:=G7 c f;exists lm;refine⟨m,rfl,by lia,λl r s1 o e=>?_⟩;refine⟨l,rfl,⟨_,NW e⟩,?_⟩;refine kM (xs:=sgL m) (λx=>decide (x<=s)) #[4] (NW e) ?_ ?_
 . intro x b i k d k2;show tOp _ _ _ [none,⇑x,⇑s] b i;exists k2 _ (NP _)
 . intro j b g d a;exists jh a ?_;rw[Pl];exact q _ (s1.trans d)
def stpB(cs NA:∅)(z s:Int):Bool:=((ahdL cs z).any λo=>nogB s (NA.getD o.toNat 0))||((behL cs z).any λo=>nolB s (NA.getD o.toNat 0))
def stepB(cs NA:∅)(z s:Int)(ms:∅):Bool:=decide (ms=[])&&stpB cs NA z s
def jx(K:Frag)(c:RO):Sp:=#[3,∃ k r p A M d cs NA a n m z s,vs=[.ref r,.ref A,.int z,.int s,.ref M]/\IsRule H c k r p d cs n m/\aI cs NA.length/\z∈cs/\(∀ m∈NA,0<=m/\m<64)/\H A=↥(NA.map V.int)/\H M=↥(a.map V.int)/\∀ b,Same H b->Q (.bl (stepB cs NA z s a)) b]
def gG(K:Frag)(c:RO):TS:=#[":gnxq~[aw&--13 sb,{mbia0a2ch#1 D,{nba3adk21ccjeGQojq~[aw&--13 sb,{obia0a2ch#1 D,{pba3adk21cc"]
def jy(K:Frag)(c:RO):TS:=#[":gnmdBb4tcjeGzo{qbi"]
theorem sf {k:RK} {r p A M:Addr} {v:List (List Nat)} {n s:Int} (x:IsRule H c k r p v cs n m) (f:aI cs NA.length) (t:z∈cs) (mm:∀ m∈NA,0<=m/\m<64) (E:H A=↥(NA.map V.int))
  (q:∀ B,Same H B->Q (.bl (stpB cs NA z s)) B):
  gG K c (eD9 Q) [↑r,↑A,⇑z,⇑s,↑M] H:=by
 have S:(ahdL cs z).length<=1:=by unfold ahdL;split <;> simp
 have X:(behL cs z).length<=1:=by unfold behL;split <;> simp
 unfold gG;rw[aB,az];exists⟨k,r,p,v,cs,n,m,z,rfl,x,f.1,t,λl Y s1 T D=>?_⟩;refine⟨l,rfl,⟨_,NW D⟩,?_⟩;refine kM (xs:=ahdL cs z) (λo=>nogB s (NA.getD o.toNat 0)) #[4] (NW D) ?_ ?_
 . intro o F O h u k2;have a:=f.2 o (HR t h);have e:=wo mm a.1 a.2;show tCall _ _ _ _ [none,⇑o,↑A,⇑s] F O;exists ixI ((s1.trans u) _ _ E) a.1 a.2 ?_;exact⟨s,_,rfl,e.1,e.2,k2⟩
 . intro R F L u i;exists Dr i ?_;have b:=s1.trans u;rw[RN];unfold stpB at q;have I:(ahdL cs z).any (id ∘ λo=>nogB s (NA.getD o.toNat 0))=(ahdL cs z).any λo=>nogB s (NA.getD o.toNat 0):=rfl;rw[I]
   cases C:(ahdL cs z).any λo=>nogB s (NA.getD o.toNat 0) with
   | true=>
    rw[C,P1]at q;refine⟨true,rfl,iteT ?_⟩;exists q _ b
   | false=>
    rw[C,O3]at q;refine⟨false,rfl,iteF ?_⟩;exists⟨k,r,p,v,cs,n,m,z,rfl,x.same b,f.1,t,λG U w J d=>?_⟩;refine⟨G,rfl,⟨_,NW d⟩,?_⟩;refine kM (xs:=behL cs z) (λo=>nolB s (NA.getD o.toNat 0)) #[4] (NW d) ?_ ?_
    . intro o y N h j k4;have a:=f.2 o (HS h);have e:=wo mm a.1 a.2;show tCall _ _ _ _ [none,⇑o,↑A,⇑s] y N;exists ixI (((b.trans w).trans j) _ _ E) a.1 a.2 ?_;exact⟨s,_,rfl,e.1,e.2,k4⟩
    . intro W y P j g;exists Dr g ?_;rw[RN];exact q _ ((b.trans w).trans j)
theorem wq(h:jx K c vs H Q E):jy K c (eD9 Q) (start ["rule","masks","cell","sign","more"] vs) H:=by
 obtain⟨k,r,p,A,M,t,cs,NA,d,n,m,z,s,rfl,x,l,o,f,b,j,q⟩:=h;ac_nf;unfold jy;rw[aB,az];exists⟨aT #[1],λZ e=>?_⟩;obtain⟨H1,z9,s1,eZ⟩:∃ z,upd H Z (.lst [])=z/\Same H z/\z Z=↥(([]:∅).map V.int):=aP _ e;rw[z9];refine tR (s1 _ _ j) eZ ?_;unfold stepB at q
 cases a:decide (d=[]) with
 | false=>
  rw[a,Oc]at q;refine⟨true,rfl,?_⟩;exists q _ s1
 | true=>
  rw[a,Ob]at q;refine⟨false,rfl,?_⟩;exists sf (x.same s1) l o f (s1 _ _ b) λg i=>q g (s1.trans i)
section
variable{X:Cx}
def minI(ns:∅):Int:=ns.getD (argBest (λi j=>decide (ns.getD i 0<ns.getD j 0)) (ns.length-1)) 0
def maxI(ns:∅):Int:=ns.getD (argBest (λi j=>decide (ns.getD i 0>ns.getD j 0)) (ns.length-1)) 0
def Ae:List V->Hp->VK->Prop
 | [.ref p],H,Q=>bnd (unL (H p)) λys=>∃ ns:∅,ys=ns.map V.int/\0<ns.length/\Q (.int (maxI ns)) H
 | _,_,_=>False
theorem DA(E:X.calm=true):CallR X (.builtin "max") Ae:=by
 intro J s σ H xs G Q I r h;unfold Ae at h
 split at h
 . rename_i p
   obtain⟨K,e,ns,rfl,B,q⟩:=ba h;obtain⟨u,rfl,w⟩:=d7 r;cases w;obtain⟨d,m,k,F⟩:=I.list (o7 e);have n:=m.length;rw[NM]at n
   have f:p<s.heap.objs.size:=by
    obtain⟨o,h1,_⟩:=k.isList;exact Oh h1
   have a:∀(i:Nat) (v:Value),d.toArray[i]? =some v->∃ t,v=.int (ns.getD i 0) t:=λi v g=>by
    have C:d[i]? =some v:=by simpa using g
    obtain⟨x,z,D⟩:=m.get' C;obtain⟨b,c,rfl⟩:∃ b,ns[i]? =some b/\V.int b=x:=by simpa using z
    obtain⟨t,rfl⟩:=D;exact⟨t,by simp[List.getD,c]⟩
   have e2:d.toArray.size=ns.length:=by rw[N8];exact n.symm
   refine call_max_walkS (PP k.isList ?_);refine⟨s.heap.objs.size,_,_,_,d.toArray.size,_,_,λi j=>decide (ns.getD i 0>ns.getD j 0),rfl,(RG (A:=X.A.in1) (I.ok.hd E) s.heap.objs.size p (OF f) d.toArray).toS,⟨⟨_,Oq _ rfl,rfl,rfl⟩,k.isList.push _⟩,?_,by lia,CmpOf.ints_gt (λi=>ns.getD i 0) a,λv L g y=>?_⟩
   . intro b c;show b < (s.heap.push _).objs.size;rw[Ps];rcases N4.mp c with rfl | c
     . exact PX _
     . rcases N4.mp c with rfl | c
       . exact Ph f
       . cases c
   . obtain⟨t,rfl⟩:=a _ v g;refine⟨.int _,H,I.walked (l:=p) y,⟨t,rfl⟩,?_⟩;rw[e2];exact q
 . exact h.elim
end
section
variable{H:Hp}{Q:VK}
theorem Jv{p:Addr}{ns:∅}(c:H p=↥(ns.map V.int))(b:0<ns.length)(h:Q (.int (maxI ns)) H):Ae [.ref p] H Q:=by
 show bnd (unL (H p)) _;rw[c];exact a9 (a:=ns.map V.int) rfl ⟨ns,rfl,b,h⟩
end
def qT(xs:∅):xs.filter (λ_=>true)=xs:=P4.mpr λ_ _=>rfl
def loM(m:Int):Int:=(sgL m).getD 0 0
def hiM(m:Int):Int:=(sgL m).getD ((sgL m).length-1) 0
theorem Jw:((List.range 64).all λm=>decide (m=0)||(decide (0 < (sgL (m:Int)).length/\(sgL (m:Int)).length<=6)&&(decide (minI (sgL (m:Int))=loM (m:Int)/\maxI (sgL (m:Int))=hiM (m:Int))&&decide ((1<=loM (m:Int)/\loM (m:Int)<=6)/\1<=hiM (m:Int)/\hiM (m:Int)<=6))))=true:=by decide+kernel
theorem G8{m:Int}(b:0<=m)(c:m<64)(a:m≠0):(0 < (sgL m).length/\(sgL m).length<=6)/\(minI (sgL m)=loM m/\maxI (sgL m)=hiM m)/\(1<=loM m/\loM m<=6)/\1<=hiM m/\hiM m<=6:=by
 have t:=Od.mp Jw m.toNat (Oe.mpr #[4]);have e1:((m.toNat:Nat):Int)=m:=by lia
 rw[e1,Rn,NU,OB,OB,NU,NU,NU]at t;rcases t with t | t
 . lia
 . exact t
theorem Jx:sgL 0=[]:=by decide+kernel
theorem DB{xs:∅}(h:0<xs.length):atI (xs.map V.int) (-1)=some (V.int (xs.getD (xs.length-1) 0)):=by
 unfold atI ixN;rw[NM,Og #[1],Os #[4]];show(xs.map V.int)[((xs.length:Int)+ -1).toNat]? =_;rw[show((xs.length:Int)+ -1).toNat=xs.length-1 by lia,NR,NN #[4],List.getD,NN #[4]];rfl
def smB(os:∅)(n s:Int):Bool:=decide (0∈os)||(decide (n<s+(os.map loM).sum)||decide (s+(os.map hiM).sum<n))
def sumB(cs:∅)(n:Int)(NA:∅)(z s:Int)(ms:∅):Bool:=decide (ms=[])&&smB (sgAt NA (othL cs z)) n s
def gR(K:Frag):Sp:=#[3,∃(A:Addr) (a:∅),vs=[.ref A]/\H A=↥(a.map V.int)/\Q (.bl (decide (0∈a))) H]
def qC(K:Frag):TS:=#[":jdNbzef#0 0"]
variable{K:Frag}{vs:List V}{H:Hp}{Q:VK}{E:XK}
theorem DC(h:gR K vs H Q E):qC K (eD9 Q) (start ["masks"] vs) H:=by
 obtain⟨A,b,rfl,a,q⟩:=h;exists qC;rw[uQ a];exact q
variable{cs:∅}
def J5{NA:∅}{z:Int}(d:aI cs NA.length)(mm:∀ m∈NA,0<=m/\m<64):∀ m∈sgAt NA (othL cs z),0<=m/\m<64:=λm a=>by
 unfold sgAt at a;obtain⟨x,c,rfl⟩:=N9.mp a;have b:=d.2 x (Ol.mp c).1;exact wo mm b.1 b.2
def kh(K:Frag)(c:RO):Sp:=#[3,∃ k r p A M d cs NA a n m z s,vs=[.ref r,.ref A,.int z,.int s,.ref M]/\IsRule H c k r p d cs n m/\aI cs NA.length/\(∀ m∈NA,0<=m/\m<64)/\H A=↥(NA.map V.int)/\H M=↥(a.map V.int)/\∀ b,Same H b->Q (.bl (sumB cs n NA z s a)) b]
def g7(K:Frag)(c:RO):TS:=#[":gldC3q~Oaw&-- sb5h#1 Ddk,/ba1cef#0 ch#6 gldC3q~Oaw&-- sb5h#1 Ddk,/ba1c{r`0ef#1 ch#7 j~yd>6yiE~M~Nbi0cd<7yiE~M~Nbi0c",(rU λi=>.int (-i))]
def g8(K:Frag)(c:RO):TS:=#[":gl,~kba1a,-bia0a2cch#5 gnx,~Pba5cjeGQo{sbi"]
def ki(K:Frag)(c:RO):TS:=#[":gnmdBb4tcjeGzo{tbi"]
variable{c:RO}
theorem t5 {k:RK} {r p A M B:Addr} {E:List (List Nat)} {os:∅} {n m z s:Int} (x:IsRule H c k r p E cs n m) (T:os.length<=63) (f:∀ m∈os,0<=m/\m<64) (O:¬ 0∈os) (u:H B=↥(os.map V.int))
  (q:∀ I,Same H I->Q (.bl (decide (n<s+(os.map loM).sum)||decide (s+(os.map hiM).sum<n))) I):
  g7 K c (eD9 Q) [↑r,↑A,⇑z,⇑s,↑M,↑B,none,none] H:=by
 have o:∀ y∈os,_:=λy a=>G8 (f y a).1 (f y a).2 (λe=>O (e ▸ a));unfold g7;exists⟨⟨_,NW u⟩,?_⟩;refine aY (xs:=os) (λ_=>true) loM #[4] (NW u) ?_ ?_ ?_
 . intro y F R a s1 k1;exact k1 _ (NP _)
 . intro y F S a d s1 k1;have G:=o y a;show tOp cIx _ _ [none,⇑y] F S;exists⟨y,rfl,by have:=(gE (f y a).1 (f y a).2);have:=this.1;lia,λl t i v D=>?_⟩;refine ixI D #[1] #[4] ?_;exact k1 _ i
 . intro U F P s1 j;rw[qT]at j;exists Ac j (λy a=>by obtain⟨z,w,rfl⟩:=N9.mp a;have:=(o z w).2.2.1;lia) (by rw[NM];lia) ?_;exists⟨⟨_,NW (s1 _ _ u)⟩,?_⟩;refine aY (xs:=os) (λ_=>true) hiM #[4] (NW (s1 _ _ u)) ?_ ?_ ?_
   . intro y t R a i k2;exact k2 _ (NP _)
   . intro y t N a d i k2;have G:=o y a;show tOp cIx _ _ [none,⇑y] t N;exists⟨y,rfl,by have:=(gE (f y a).1 (f y a).2);have:=this.1;lia,λl Z L J D=>?_⟩;refine ixL D (DB G.1.1) ?_;exact k2 _ L
   . intro X t v i g;rw[qT]at g;exists Ac g (λy a=>by obtain⟨z,w,rfl⟩:=N9.mp a;have:=(o z w).2.2.2;lia) (by rw[NM];lia) ?_;symm;have b:=s1.trans i;have h:=x.same b;obtain⟨Y,W,C,h1,h2,h3⟩:=h.ex;refine methE (k:=k) rfl h.ok h1 (by rfl) ?_;exists⟨r,p,E,cs,n,m,rfl,h,?_⟩;symm;by_cases d:n<s+(os.map loM).sum
     . rw[NT d,P1]at q;rw[NT d];exists q _ b
     . rw[NQ d,O3]at q;rw[NQ d];exists methE (k:=k) rfl h.ok h1 (by rfl) ?_;exists⟨r,p,E,cs,n,m,rfl,h,?_⟩;exists q _ b
theorem t6 {k:RK} {r p A M:Addr} {f:List (List Nat)} {NA:∅} {n m z s:Int} (x:IsRule H c k r p f cs n m) (e:aI cs NA.length) (mm:∀ m∈NA,0<=m/\m<64) (i:H A=↥(NA.map V.int))
  (q:∀ d,Same H d->Q (.bl (smB (sgAt NA (othL cs z)) n s)) d):
  g8 K c (eD9 Q) [↑r,↑A,⇑z,⇑s,↑M,none,none,none] H:=by
 have b:aI (othL cs z) NA.length:=⟨NY (N1 _ _) e.1,λy t=>e.2 y (Ol.mp t).1⟩;have l:(sgAt NA (othL cs z)).length<=63:=by unfold sgAt;rw[NM];exact b.1
 have u:=J5 (z:=z) e mm;unfold g8;exists⟨k,r,p,f,cs,n,m,z,rfl,x,e.1,λO D s1 C j=>?_⟩;exists⟨A,O,NA,othL cs z,rfl,s1 _ _ i,j,b,λB w o v g=>?_⟩;have a:=s1.trans o;generalize sgAt NA (othL cs z)=os at*;symm;rw[az];exists⟨B,os,rfl,g,?_⟩;unfold smB at q;by_cases h0:0∈os
 . rw[NT h0,P1]at q;rw[NT h0];refine⟨true,rfl,?_⟩;exists q _ a
 . rw[NQ h0,O3]at q;rw[NQ h0];refine⟨false,rfl,?_⟩;exists t5 (x.same a) l u h0 g λd h=>q d (a.trans h)
theorem xY(h:kh K c vs H Q E):ki K c (eD9 Q) (start ["rule","masks","cell","sign","more","some","least","greatest"] vs) H:=by
 obtain⟨k,r,p,A,M,o,cs,NA,d,n,m,z,s,rfl,x,l,f,b,j,q⟩:=h;ac_nf;unfold ki;rw[aB,az];exists⟨aT #[1],λZ e=>?_⟩;obtain⟨H1,z9,s1,eZ⟩:∃ z,upd H Z (.lst [])=z/\Same H z/\z Z=↥(([]:∅).map V.int):=aP _ e;rw[z9];refine tR (s1 _ _ j) eZ ?_;unfold sumB at q
 cases a:decide (d=[]) with
 | false=>
  rw[a,Oc]at q;refine⟨true,rfl,?_⟩;exists q _ s1
 | true=>
  rw[a,Ob]at q;refine⟨false,rfl,?_⟩;exists t6 (x.same s1) l f (s1 _ _ b) λg i=>q g (s1.trans i)
theorem Fh(t:TK):decide (tkC t=s!"sum")=decide (t=.sum):=by cases t <;> decide
theorem GB{p q:Addr}{D:PyData}(c:DV K H (.ref p) D)(b:DV K H (.ref q) D)(a:SeqAt.shaped D=true)(he:PyData.eqv D D=true)(h:Q (.bl false) H):cNe K (.ref p) (.ref q) H Q:=by
 show rNeD K (.ref p) (.ref q) H Q;refine⟨D,D,c,b,a,a,?_⟩;rw[he];exact h
theorem zx(xs:∅):PyData.eqv (.list (xs.map PyData.int)) (.list (xs.map PyData.int))=true:=by
 rw[PyData.eqv,uO];simp
def sh(K:Frag)(c:RO):Sp:=dc K c .Sum
def mL(K:Frag)(c:RO):TS:=#[":jdrbq~OayiE~G~Hbi0a1ccMi0~u"]
def Jy{xs:∅}{n:Nat}(e:aI cs n)(g:n=xs.length)(d:∀ x∈xs,0<=x/\x<=1000):∀ x∈sgAt xs cs,0<=x/\x<=1000:=λx b=>by
 unfold sgAt at b;obtain⟨c,f,rfl⟩:=N9.mp b;have:=e.2 c f;have a:c.toNat<xs.length:=by omega
 rw[List.getD,NN a];exact d _ (On a)
theorem AX(h:sh K c vs H Q E):mL K c (eD9 Q) (start ["self","filling"] vs) H:=by
 obtain⟨r,p,f,d,cs,xs,n,m,h,w,g,rfl,x,k,F,i,a,b,q⟩:=h;obtain⟨s,W,C,h1,h2,h3⟩:=x.ex;exists mL;refine methE rfl x.ok h1 (by rfl) ?_;exists⟨r,p,f,d,cs,xs,n,m,rfl,x,i,a,λl u s1 o j=>?_⟩;have t:(sgAt xs cs).length<=100:=by unfold sgAt;rw[NM];exact NY a.1 #[1]
 exists Ac j (λy e=>by have:=Jy a rfl b y e;lia) #[4] ?_;refine fldE rfl x.ok (s1 _ _ h1) (v:=.int n) (by rfl) ?_;exists q _ s1
theorem CY:∀ l:∅,risB l=(List.range (l.length-1)).all λi=>decide (l.getD i 0<l.getD (i+1) 0)
 | []=>rfl
 | [x]=>rfl
 | x::y::r=>by
  have a:=CY (y::r);show(decide (x<y)&&risB (y::r))=(List.range (r.length+1)).all λi=>decide ((x::y::r).getD i 0 < (x::y::r).getD (i+1) 0);rw[a,List.range_succ_eq_map,P6,Pl];rfl
def nK(K:Frag)(c:RO):Sp:=dc K c .Rising
def jz(K:Frag)(c:RO):TS:=#[":glyiE~G~Hbi0a1ch#2 jq*aw&--2 ~gadUqAa2cef#1 ch#1 Dd<dk21dk2dC1ef#1 c"]
theorem wr(h:nK K c vs H Q E):jz K c (eD9 Q) (start ["self","filling","signs"] vs) H:=by
 obtain⟨r,p,f,y,cs,xs,n,m,h,w,g,rfl,x,D,F,A,k,M,q⟩:=h;obtain⟨I,W,C,h1,h2,h3⟩:=x.ex;exists jz;refine methE rfl x.ok h1 (by rfl) ?_;exists⟨r,p,f,y,cs,xs,n,m,rfl,x,A,k,λl N s1 G d=>?_⟩;have L:(sgAt xs cs).length<=100:=by unfold sgAt;rw[NM];exact NY k.1 #[1]
 have v:∀ o,Same H o->Q (.bl (risB (sgAt xs cs))) o:=q;generalize sgAt xs cs=sg at*;symm;rw[bh d,NM];exists⟨_,rfl,by lia,by lia,?_⟩;have s:((sg.length:Int)-1).toNat=sg.length-1:=by lia
 rw[s];refine um (λ_=>true) (λi=>.bl (decide (sg.getD i 0<sg.getD (i+1) 0))) #[4] ?_ ?_ ?_
 . intro i j R z b k2;exact k2 _ (NP _)
 . intro i j u z J b k2;show tOp _ _ _ [none,⇑(0+(i:Int)),↑l] j u;rw[Qd];exists ixI (b _ _ d) #[4] #[4] ?_;refine ixI (b _ _ d) #[4] #[4] ?_;symm;have e1:(i:Int).toNat=i:=by lia
   have e2:((i:Int)+1).toNat=i+1:=by lia
   rw[e1,e2];exact k2 _ (NP _)
 . intro B j t b a;rw[aZ]at a;refine jh (bs:=(List.range (sg.length-1)).map λi=>decide (sg.getD i 0<sg.getD (i+1) 0)) (by rw[a,Op];rfl) ?_
   have e:((List.range (sg.length-1)).map λi=>decide (sg.getD i 0<sg.getD (i+1) 0)).all id=risB sg:=by
    rw[CY,Pl];rfl
   rw[e];exact v _ (s1.trans b)
theorem va(l:∅)(x:Int):seenN (l++[x])=if (seenN l).1<x then(x,(seenN l).2+1) else seenN l:=by
 unfold seenN;rw[Pp];rfl
theorem wt:∀(n:Nat) (l:∅),l.length=n->0<=(seenN l).1/\(∀ y∈l,y<=(seenN l).1)/\((seenN l).1=0\/(seenN l).1∈l)/\0<=(seenN l).2/\(seenN l).2<=n
 | 0,l,hl=>by
  have:l=[]:=QX.mp hl;subst this;exact⟨by decide,λy a=>(OE a).elim,.inl rfl,by decide,by decide⟩
 | n+1,l,hl=>by
  have b:l≠[]:=λe=>by rw[e]at hl;simp at hl
  have e:=List.dropLast_concat_getLast b;generalize l.getLast b=x at e;generalize m:l.dropLast=d at e;have k:d.length=n:=by rw[← m,List.length_dropLast,hl];rfl
  obtain⟨i,f,j,g,o⟩:=wt n d k;rw[← e,va];by_cases c:(seenN d).1<x
  . rw[Os c];refine⟨by show 0<=x;lia,λy a=>?_,.inr (by simp),by show 0<=(seenN d).2+1;lia,by show(seenN d).2+1<=_;lia⟩;rcases Of.mp a with a | a
    . have:=f y a;show y<=x;lia
    . have:y=x:=by simpa using a
      show y<=x;lia
  . rw[Og c];refine⟨i,λy a=>?_,?_,g,by lia⟩
    . rcases Of.mp a with a | a
      . exact f y a
      . have:y=x:=by simpa using a
        lia
    . rcases j with h | h
      . exact .inl h
      . exact .inr (Py _ h)
theorem Fi{l:∅}{x:Int}(f:1<=x):(seenN (l++[x])).2=(seenN l).2+if (∀ y∈l,y<x) then 1 else 0:=by
 obtain⟨g,a,b,_,_⟩:=wt _ l rfl;rw[va];by_cases h:∀ y∈l,y<x
 . rw[Os h]
   have:(seenN l).1<x:=by
    rcases b with e | e
    . lia
    . exact h _ e
   rw[Os this]
 . rw[Og h];have:¬ (seenN l).1<x:=λc=>h λy d=>by have:=a y d;lia
   rw[Og this];simp
def qU(K:Frag)(c:RO):Sp:=dc K c .Seen
def lq(K:Frag)(c:RO):TS:=#[":glef#0 h#2 glef#0 h#3 gIsbyiE~G~Hbi0a1ch#4 nmd>42gl4h#2 ldC3ef#1 h#3 ojdrb3Mi0~u"]
theorem zy(h:qU K c vs H Q E):lq K c (eD9 Q) (start ["self","filling","greatest","seen","sign"] vs) H:=by
 obtain⟨r,p,f,u,cs,xs,n,m,h,w,g,rfl,x,J,F,G,B,I,q⟩:=h;obtain⟨M,W,C,h1,h2,h3⟩:=x.ex;exists lq;refine methE rfl x.ok h1 (by rfl) ?_;exists⟨r,p,f,u,cs,xs,n,m,rfl,x,G,B,λl D s1 L o=>?_⟩;have s:∀ b,Same H b->Q (.bl (decide ((seenN (sgAt xs cs)).2=n))) b:=q;generalize sgAt xs cs=sg at*;exists⟨⟨_,NW o⟩,bc (K:=K) (xs:=sg.map V.int) (λi σ b=>∃ k:Option V,σ=[↑r,↑f,some (.int (seenN (sg.take i)).1),some (.int (seenN (sg.take i)).2),k]/\b=D) ⟨none,rfl,rfl⟩ (λi σ b _ ⟨_,_,e⟩=>by rw[e];exact NW o) ?_ ?_⟩
 . rintro i y σ t d ⟨k,rfl,rfl⟩;rw[NR]at d
   cases e:sg[i]? with
   | none=>rw[e]at d;cases d
   | some z=>
    rw[e]at d;cases d;have A:sg.take (i+1)=sg.take i++[z]:=by rw[Pn,e];rfl
    have a:=va (sg.take i) z;rw[← A]at a;symm;rw[az];symm;by_cases j:(seenN (sg.take i)).1<z
    . rw[NT j];rw[Os j]at a;refine iteT ?_;rw[a];exact⟨_,rfl,by first | trivial | rfl⟩
    . rw[NQ j];rw[Og j]at a;refine iteF ?_;rw[a];exact⟨_,rfl,by first | trivial | rfl⟩
 . rintro σ t ⟨k,rfl,rfl⟩;rw[NM,ON];exists fldE rfl x.ok (s1 _ _ h1) (v:=.int n) (by rfl) ?_;exists s _ s1
def pi(K:Frag)(c:RO):Sp:=λvs H Q E=>∃ k,ja K c k vs H Q E
def kj(K:Frag)(c:RO):TS:=#[":jw&--10 ~WbMi0~Fh#1 mdrbdk21Mi3~V1"]
theorem xZ(h:pi K c vs H Q E):kj K c (eD9 Q) (start ["self","filling"] vs) H:=by
 obtain⟨k,r,p,f,o,cs,xs,n,m,rfl,x,i,⟨s,g⟩,q⟩:=h;obtain⟨t,W,C,h1,h2,h3⟩:=x.ex;ac_nf;unfold kj;rw[b7,xO];refine fldE rfl x.ok h1 (v:=.ref C) (by rfl) ?_;refine⟨C,rfl,⟨_,Ry h3⟩,?_⟩;refine yP (xs:=cs) (λc=>decide (xs.getD c.toNat 0=m)) (λc=>c) #[4] h3 ?_ ?_ ?_
 . intro z a R b s1 k1;show tTest _ [none,⇑z,↑f,↑r] a R;symm;have:=g z b;refine ixI (s1 _ _ i) this.1 #[4] ?_;refine fldE rfl x.ok (s1 _ _ h1) (v:=.int m) (by rfl) ?_;exists k1 _ (NP _)
 . intro z a j b u s1 k1;exact k1 _ (NP _)
 . intro l a e s1 d;rw[Pa]at d;exact q l a s1 e d
def pj(K:Frag)(c:RO):Sp:=dc K c .Count
def km(K:Frag)(c:RO):TS:=#[":jdrbqAayiE~Q~Rbi0a1ccMi0~u"]
theorem x9(h:pj K c vs H Q E):km K c (eD9 Q) (start ["self","filling"] vs) H:=by
 obtain⟨r,p,f,a,cs,xs,n,m,h,w,g,rfl,x,j,F,d,b,i,q⟩:=h;obtain⟨o,W,C,h1,h2,h3⟩:=x.ex;exists km;refine methE rfl x.ok h1 (by rfl) ?_;exists⟨r,p,f,a,cs,xs,n,m,rfl,x,d,b,λl s s1 k e=>?_⟩;symm;rw[bh e,NM];refine fldE rfl x.ok (s1 _ _ h1) (v:=.int n) (by rfl) ?_;exists q _ s1
def mM(K:Frag):Sp:=#[3,∃(S M:Addr) (a b:∅),vs=[.ref S,.ref M]/\H S=↥(a.map V.int)/\H M=↥(b.map V.int)/\a.length<=100/\∀ d,Same H d->Q (.bl (a.all λc=>decide (c∈b))) d]
def mN(K:Frag):TS:=#[":jq*aw&--1 sb0h#1 DdNbz12c"]
variable{vs:List V}
theorem AY{K:Frag}{H:Hp}{Q:VK}{E:XK}(h:mM K vs H Q E):mN K (eD9 Q) (start ["some","cells"] vs) H:=by
 obtain⟨S,M,a,f,rfl,j,m,r,q⟩:=h;exists mN;refine⟨⟨_,NW j⟩,?_⟩;refine bE (xs:=a.map V.int) (λ_=>true) (λi=>.bl (decide (a.getD i 0∈f))) (by rw[NM];lia) (NW j) ?_ ?_ ?_
 . intro i x g R d s1 k1;exact k1 _ (NP _)
 . intro i x g n d s s1 k1;rw[NR]at d
   cases e:a[i]? with
   | none=>rw[e]at d;cases d
   | some z=>
    rw[e]at d;cases d;have k2:=k1 _ (NP g);rw[List.getD,e]at k2;show tOp (cIn K false) _ _ [none,⇑z,↑M] g n;symm;rw[uQ (s1 _ _ m)];exact k2
 . intro l g p s1 k;rw[aZ,NM]at k;refine jh (bs:=(List.range a.length).map λi=>decide (a.getD i 0∈f)) (by rw[k,Op];rfl) ?_
   have e:((List.range a.length).map λi=>decide (a.getD i 0∈f)).all id=a.all λc=>decide (c∈f):=by
    rw[Pl,Om,Od,Od];constructor
    . intro h c o;obtain⟨i,b,rfl⟩:=Pe.mp o;have:=h i (Oe.mpr b);dsimp only[Function.comp,id]at this;rw[List.getD,NN b]at this;exact this
    . intro h i b;have b:=Oe.mp b;have:=h _ (On b);dsimp only[Function.comp,id];rw[List.getD,NN b];exact this
   rw[e];exact q _ s1
def lK(K:Frag)(c:RO):Sp:=dc K c .NoSquare
theorem HU{h w g:Int}(F:FlOk h w g):(squL h w).length<=16:=by
 obtain⟨h0,h1,e,d,a,b,c⟩:=F;unfold squL;rw[NM];refine NY (N1 _ _) ?_;rw[OU];lia
def g9(K:Frag)(c:RO):TS:=#[":glyiE~Q~Rbi0a1ch#2 j'lq~[aw&--2 sb,~?baMi0?ch#1 D,{uba1a2cc"]
theorem t7{K:Frag}{c:RO}{H:Hp}{Q:VK}{E:XK}(h:lK K c vs H Q E):g9 K c (eD9 Q) (start ["self","filling","cells"] vs) H:=by
 obtain⟨r,p,f,X,cs,xs,n,m,h,w,g,rfl,x,S,F,hf,N,U,q⟩:=h;obtain⟨dx,W,C,h1,h2,h3⟩:=x.ex;exists g9;refine methE rfl x.ok h1 (by rfl) ?_;exists⟨r,p,f,X,cs,xs,n,m,rfl,x,hf,N,λl H1 s1 hl T=>?_⟩;exists fldE rfl x.ok (s1 _ _ h1) (v:=.ref p) (by rfl) ?_;exists⟨p,h,w,g,rfl,s1 _ _ S,F,λL as H2 M hL d _ _ _=>?_⟩;have sl:=HU F;refine⟨L,rfl,⟨_,NW d.top⟩,?_⟩;refine bE (xs:=as.map V.ref) (λ_=>true) (λi=>.bl (((squL h w).getD i []).all λc=>decide (c∈mkAt xs cs m))) (by rw[NM,d.len];lia) (NW d.top) ?_ ?_ ?_
 . intro i x G R U o k3;exact k3 _ (NP _)
 . intro i y G Z a B o k3;obtain⟨b,B,rfl⟩:=bz a;have s:i < (squL h w).length:=by rw[← d.len];exact(NO.mp B).1
   have e:=NN s;have k:(squL h w).getD i []=(squL h w)[i]:=by rw[List.getD,e];rfl
   have u:((squL h w)[i]).length<=100:=by
    have A:=On s;generalize (squL h w)[i]=z at A;unfold squL at A;obtain⟨j,_,rfl⟩:=N9.mp A;show 4<=100;decide
   show tCall _ _ _ _ [none,↑b,↑l] G Z;exists⟨b,l,_,_,rfl,o _ _ (d.at_ i b _ B e),o _ _ (M _ _ T),u,λO P=>?_⟩;have:=k3 O P;rw[k]at this;exact this
 . intro D G hD o I;rw[aZ,NM,d.len]at I;refine Dr (bs:=(List.range (squL h w).length).map λi=>((squL h w).getD i []).all λc=>decide (c∈mkAt xs cs m)) (by rw[I,Op];rfl) ?_
   have e:((List.range (squL h w).length).map λi=>((squL h w).getD i []).all λc=>decide (c∈mkAt xs cs m)).any id=(squL h w).any λJ=>J.all λc=>decide (c∈mkAt xs cs m):=by
    rw[RN,Om,PY,PY];constructor
    . rintro⟨i,a,t⟩;have a:=Oe.mp a;dsimp only[Function.comp,id]at t;have k:(squL h w).getD i []=(squL h w)[i]:=by rw[List.getD,NN a];rfl
      rw[k]at t;exact⟨_,On a,t⟩
    . rintro⟨J,Y,t⟩;obtain⟨i,a,rfl⟩:=Pe.mp Y;refine⟨i,Oe.mpr a,?_⟩;dsimp only[Function.comp,id];have k:(squL h w).getD i []=(squL h w)[i]:=by rw[List.getD,NN a];rfl
      rw[k];exact t
   rw[e];exists q _ ((s1.trans M).trans o)
def fS(K:Frag):Sp:=#[3,∃ a l h w g c cs,vs=[.ref a,.ref l,.int c]/\IsFl H a h w g/\0<w/\w<100/\H l=↥(cs.map V.int)/\cs.length<=63/\
 ∀(p:Addr) (b:Hp) (rs:∅),Same H b->H p=none->b p=↥(rs.map V.int)->rs.Pairwise (· < ·)->(∀ x,x∈rs↔RC h w cs c x)->Q (.ref p) b]
def qD(K:Frag):TS:=#[":gnmdNbQ21jtcoglta2ch#3 glef#0 h#4 g'rmd<4qAa3cgIsb,~tba0adk34ch#5 n~XmdNbz51mdNbQ53PHbFT3a5coldC4ef#1 h#4 jq~Sa3c"]
variable{K:Frag}{vs:List V}{H:Hp}{Q:VK}{E:XK}
theorem DD(h:fS K vs H Q E):qD K (eD9 Q) (start ["floor","cells","start","found","place","cell"] vs) H:=by
 obtain⟨a,l,h,w,g,n,cs,rfl,ha,w0,w1,hl,hn,k⟩:=h;ac_nf;unfold qD;rw[aB,az];symm;rw[lS hl];symm;by_cases U:n∈cs
 . rw[Og (by simpa using U)];exists⟨lnR rfl,λf hf=>?_⟩
   refine⟨λm σ t=>∃(j:∅) (d:Nat) (u:Option V),σ=[↑a,↑l,⇑n,↑f,⇑d,u]/\Same H t/\t f=↥(j.map V.int)/\BI h w cs n j d/\m=cs.length-d,
    ⟨_,[n],0,none,rfl,(NP H).laid hf,ag,BI.start U,rfl⟩,?_⟩
   rintro m σ H1 ⟨j,d,u,rfl,s1,e1,B,rfl⟩;have ab:=B.len;symm;rw[bh e1,NM];symm;by_cases C:d<j.length
   . rw[Os (by simpa using C)];obtain⟨x,M⟩:∃ x,j[d]? =some x:=⟨j[d],by simp[C]⟩;have rx:RC h w cs n x:=B.rc x (NS M)
     refine⟨λσ t=>∃(j:∅) (u:Option V),σ=[↑a,↑l,⇑n,↑f,⇑((d:Int)+1),u]/\Same H t/\t f=↥(j.map V.int)/\BI h w cs n j (d+1),
      λσ' t ⟨Z,aa,e,s',e',B'⟩=>⟨_,by lia,Z,d+1,aa,by rw[e];rfl,s',e',B',rfl⟩,?_⟩
     symm;rw[G4 e1];refine a9 (uR #[4] #[4]) ?_;symm;rw[show((d:Int)).toNat=d from Pq _,dU M];refine⟨a,h,w,g,x,rfl,s1 _ _ ha,w0,w1,λb H2 s2 Y e2=>?_⟩;have X:=s1.trans s2
     refine⟨b,rfl,⟨_,NW e2⟩,bc (K:=K) (xs:=(besL h w x).map V.int) (λi σ t=>∃(s:∅) (u:Option V),σ=[↑a,↑l,⇑n,↑f,⇑d,u]/\Same H t/\t b=↥((besL h w x).map V.int)/\t f=↥(s.map V.int)/\BJ h w cs n j d ((besL h w x).take i) s)
      ⟨j,u,rfl,X,e2,s2 _ _ e1,BJ.zero B⟩ (λi σ t _ ⟨_,_,_,_,q,_⟩=>NW q) ?_ ?_⟩
     . rintro i y σ T I ⟨s,L,rfl,P,eb,v,J⟩;rw[NR]at I
       cases R:(besL h w x)[i]? with
       | none=>rw[R]at I;cases I
       | some z=>
        rw[R]at I;cases I;have W:s.length<=63:=NY (ql J.nd λx M=>(J.rc x M).mem) hn;have N:z∈besL h w x:=NS R;have D:(besL h w x).take (i+1)=(besL h w x).take i++[z]:=by rw[O7,R];rfl
        have J2:=J.more rx N;rw[← D]at J2;symm;rw[az];symm;rw[uQ (P _ _ hl)];symm
        have A:∀ F:Hp,F f=↥((addC cs s z).map V.int)->(∀ c,c≠f->F c=T c)->∃(s:∅) (u:Option V),[some (V.ref a),↑l,⇑n,↑f,⇑d,⇑z]=[↑a,↑l,⇑n,↑f,⇑d,u]/\Same H F/\F b=↥((besL h w x).map V.int)/\F f=↥(s.map V.int)/\BJ h w cs n j d ((besL h w x).take (i+1)) s:=λF q1 q2=>
         ⟨_,_,rfl,λc o e=>by rw[q2 c (av e hf)];exact P c o e,by rw[q2 b (λe=>by rw[e]at Y;rw[e1]at Y;cases Y)];exact eb,q1,J2⟩
        by_cases O:z∈cs
        . rw[Os (by simpa using O)];rw[lS v];by_cases S:z∈s
          . simp only[S,decide_true,PF,Og NV,V.bl.injEq,exists_eq_left'];refine A T ?_ λ_ _=>rfl;rw[v,addC,Og (λq=>q.2 S)]
          . simp only[S,decide_false,PV,RL,V.bl.injEq,exists_eq_left'];exists⟨a7 v,?_⟩;rw[db v];refine⟨by rw[NM];exact aC #[4],A _ ?_ λc hc=>ah hc⟩;rw[ag,addC,Os ⟨O,S⟩];simp
        . rw[Og (by simpa using O)]
          try simp only[Og NV]
          refine A T ?_ λ_ _=>rfl;rw[v,addC,Og (λq=>O q.1)]
     . rintro σ T ⟨s,L,rfl,P,eb,v,J⟩;rw[NM,ON]at J;exists⟨s,L,rfl,P,v,J.done B M⟩
   . rw[Og (by simpa using C)];symm;unfold gd;dsimp only;rw[e1];refine⟨j,rfl,by lia,λrs p G pm ps=>?_⟩;refine k p _ rs (s1.laid G) (s1.free G) ag (EW pm ps B.nd) λx=>?_;rw[pm.mem_iff];exact B.done C x
 . rw[Os (by simpa using U)];exists⟨OP _,λp C=>k p _ [] ((NP H).laid C) C ag .nil λx=>⟨(λq=>nomatch q),λr=>absurd (RC.st r) U⟩⟩
variable{h w:Int}{ms:∅}
theorem joinB_iff:joinB h w ms=true↔(ms=[]\/(ms.Pairwise (· < ·)/\∀ x∈ms,RC h w ms (ms.headD 0) x)):=by
 unfold joinB;exact @Qa _ (Classical.propDecidable _)
def jZ(K:Frag)(c:RO):Sp:=λvs H Q E=>∃ k,jj K c k vs H Q E
def gi(K:Frag)(c:RO):TS:=#[":j~ydrb1tcdrb,~zbaMi0?a1adk1ef#0 c1"]
variable{c:RO}
theorem rq(h:jZ K c vs H Q E):gi K c (eD9 Q) (start ["self","cells"] vs) H:=by
 obtain⟨k,r,p,C,T,cs,ms,n,m,h,w,g,rfl,x,G,F,f,B,q⟩:=h;obtain⟨h0,L,O,U,D,P,M⟩:=id F;obtain⟨R,W,X,h1,h2,h3⟩:=x.ex;exists gi;refine⟨lnR rfl,λl I=>?_⟩;obtain⟨H1,z9,s1,el⟩:∃ z,upd H l (.lst [])=z/\Same H z/\z l=↥(([]:∅).map V.int):=aP _ I;rw[z9];refine vP (s1 _ _ f) el ?_;symm
 cases ms with
 | nil=>
  have e:joinB h w []=true:=joinB_iff.mpr (.inl rfl);have:=q _ s1;rw[e]at this;rw[NT rfl,Os rfl];exact this
 | cons z i=>
  rw[NQ (by simp),Og #[1]];refine fldE rfl x.ok (s1 _ _ h1) (v:=.ref p) (by rfl) ?_;exists ixL (s1 _ _ f) (v:=V.int z) (gc (j:=0) rfl) ?_;exists⟨p,C,h,w,g,z,z::i,rfl,s1 _ _ G,by lia,by lia,s1 _ _ f,B,λu S rs t N A a b=>?_⟩;refine vP A (t _ _ (s1 _ _ f)) ?_
  have e:decide (rs=z::i)=joinB h w (z::i):=by
   rw[Om,NU,joinB_iff];constructor
   . intro e;subst e;exact .inr ⟨a,λx J=>(b x).mp J⟩
   . rintro(e | ⟨d,o⟩)
     . cases e
     . exact vU a d λy=>⟨λs=>((b y).mp s).mem,λs=>(b y).mpr (o y s)⟩
  rw[e];exact q _ (s1.trans t)
def nO(K:Frag)(c:RO):Sp:=dc K c .Joined
def jA(K:Frag)(c:RO):TS:=#[":jyiE's'tbi0ayiE~Q~Rbi0a1cc"]
variable{xs cs:∅}{m:Int}
theorem Fj(a:cs.length<=63):(mkAt xs cs m).length<=63:=by
 unfold mkAt;exact NY (N1 _ _) a
theorem wu(h:nO K c vs H Q E):jA K c (eD9 Q) (start ["self","filling"] vs) H:=by
 obtain⟨r,p,f,a,cs,xs,n,m,h,w,g,rfl,x,d,F,i,b,k,q⟩:=h;obtain⟨t,W,C,h1,h2,h3⟩:=x.ex;exists jA;refine methE rfl x.ok h1 (by rfl) ?_;exists methE rfl x.ok h1 (by rfl) ?_;exists⟨r,p,f,a,cs,xs,n,m,rfl,x,i,b,λl u s1 s j=>?_⟩;exact⟨r,p,l,a,cs,_,n,m,h,w,g,rfl,x.same s1,s1 _ _ d,F,j,Fj b.1,λo e=>q _ (s1.trans e)⟩
def ii(K:Frag)(c:RO):Sp:=gS K c .Ring
def e9(K:Frag)(c:RO):TS:=#[":jdrbqAaw&--1 sb,~tbaMi0?a2ch#1 mdNbz121cef#2 "]
theorem HV(h w c:Int):(besL h w c).length<=4:=by
 unfold besL
 repeat rw[Oy]
 split <;> split <;> split <;> split <;> simp
theorem oR(h:ii K c vs H Q E):e9 K c (eD9 Q) (start ["self","cells","cell"] vs) H:=by
 obtain⟨r,p,C,M,cs,ms,n,m,h,w,g,z,rfl,x,s,F,j,G,q⟩:=h;obtain⟨h0,u,B,N,o,D,A⟩:=id F;obtain⟨J,W,P,h1,h2,h3⟩:=x.ex;exists e9;refine fldE rfl x.ok h1 (v:=.ref p) (by rfl) ?_;exists⟨p,h,w,g,z,rfl,s,by lia,by lia,λb L f t e2=>?_⟩;have bl:=HV h w z;refine⟨b,rfl,⟨_,NW e2⟩,?_⟩;refine aY (xs:=besL h w z) (λy=>decide (y∈ms)) (λy=>y) #[4] (NW e2) ?_ ?_ ?_
 . intro y d R k a k3;show tTest _ [none,⇑y,↑C] d R;symm;rw[uQ (a _ _ (f _ _ j))];exact⟨_,rfl,k3 _ (NP _)⟩
 . intro y d O k t a k3;exact k3 _ (NP _)
 . intro l d I a i;rw[Pa]at i;symm;rw[bh i,NM];symm;have:=q _ (f.trans a);unfold twoB at this
   have e:decide ((((besL h w z).filter λy=>decide (y∈ms)).length:Int)=2)=decide (((besL h w z).filter λy=>decide (y∈ms)).length=2):=by
    rw[Om,NU,NU];lia
   rw[e];exact this
def qV(K:Frag)(c:RO):Sp:=dc K c .Ring
def lr(K:Frag)(c:RO):TS:=#[":glyiE~Q~Rbi0a1ch#2 jLyiE's'tbi0a2cq*aw&--20 sb2h#1 DyiE{v{wbi3a2a1cc"]
theorem zA(h:qV K c vs H Q E):lr K c (eD9 Q) (start ["self","filling","cells"] vs) H:=by
 obtain⟨r,p,f,A,cs,xs,n,m,h,w,g,rfl,x,I,F,S,B,Z,q⟩:=h;obtain⟨X,W,C,h1,h2,h3⟩:=x.ex;exists lr;refine methE rfl x.ok h1 (by rfl) ?_;exists⟨r,p,f,A,cs,xs,n,m,rfl,x,S,B,λl H1 s1 U u=>?_⟩;have o:=Fj (xs:=xs) (m:=m) B.1;have s:∀ J,Same H J->Q (.bl (joinB h w (mkAt xs cs m)&&(mkAt xs cs m).all (twoB h w (mkAt xs cs m)))) J:=q;generalize mkAt xs cs m=ms at*;exists methE rfl x.ok (s1 _ _ h1) (by rfl) ?_;exists⟨r,p,l,A,cs,ms,n,m,h,w,g,rfl,x.same s1,s1 _ _ I,F,u,o,λH2 t=>?_⟩;have a:=s1.trans t;symm
 cases G:joinB h w ms with
 | false=>
  rw[G]at s
  first | exact iteF (s _ a) | exact s _ a
 | true=>
  rw[G]at s;refine iteT ?_;refine⟨⟨_,NW (t _ _ u)⟩,?_⟩;refine bE (xs:=ms.map V.int) (λ_=>true) (λi=>.bl (twoB h w ms (ms.getD i 0))) (by rw[NM];lia) (NW (t _ _ u)) ?_ ?_ ?_
  . intro i y v R d j k3;exact k3 _ (NP _)
  . intro i y v P d Y j k3;rw[NR]at d
    cases e:ms[i]? with
    | none=>rw[e]at d;cases d
    | some z=>
     rw[e]at d;cases d;have b:=a.trans j;have L:ms.getD i 0=z:=by rw[List.getD,e];rfl
     show aE _ _ _ _ _ _ [none,⇑z,↑l,↑r] v P;refine methE rfl x.ok (b _ _ h1) (by rfl) ?_;exists⟨r,p,l,A,cs,ms,n,m,h,w,g,z,rfl,x.same b,b _ _ I,F,j _ _ (t _ _ u),o,λM N=>?_⟩;have:=k3 M N;rw[L]at this;exact this
  . intro T v O j k;rw[aZ,NM]at k;refine jh (bs:=(List.range ms.length).map λi=>twoB h w ms (ms.getD i 0)) (by rw[k,Op];rfl) ?_
    have e:((List.range ms.length).map λi=>twoB h w ms (ms.getD i 0)).all id=ms.all (twoB h w ms):=by
     have D:(List.range ms.length).map (λi=>ms.getD i 0)=ms:=by
      refine QY (by simp) λi h1 h2=>?_;simp at h1;simp[List.getD,NN h1]
     have e2:(List.range ms.length).map (λi=>twoB h w ms (ms.getD i 0))=ms.map (twoB h w ms):=by
      rw[← D,Op,D];rfl
     rw[e2,Pl];rfl
    rw[e];exact s _ (a.trans j)
section
variable{K:Frag}{g:TG}{σ:St}{H:Hp}{ta:TA}{Q:VK}{ix:List (Option Nat)}{tt:TT}{te:TE}
def HW:tComp ix (iZip K ta) g tt te σ H Q=ta σ H λvs c=>∃ a b,vs=[.ref a,.ref b]/\(∃ xs,SqL K c a xs)/\(∃ ys,SqL K c b ys)/\CompR (Itz K a b) g tt te (λl d=>Q (.ref l) d) (subσ ix σ) c:=rfl
theorem Fk {a b:Addr} {xs ys:List V} {o:Addr->Hp->Prop} {g:St} {c:Hp} {k1 k2:Nat} (f:Nat->V) (J:xs.length<=900) (L:xs.length=ys.length) (q:k1≠k2) (h:SqL K c a xs) (d:SqL K c b ys)
  (he:∀(i:Nat) x y H Q,xs[i]? =some x->ys[i]? =some y->Same c H->(∀ j,Same H j->Q (f i) j)->te ((g.set k1 (some x)).set k2 (some y)) H Q)
  (I:∀ l H,c l=none->Same c H->H l=↥((List.range xs.length).map f)->o l H):
  CompR (Itz K a b) (gTup K 2 (gCons (gName k1) (gCons (gName k2) gNil))) tTrue te o g c:=by
 intro l u;have t:(upd c l (.lst [])) l=↥((List.range 0).map f):=by rw[ag];rfl
 refine⟨λi m σ H=>m=xs.length-i/\i<=xs.length/\(σ=g\/∃ r s,σ=(g.set k1 r).set k2 s)/\Same c H/\H l=↥((List.range i).map f),⟨xs.length,by simp,OP _,.inl rfl,(NP c).laid u,t⟩,?_⟩;rintro i m σ H ⟨rfl,N,G,s1,B⟩;by_cases k:i<xs.length
 . have p:i<ys.length:=by lia
   refine .inr ⟨⟨xs,ys,xs[i],ys[i],s1.seq h,s1.seq d,by simp[k],by simp[p]⟩,λw j=>(w=g\/∃ r s,w=(g.set k1 r).set k2 s)/\Same c j/\j l=↥((List.range (i+1)).map f),λw j D=>⟨xs.length - (i+1),by lia,rfl,k,D⟩,λv j y=>?_⟩;obtain⟨T,x,y,rfl,C,rfl,e1,e2⟩:=y;have F:=e1 xs (s1.seq h);have E:=e2 ys (s1.seq d);have A:Same H (upd H T (.tup [x,y])):=(NP H).laid C;refine⟨T,_,rfl,Ry ag,rfl,_,_,rfl,_,_,rfl,rfl,?_⟩
   have e:(σ.set k1 (some x)).set k2 (some y)=(g.set k1 (some x)).set k2 (some y):=by
    rcases G with rfl | ⟨r,s,rfl⟩
    . rfl
    . rw[QT _ _ (Q7 q),Pk,Pk,QT _ _ q]
   show tTrue ((σ.set k1 (some x)).set k2 (some y)) _ _;rw[e,bU,Os rfl];have n:=s1.trans A;refine he i x y _ _ F E n λM z=>⟨_,z _ _ (A _ _ B),by rw[NM,OU];exact aC #[4],.inr ⟨_,_,rfl⟩,(n.trans z).own u,?_⟩;rw[ag,OS,Pb];rfl
 . have e:i=xs.length:=by lia
   subst e;exact .inl ⟨⟨xs,ys,s1.seq h,s1.seq d,.inl (NZ _)⟩,I l H u s1 B⟩
end
variable{n:Nat}{b:Nat->Bool}
theorem Ck:(List.range n).map (λi=>V.bl (b i))=((List.range n).map b).map V.bl:=by rw[Op];rfl
theorem Fm:((List.range n).map b).all id=(List.range n).all b:=by rw[Pl];rfl
def cluB(cl xs:∅):Bool:=(List.range cl.length).all λi=>decide (cl.getD i 0=0)||decide (cl.getD i 0=xs.getD i 0)
noncomputable def rowsB (h w:Int) (NC:List RR) (xs:∅):Bool:=NC.all λr=>hoB r.k h w r.cs r.n r.m xs
noncomputable def metB (h w g:Int) (NC:List RR) (cl xs:∅):Bool:=filB 1 g (h*w).toNat xs&&(cluB cl xs&&rowsB h w NC xs)
def mO(K:Frag)(c:RO)(d:RP)(_:PzK):Sp:=#[3,∃(P L G f:Addr) (h w g:Int) (NC:List RR) (cl xs:∅),vs=[.ref P,.ref f]/\IsPz H c d P L G h w g NC cl/\H f=↥(xs.map V.int)/\xs.length=cl.length/\∀ a,Same H a->Q (.bl (cluB cl xs)) a]
def j2(K:Frag)(c:RO)(d:RP):Sp:=mO K c d .Puzzle
def gj(K:Frag)(c:RO)(d:RP):TS:=#[":jq*aw&--- {xbaMp0~:a1c~Ab#2 :h#1 :h#2 ~BD~ydrb1ef#0 drb12c"]
variable{d:RP}
theorem rz(h:j2 K c d vs H Q E):gj K c d (eD9 Q) (start ["self","filling"] vs) H:=by
 obtain⟨P,L,G,f,h,w,g,NC,cl,xs,rfl,x,o,t,q⟩:=h;obtain⟨J,p,rs,h1,h2,h3⟩:=x.ex;have A:cl.length<=16:=by have:=x.C.len;have:=x.R.F.m;lia
 exists gj;rw[HW,bG];refine fldE (k:=.Puzzle) rfl x.ok h1 (v:=.ref G) (by rfl) ?_;exists⟨G,f,rfl,⟨_,NW x.gv⟩,⟨_,NW o⟩,?_⟩;refine Fk (xs:=cl.map V.int) (ys:=xs.map V.int) (λi=>.bl (decide (cl.getD i 0=0)||decide (cl.getD i 0=xs.getD i 0))) (by rw[NM];lia) (by simp[t]) #[1] (NW x.gv) (NW o) ?_ ?_
 . intro i u v b s y D s1 k1;obtain⟨j,e,rfl⟩:=aK y;obtain⟨z,I,rfl⟩:=aK D;have a:=k1 _ (NP b);rw[dU e,dU I]at a;show tOrV _ _ [none,⇑j,⇑z] b s;symm
   cases n:decide (j=0) with
   | true=>
    rw[n,P1]at a;exact iteT a
   | false=>
    rw[n,O3]at a;exact iteF a
 . intro l b B s1 r;rw[Ck]at r;refine jh r ?_;rw[Fm,NM];exact q _ s1
variable{g:Int}
theorem GC{a:Int}(h:filB a g n xs=true):xs.length=n/\∀ x∈xs,a<=x/\x<=g:=by
 unfold filB at h;rw[OB,NU,Od]at h;refine⟨h.1,λx b=>?_⟩;have:=h.2 x b;rw[OB,NU,NU]at this;exact this
theorem RR.cin{r:RR}(O:r.Ok h w g)(F:FlOk h w g):aI r.cs (h*w).toNat:=by
 obtain⟨h0,h1,s,p,f,m,l⟩:=id F;have b:0<=h*w:=Pm #[4] #[4]
 cases d:allK r.k with
 | false=>
  obtain⟨t,q,j,o,e⟩:=O.cl.told d;rw[e];refine⟨by rw[NM];lia,λc a=>?_⟩;obtain⟨n,i,rfl⟩:=N9.mp a;have:=j n i;lia
 | true=>
  obtain⟨_,e⟩:=O.cl.all d;rw[e];refine⟨by rw[iy];lia,λc a=>?_⟩;have:=tU a;lia
def qE(K:Frag)(c:RO)(d:RP)(_:PzK):Sp:=#[3,∃(P L G f:Addr) (h w g:Int) (NC:List RR) (cl xs:∅),vs=[.ref P,.ref f]/\IsPz H c d P L G h w g NC cl/\H f=↥(xs.map V.int)/\xs.length<=100/\∀ a,Same H a->Q (.bl (metB h w g NC cl xs)) a]
def nQ(K:Frag)(c:RO)(d:RP):Sp:=qE K c d .Puzzle
def kS(K:Frag)(c:RO)(d:RP):TS:=#[":jq*aw&--1 sbMp0~/h#1 DyiE'u'vbi1a2cc"]
def jB(K:Frag)(c:RO)(d:RP):TS:=#[":gnJKx,'mbaMp0?a1aef#1 cKxypR{y{zbip0a1cjeGzo{Abip"]
variable{p f:Addr}
theorem DE {L:Addr} {rs:List Addr} {NC:List RR} {b:Addr->Hp->Prop} (X:IsRules H c p L rs NC) (R:ie c h w g NC) (y:IsFl H p h w g) (E:H f=↥(xs.map V.int)) (v:xs.length=(h*w).toNat) (t:∀ x∈xs,0<=x/\x<=1000)
  (D:∀ l q,H l=none->Same H q->q l=↥((NC.map λr=>hoB r.k h w r.cs r.n r.m xs).map V.bl)->b l q):CompR (Itl K L) (gName 1) tTrue (aE c c.ok "holds" (dc K c) (tVar 1) (tCons (tVar 2) tNil)) b [none,none,↑f] H:=by
 have G:=R.n;have z:=X.len;refine bE (xs:=rs.map V.ref) (λ_=>true) (λi=>.bl ((NC.map λr=>hoB r.k h w r.cs r.n r.m xs).getD i true)) (by rw[NM];lia) (NW X.top) ?_ ?_ ?_
 . intro i x d R t s1 k1;exact k1 _ (NP _)
 . intro i x d A a J s1 k1;rw[NR]at a
   cases e:rs[i]? with
   | none=>rw[e]at a;cases a
   | some r=>
    rw[e]at a;cases a;have a:=(NO.mp e).1;have j:NC[i]? =some NC[i]:=NN #[4];have o:=X.at_ i r _ e j;obtain⟨I,W,C,h1,h2,h3⟩:=o.ex;have u:(NC.map λr=>hoB r.k h w r.cs r.n r.m xs).getD i true=hoB NC[i].k h w NC[i].cs NC[i].n NC[i].m xs:=by rw[List.getD,NR,j];rfl
    rw[u]at k1;have O:=R.ok _ (NS j);show aE c c.ok "holds" _ _ _ [none,↑r,↑f] d A;refine methE (k:=NC[i].k) rfl o.ok (s1 _ _ h1) (by rfl) ?_;exists⟨r,p,f,_,_,xs,_,_,h,w,g,rfl,o.same s1,s1 _ _ y,R.F,s1 _ _ E,by rw[v];exact RR.cin O R.F,t,k1⟩
 . intro l d s s1 B;refine D l d s s1 ?_;rw[B,aZ,NM,z]
   congr 2
   refine O6 λi=>?_;rw[NR,NR,NR];by_cases h:i<NC.length
   . rw[OQ h,NN h];simp[List.getD,h]
   . rw[Oi (by simpa using h),Oi #[4]];rfl
theorem wv(h:nQ K c d vs H Q E):jB K c d (eD9 Q) (start ["self","filling"] vs) H:=by
 obtain⟨P,L,G,f,h,w,g,NC,cl,xs,rfl,x,e,s,q⟩:=h;obtain⟨M,p,rs,h1,h2,h3⟩:=x.ex;have N:=x.R.F.g1;ac_nf;unfold jB;rw[aB,az];exists fldE (k:=.Puzzle) rfl x.ok h1 (v:=.ref p) (by rfl) ?_;exists⟨p,f,h,w,g,1,xs,rfl,h2,x.R.F,e,s,λO s1=>?_⟩;unfold metB at q
 cases b:filB 1 g (h*w).toNat xs with
 | false=>
  rw[b,Oc]at q;refine⟨false,rfl,iteT ?_⟩;exists q _ s1
 | true=>
  rw[b,Ob]at q;obtain⟨i,t⟩:=GC b;refine⟨true,rfl,iteF ?_⟩;exists methE (k:=.Puzzle) rfl x.ok (s1 _ _ h1) (by rfl) ?_;exists⟨P,L,G,f,h,w,g,NC,cl,xs,rfl,x.same s1,s1 _ _ e,by rw[i,x.C.len],λI z=>?_⟩;have a:=s1.trans z
  cases j:cluB cl xs with
  | false=>
   rw[j,Oc]at q;refine⟨false,rfl,iteT ?_⟩;exists q _ a
  | true=>
   rw[j,Ob]at q;refine⟨true,rfl,iteF ?_⟩;unfold kS;exists fldE (k:=.Puzzle) rfl x.ok (a _ _ h1) (v:=.ref L) (by rfl) ?_;refine⟨L,rfl,⟨_,NW (a _ _ h3.top)⟩,?_⟩;refine DE (h3.same a) x.R (a _ _ h2) (a _ _ e) i (λy A=>by have:=t y A;lia) λl J D o B=>?_;refine jh B ?_;have u:(NC.map λr=>hoB r.k h w r.cs r.n r.m xs).all id=rowsB h w NC xs:=by unfold rowsB;rw[Pl];rfl
   rw[u];exact q _ (a.trans o)
variable{α:Type}
theorem GD(F:Int->α)(a:∅):(List.range a.length).map (λi=>F (a.getD i 0))=a.map F:=by
 refine O6 λi=>?_;rw[NR,NR];by_cases h:i<a.length
 . rw[OQ h,NN h];simp[List.getD,h]
 . rw[Oi (by simpa using h),Oi #[4]];rfl
variable{i:Nat}
theorem yS{α:Type}{l:List α}{x:α}(h:l[i]? =some x):l.take (i+1)=l.take i++[x]:=by
 rw[Pn,h];rfl
variable{l:Addr}{as:List Addr}{NH:List ∅}
theorem IsLL.app{bs:List Addr}{b:List ∅}(x:IsLL H l as NH)(g:l∉as)(nb:l∉bs)(e:bs.length=b.length)(d:∀(j:Nat) (a:Addr) (ys:∅),bs[j]? =some a->b[j]? =some ys->H a=↥(ys.map V.int)):
  IsLL (upd H l (.lst (as.map V.ref++bs.map V.ref))) l (as++bs) (NH++b):=by
 have f:=x.len;refine⟨by rw[ag,Pb],by rw[Oy,Oy,x.len,e],λj a ys h1 h2=>?_⟩;by_cases h:j<as.length
 . rw[Ow h]at h1;rw[Ow #[4]]at h2;have c:a≠l:=λz=>g (z ▸ NS h1);rw[ah c];exact x.at_ j a ys h1 h2
 . rw[Ot #[4]]at h1;rw[Ot #[4]]at h2;have c:a≠l:=λz=>nb (z ▸ NS h1);rw[ah c];exact d _ a ys h1 (by rw[f];exact h2)
theorem IsLL.get{a:Addr}(x:IsLL H l as NH)(h:as[i]? =some a):∃ xs,NH[i]? =some xs/\H a=↥(xs.map V.int):=by
 have b:=(NO.mp h).1;have e:NH[i]? =some (NH[i]'(by have:=x.len;lia)):=NN _;exact⟨_,e,x.at_ i a _ h e⟩
def Fn(h:n<=1100):n<sizeLine:=Pd h #[1]
theorem Fo{q:Addr}{xs ys:List V}(c:H p=↥xs)(b:H q=↥ys)(a:xs.length+ys.length<=1100)(h:Q .non (upd H p (.lst (xs++ys)))):ma (.ref p) [.ref q] H Q:=by
 show bnd (unM (H p)) _;rw[c];show bnd (unM (H q)) _;rw[b];exact⟨OH (Fn a),h⟩
theorem Jz(f:α->V)(xs:List α)(k:Nat):cutV (xs.map f) none (some (k:Int))=(xs.take k).map f:=by
 unfold cutV;rw[HT.sIx_nat,HT.sIx_none,NM,List.drop_zero,Nat.sub_zero,PH];by_cases h:k<=xs.length
 . rw[Qq h]
 . rw[PZ #[4],OK (by rw[NM];exact NZ _),OK (by rw[NM];lia)]
theorem CZ(m:Int):(sgL m).length<=Builtin.Int.intBits m:=by
 unfold sgL;rw[NM];refine NY (N1 _ _) ?_;rw[OU];exact NZ _
def prodW(ms:∅):Nat:=ms.foldl (λp m=>p*(sgL m).length) 1
theorem ww{x:Int}(f:α->Int->α)(a:α)(h:xs[i]? =some x):(xs.take (i+1)).foldl f a=f ((xs.take i).foldl f a) x:=by
 rw[Pn,h,Pp];rfl
def ya(K:Frag):Sp:=#[3,∃ p ms,vs=[.ref p]/\H p=↥(ms.map V.int)/\(∀ m∈ms,Builtin.Int.intBits m<=900)/\∀ a,Same H a->Q (.int ((prodW ms:Nat):Int)) a]
def yb(K:Frag):TS:=#[":glef#1 h#1 gIsb0h#2 ldY1qAa,/ba2cch#1 j1"]
theorem HX(h:ya K vs H Q E):yb K (eD9 Q) (start ["masks","product","mask"] vs) H:=by
 obtain⟨p,ms,rfl,d,j,k⟩:=h;exists yb;refine⟨⟨_,NW d⟩,bc (K:=K) (xs:=ms.map V.int) (λi σ e=>∃ a:Option V,σ=[↑p,⇑((prodW (ms.take i):Nat):Int),a]/\Same H e) ⟨none,rfl,NP H⟩ (λi σ e _ ⟨_,_,s⟩=>NW (s _ _ d)) ?_ ?_⟩
 . rintro i x σ n f ⟨a,rfl,s1⟩;obtain⟨m,c,rfl⟩:=aK f;have b:=j m (NS c);exists⟨m,rfl,b,λl q g r o=>?_⟩;symm;rw[bh o];symm;have h1:=CZ m;rw[NM];refine⟨.inr ⟨by lia,by lia⟩,⇑m,?_,s1.trans g⟩;unfold prodW;rw[ww _ _ c,Int.natCast_mul]
 . rintro σ n ⟨a,rfl,s1⟩;symm;rw[OK (by rw[NM];exact NZ _)] at*;exact k _ s1
def setL(xs:∅)(z s:Int):∅:=(List.range xs.length).map λ(i:Nat)=>if (i:Int)=z then s else xs.getD i 0
variable{z s:Int}
theorem AZ:(setL xs z s).length=xs.length:=by unfold setL;simp
def C0(s0:0<=s)(c:s<=6)(b:∀ x∈xs,0<=x/\x<=6):∀ x∈setL xs z s,0<=x/\x<=6:=λx h=>by
 unfold setL at h;obtain⟨i,d,rfl⟩:=N9.mp h;have a:=Oe.mp d;have e:=b _ (On a);have f:xs.getD i 0=xs[i]:=by rw[List.getD,NN a];rfl
 rw[f]
 split
 . exact⟨s0,c⟩
 . exact e
def jC(K:Frag):Sp:=#[3,∃ F xs z s,vs=[.ref F,.int z,.int s]/\H F=↥(xs.map V.int)/\xs.length<=100/\∀ l a,Same H a->H l=none->a l=↥((setL xs z s).map V.int)->Q (.ref l) a]
def mP(K:Frag):TS:=#[":jw&---12 ~]ba0c~Ab#2 :h#1 :h#2 ~BD~mmdrb1342"]
theorem A0(h:jC K vs H Q E):mP K (eD9 Q) (start ["filling","cell","sign"] vs) H:=by
 obtain⟨F,xs,z,s,rfl,e,k,q⟩:=h;exists mP;refine⟨F,rfl,⟨_,NW e⟩,?_⟩;refine qk (xs:=xs.map V.int) (λ_=>true) (λi=>.int (if (i:Int)=z then s else xs.getD i 0)) (by rw[NM];lia) #[1] (NW e) ?_ ?_ ?_
 . intro i x b R d s1 k1;exact k1 _ (NP _)
 . intro i x b g d m s1 k1;obtain⟨y,j,rfl⟩:=aK d;have a:=k1 _ (NP b);rw[dU j]at a;show tIf _ _ _ [none,⇑(i:Int),⇑y,⇑z,⇑s] b g;unfold tIf;symm;by_cases h0:(i:Int)=z
   . rw[NT h0];rw[Os h0]at a;exact iteT a
   . rw[NQ h0];rw[Og h0]at a;exact iteF a
 . intro l b c s1 f;rw[aZ,NM]at f;refine q l b s1 c ?_;rw[f];unfold setL;rw[Op];rfl
def extS(a:List ∅)(z:Int)(b:∅):List ∅:=a.flatMap λf=>b.map λs=>setL f z s
theorem vb(z:Int)(b:∅):∀ a:List ∅,(extS a z b).length=a.length*b.length
 | []=>by simp[extS]
 | f::r=>by
  have c:=vb z b r;unfold extS at c ⊢;rw[List.flatMap_cons,Oy,c,NM,OA,RM,Nat.add_comm]
theorem GE(b c:List ∅)(z:Int)(a:∅):extS (b++c) z a=extS b z a++extS c z a:=by
 unfold extS;rw[Qv]
theorem GF(f:∅)(z:Int)(a:∅):extS [f] z a=a.map λs=>setL f z s:=by
 unfold extS;simp
theorem mem_extS{f:∅}{d:List ∅}{e:∅}:f∈extS d z e↔∃ a∈d,∃ s∈e,f=setL a z s:=by
 unfold extS;rw[List.mem_flatMap];constructor
 . rintro⟨a,c,h⟩;obtain⟨s,b,rfl⟩:=N9.mp h;exact⟨a,c,s,b,rfl⟩
 . rintro⟨a,c,s,b,rfl⟩;exact⟨a,c,N9.mpr ⟨s,b,rfl⟩⟩
theorem Fp{g d f:Hp}{m:Addr}{bs:List Addr}{c:List ∅}(x:IsLL d l as NH)(k:l∉as)(s0:Same g d)(n:∀ b∈as,g b=none)(s1:Same d f)(e:NewAt d f m bs (c.map λys=>.lst (ys.map V.int))):
  IsLL (upd f l (.lst (as.map V.ref++bs.map V.ref))) l (as++bs) (NH++c)/\l∉as++bs/\(∀ b∈as++bs,g b=none):=by
 have i:l∉bs:=λh=>by have:=e.fr l h;rw[x.top]at this;cases this
 refine⟨?_,?_,?_⟩
 . refine(x.same s1).app k i (by rw[e.len,NM]) λj a ys h1 h2=>?_;exact e.at_ j a _ h1 (by rw[NR,h2];rfl)
 . intro h;rcases Of.mp h with h | h
   . exact k h
   . exact i h
 . intro b h;rcases Of.mp h with h | h
   . exact n b h
   . exact s0.free (e.fr b h)
def hJ(K:Frag):Sp:=#[3,∃ F S as a z b,vs=[.ref F,.int z,.ref S]/\IsLL H F as a/\H S=↥(b.map V.int)/\a.length*b.length<=1100/\b.length<=100/\(∀ f∈a,f.length<=16)/\
 ∀(l:Addr) (d:List Addr) (c:Hp),Same H c->H l=none->IsLL c l d (extS a z b)->Q (.ref l) c]
def hV(K:Frag):TS:=#[":gltch#3 gIsb0h#4 PHbF'w3aw&--14 sb2h#1 D,'xba3a2a1ccj3"]
theorem t8(h:hJ K vs H Q E):hV K (eD9 Q) (start ["fillings","cell","signs","found","filling"] vs) H:=by
 obtain⟨F,S,as,c,z,r,rfl,x,J,hn,hs,hf,q⟩:=h;exists hV;refine⟨lnR rfl,λl o=>?_⟩;obtain⟨H1,T,s1,C⟩:=aP (.lst []) o;rw[T];refine⟨⟨_,NW (s1 _ _ x.top)⟩,?_⟩
 refine bc (K:=K) (xs:=as.map V.ref) (λi σ p=>∃(v:Option V) (d:List Addr),σ=[↑F,⇑z,↑S,↑l,v]/\Same H p/\IsLL p l d (extS (c.take i) z r)/\l∉d/\∀ b∈d,H b=none)
  ⟨none,[],rfl,s1,⟨C,rfl,λj a xs h1=>by simp at h1⟩,by simp,λb u=>nomatch u⟩ (λi σ p _ ⟨_,_,_,s,_⟩=>s.seq (NW x.top)) ?_ ?_
 . rintro i y σ D W ⟨v,d,rfl,k,g,L,O⟩;obtain⟨f,B,rfl⟩:=bz W;obtain⟨xs,w,X⟩:=x.get B;have P:=hf xs (NS w);exists⟨a7 g.top,⟨_,NW (k _ _ J)⟩,?_⟩;refine qm (xs:=r.map V.int) (λ_=>true) (λi=>.lst ((setL xs z (r.getD i 0)).map V.int)) (by rw[NM];lia) (NW (k _ _ J)) ?_ ?_ ?_
   . intro i x H R hx s1 k1;exact k1 _ (NP _)
   . intro i x G Q3 N u n k3;obtain⟨t,ht,rfl⟩:=aK N;rw[dU ht]at k3;show tCall _ _ _ _ [none,⇑t,⇑z,↑f] G Q3;exists⟨f,xs,z,t,rfl,(k.trans n) _ _ X,by lia,λl p s' o C=>k3 l p s' o C⟩
   . intro m cs G hm n U A;rw[aZ,NM,GD (λs=>HO.lst ((setL xs z s).map V.int))]at A
     have I:NewAt D G m cs ((extS [xs] z r).map λys=>.lst (ys.map V.int)):=by
      rw[GF,Op];exact A
     have u:d.length+cs.length<=1100:=by
      have M:=g.len;rw[vb,OL]at M;have Y:=A.len;rw[NM]at Y;have N:=(NO.mp w).1;have e1:min i c.length=i:=by lia
      rw[e1]at M;have:=Qm r.length (show i+1<=c.length by lia);rw[RM]at this;lia
     refine Fo (n _ _ g.top) U (by rw[NM,NM];exact u) ?_;obtain⟨Z,z2,z3⟩:=Fp g L k O n I;refine⟨_,d++cs,rfl,(k.trans n).own o,?_,z2,z3⟩;rw[yS w,GE];exact Z
 . rintro σ D ⟨v,d,rfl,k,g,L,O⟩;symm;have e:c.take (as.map V.ref).length=c:=OK (by rw[NM,x.len];exact NZ _);rw[e]at g;exact q l d D k o g
def wfold(NA:∅)(a:∅)(b:List ∅):List ∅:=a.foldl (λb o=>extS b o (sgL (NA.getD o.toNat 0))) b
def wfill(NA a:∅)(z s:Int):List ∅:=wfold NA a [setL (List.replicate NA.length 0) z s]
noncomputable def waysB (k:RK) (h w:Int) (cs:∅) (n m:Int) (NA:∅) (z s:Int) (ms:∅):Bool:=
 decide (ms=[])&&(decide (prodW (sgAt NA (othL cs z))<=32)&&(decide (0∈sgAt NA (othL cs z))||!((wfill NA (othL cs z) z s).any λf=>hoB k h w cs n m f)))
theorem yT(NA:∅):∀(a:∅) (b:List ∅),(wfold NA a b).length=(sgAt NA a).foldl (λp m=>p*(sgL m).length) b.length
 | [],_=>rfl
 | o::r,b=>by
  unfold wfold sgAt;rw[O9,OD,O9];have:=yT NA r (extS b o (sgL (NA.getD o.toNat 0)));unfold wfold sgAt at this;rw[this,vb]
theorem A1:∀(ms:∅) (n:Nat),(∀ m∈ms,1<=(sgL m).length)->n<=ms.foldl (λp m=>p*(sgL m).length) n
 | [],_,_=>NZ _
 | m::r,n,h=>by
  rw[O9];exact NY (Nat.le_mul_of_pos_right n (h m Oa)) (A1 r _ λx a=>h x (N5 _ a))
theorem DF(i:Nat)(h:∀ m∈ms,1<=(sgL m).length):prodW (ms.take i)<=prodW ms:=by
 have e:prodW ms=(ms.drop i).foldl (λp m=>p*(sgL m).length) (prodW (ms.take i)):=by
  unfold prodW;rw[← Pp,Rv]
 rw[e];exact A1 _ _ λx a=>h x (List.mem_of_mem_drop a)
theorem qF{n:Nat}{NA:∅}(l:∀ m∈NA,0<=m/\m<64):∀(d:∅) (i:List ∅),(∀ f∈i,f.length=n/\∀ x∈f,0<=x/\x<=6)->∀ f∈wfold NA d i,f.length=n/\∀ x∈f,0<=x/\x<=6
 | [],_,h,f,hf=>h f hf
 | o::r,i,h,f,hf=>by
  refine qF l r (extS i o (sgL (NA.getD o.toNat 0))) (λg t=>?_) f hf;obtain⟨a,q,s,b,rfl⟩:=mem_extS.mp t;have h1:=h a q
  have k:1<=s/\s<=6:=by
   by_cases c:o.toNat<NA.length
   . have e:NA.getD o.toNat 0=NA[o.toNat]:=by rw[List.getD,NN c];rfl
     rw[e]at b;have p:=l _ (On c);rw[(gE p.1 p.2).2]at b;obtain⟨j,u,rfl⟩:=N9.mp b;have:=(Ol.mp u).1;simp at this;lia
   . have e:NA.getD o.toNat 0=0:=by rw[List.getD,Oi #[4]];rfl
     rw[e,Jx]at b;cases b
  exact⟨by rw[AZ];exact h1.1,C0 #[4] k.2 h1.2⟩
def jD(K:Frag)(c:RO):Sp:=#[3,∃ k r p A M b cs NA ms n m z s h w g,vs=[.ref r,.ref A,.int z,.int s,.ref M]/\IsRule H c k r p b cs n m/\IsFl H p h w g/\FlOk h w g/\aI cs NA.length/\NA.length<=16/\(∀ m∈NA,0<=m/\m<64)/\1<=s/\s<=6/\H A=↥(NA.map V.int)/\H M=↥(ms.map V.int)/\∀ a,Same H a->Q (.bl (waysB k h w cs n m NA z s ms)) a]
def gH(K:Frag)(c:RO):TS:=#[":gIsb7h#9 nxyiE'u'vbi0a9cjeGzojeGQ"]
def gI(K:Frag)(c:RO):TS:=#[":glta,'xbad~Ttaef#0 cqAa1ca2a3cch#7 gIsb5h#8 l,{Bba7a8a,/badk18cch#7 {Cbi"]
def jE(K:Frag)(c:RO):TS:=#[":gl,-bia0a2ch#5 gl,~kba1a5ch#6 gnJmdBb4tcmd>,{Dba6cef#32 jeGzognx,~Pba6cjeGQo{Ebi"]
structure Wys(H:Hp)(c:RO)(k:RK)(r p A:Addr)(ws:List (List Nat))(cs NA:∅)(n m h w g:Int):Prop where
 R:IsRule H c k r p ws cs n m
 fl:IsFl H p h w g
 F:FlOk h w g
 ci:aI cs NA.length
 ml:NA.length<=16
 mo:∀ m∈NA,0<=m/\m<64
 hA:H A=↥(NA.map V.int)
variable{A:Addr}{NA:∅}
def Wys.same{b:Hp}{k:RK}{r:Addr}{a:List (List Nat)}{n:Int}(x:Wys H c k r p A a cs NA n m h w g)(s:Same H b):Wys b c k r p A a cs NA n m h w g:=⟨x.R.same s,s _ _ x.fl,x.F,x.ci,x.ml,x.mo,s _ _ x.hA⟩
theorem DG {k:RK} {r F:Addr} {S:List (List Nat)} {n:Int} {I O D M P E:Option V} {bs:List Addr} {a:List ∅} (X:Wys H c k r p A S cs NA n m h w g) (x:IsLL H F bs a) (U:∀ f∈a,f.length=NA.length/\∀ x∈f,0<=x/\x<=6)
  (q:∀ l,Same H l->Q (.bl (!(a.any λf=>hoB k h w cs n m f))) l):
  gH K c (eD9 Q) [↑r,↑A,I,O,D,M,P,↑F,E,none] H:=by
 obtain⟨dx,W,C,h1,h2,h3⟩:=X.R.ex;have u:=x.len;unfold gH;exists⟨⟨_,NW x.top⟩,?_⟩;refine bc (K:=K) (xs:=bs.map V.ref) (λi σ l=>∃ t:Option V,σ=[↑r,↑A,I,O,D,M,P,↑F,E,t]/\Same H l/\((a.take i).any λf=>hoB k h w cs n m f)=false) ⟨none,rfl,NP _,rfl⟩ (λi σ l _ ⟨_,_,s,_⟩=>s.seq (NW x.top)) ?_ ?_
 . rintro i y σ Y v ⟨t,rfl,s1,d⟩;obtain⟨b,T,rfl⟩:=bz v;obtain⟨f,G,Z⟩:=x.get T;have j:=NS G;obtain⟨z,B⟩:=U f j;have o:=X.same s1;symm;rw[az];exists methE (k:=k) rfl X.R.ok (s1 _ _ h1) (by rfl) ?_;exists⟨r,p,b,S,cs,f,n,m,h,w,g,rfl,o.R,o.fl,o.F,s1 _ _ Z,by rw[z];exact o.ci,λy v=>by have:=B y v;lia,λH2 J=>?_⟩;refine⟨_,rfl,?_⟩
   cases L:hoB k h w cs n m f with
   | true=>
    refine iteT ?_;have e:(a.any λf=>hoB k h w cs n m f)=true:=PY.mpr ⟨f,j,L⟩;have N:=q _ (s1.trans J);rw[e]at N;exact N
   | false=>
    refine iteF ⟨_,rfl,s1.trans J,?_⟩;rw[yS G,List.any_append,d,O3]
    simpa using L
 . rintro σ Y ⟨t,rfl,s1,d⟩;rw[OK (by rw[NM,u];exact NZ _)]at d;symm;rw[d]at q;exact q _ s1
theorem DH {k:RK} {r R:Addr} {ws:List (List Nat)} {n:Int} {v4 v6:Option V} (X:Wys H c k r p A ws cs NA n m h w g) (hR:H R=↥((othL cs z).map V.int)) (s0:1<=s) (s6:s<=6) (hw:prodW (sgAt NA (othL cs z))<=32) (h0:0∉sgAt NA (othL cs z))
  (q:∀ u,Same H u->Q (.bl (!((wfill NA (othL cs z) z s).any λf=>hoB k h w cs n m f))) u):
  gI K c (eD9 Q) [↑r,↑A,⇑z,⇑s,v4,↑R,v6,none,none,none] H:=by
 have ad:=X.ml;unfold gI;exists⟨lnR rfl,λZ hZ=>?_⟩;obtain⟨J,z9,s1,eZ⟩:=aP (.lst [V.int 0]) hZ;rw[z9];rw[bh (s1 _ _ X.hA),NM];refine vT eZ #[4] #[4] (by show(1:Nat)<=1;decide) λN hN=>?_;have s2:Same J (upd J N (.lst (List.replicate ((NA.length:Nat):Int).toNat [V.int 0]).flatten)):=(NP J).laid hN
 have eN:(upd J N (.lst (List.replicate ((NA.length:Nat):Int).toNat [V.int 0]).flatten)) N=↥((List.replicate NA.length (0:Int)).map V.int):=by
  rw[ag,QH];simp
 generalize upd J N (.lst (List.replicate ((NA.length:Nat):Int).toNat [V.int 0]).flatten)=H2 at*;have aa:=s1.trans s2;refine⟨N,_,z,s,rfl,eN,by simp;lia,λb E s3 B eb=>?_⟩;have P:=aa.trans s3;exists⟨lnR rfl,λF hF=>?_⟩;have s4:Same E (upd E F (.lst [V.ref b])):=(NP E).laid hF
 have xF:IsLL (upd E F (.lst [V.ref b])) F [b] [setL (List.replicate NA.length 0) z s]:=by
  refine⟨ag,rfl,λj a xs e1 e2=>?_⟩;have hj:j=0:=by have:=(NO.mp e1).1;simp at this;lia
  subst hj;cases e1;cases e2;exact s4 _ _ eb
 generalize upd E F (.lst [V.ref b])=H4 at*;have I:=P.trans s4
 have t:∀ f∈([setL (List.replicate NA.length 0) z s]:List ∅),f.length=NA.length/\∀ x∈f,0<=x/\x<=6:=λf hf=>by
  rw[NX.mp hf];exact⟨by rw[AZ];simp,C0 #[4] s6 λx hx=>by rw[(QI.mp hx).2];lia⟩
 have U:∀ mm∈sgAt NA (othL cs z),1<=(sgL mm).length:=λmm Y=>by
  have G:mm≠0:=λe=>h0 (e ▸ Y);unfold sgAt at Y;obtain⟨o,M,rfl⟩:=N9.mp Y;have v:o∈cs:=(Ol.mp M).1;have hi:=X.ci.2 o v;have d:o.toNat<NA.length:=by lia
  have e:NA.getD o.toNat 0=NA[o.toNat]:=by rw[List.getD,NN d];rfl
  rw[e]at G ⊢;have B:=X.mo _ (On d);exact(G8 B.1 B.2 G).1.1
 refine⟨⟨_,NW (I _ _ hR)⟩,?_⟩;refine bc (K:=K) (xs:=(othL cs z).map V.int) (λi σ u=>∃(F:Addr) (O:List Addr) (W:Option V),σ=[↑r,↑A,⇑z,⇑s,v4,↑R,v6,↑F,W,none]/\Same H u/\IsLL u F O (wfold NA ((othL cs z).take i) [setL (List.replicate NA.length 0) z s])) ⟨F,[b],none,rfl,I,xF⟩ (λi σ u _ ⟨_,_,_,_,s,_⟩=>s.seq (NW hR)) ?_ ?_
 . rintro i y σ H5 hy ⟨F,O,W,rfl,D,L⟩;obtain⟨o,M,rfl⟩:=aK hy;have ac:=NS M;have v:o∈cs:=(Ol.mp ac).1;have hi:=X.ci.2 o v;have d:o.toNat<NA.length:=by lia
   have e:NA.getD o.toNat 0=NA[o.toNat]:=by rw[List.getD,NN d];rfl
   have B:=X.mo _ (On d);have sb:=gE B.1 B.2;exists ixI (D _ _ X.hA) #[4] #[4] ?_;symm;rw[e];refine⟨_,rfl,by lia,λS H6 C hS eS=>?_⟩;symm;have T:(sgL NA[o.toNat]).length<=6:=NY (CZ _) sb.1;refine⟨F,S,O,_,o,_,rfl,L.same C,eS,?_,by lia,λf hf=>by have:=(qF X.mo _ _ t f hf).1;lia,λl ab H7 s7 hl x7=>?_⟩
   . rw[yT];have h1:=DF i U
     have e2:(sgAt NA ((othL cs z).take i)).foldl (λp m=>p*(sgL m).length) ([setL (List.replicate NA.length 0) z s]:List ∅).length=prodW ((sgAt NA (othL cs z)).take i):=by
      unfold prodW sgAt;rw[PH];rfl
     rw[e2];have h3:prodW ((sgAt NA (othL cs z)).take i)*(sgL NA[o.toNat]).length<=32*6:=RA #[4] T;lia
   . refine⟨l,ab,_,rfl,(D.trans C).trans s7,?_⟩
     have e3:wfold NA ((othL cs z).take (i+1)) [setL (List.replicate NA.length 0) z s]=extS (wfold NA ((othL cs z).take i) [setL (List.replicate NA.length 0) z s]) o (sgL NA[o.toNat]):=by
      unfold wfold;rw[ww _ _ M,e]
     rw[e3];exact x7
 . rintro σ H5 ⟨F,O,W,rfl,D,L⟩;rw[OK (by rw[NM];exact NZ _)]at L;exact DG (X.same D) L (qF X.mo _ _ t) λu s'=>q u (D.trans s')
theorem wx(h:jD K c vs H Q E):jE K c (eD9 Q) (start ["rule","masks","cell","sign","more","rest","some","fillings","other","filling"] vs) H:=by
 obtain⟨k,r,p,A,M,J,cs,NA,ms,n,m,z,s,h,w,g,rfl,B,U,F,d,P,mk,s0,T,G,L,q⟩:=h;have X:Wys H c k r p A J cs NA n m h w g:=⟨B,U,F,d,P,mk,G⟩;have v:cs.length<=63:=by have:=d.1;lia
 exists jE;refine⟨k,r,p,J,cs,n,m,z,rfl,B,v,λR Z s1 Y O=>?_⟩;have i:Z R=↥((othL cs z).map V.int):=O;exists⟨A,R,NA,othL cs z,rfl,s1 _ _ G,i,⟨NY (N1 _ _) d.1,λx j=>d.2 x (Ol.mp j).1⟩,λS I C hS y=>?_⟩;have u:=s1.trans C;dsimp only;rw[az];exists⟨lnR rfl,λe he=>?_⟩;obtain⟨H3,z9,s3,ee⟩:∃ z,upd I e (.lst [])=z/\Same I z/\z e=↥(([]:∅).map V.int):=aP _ he;rw[z9];have b:=u.trans s3;refine tR (b _ _ L) ee ?_;refine⟨_,rfl,?_⟩;unfold waysB at q;by_cases l:ms=[]
 . rw[NT l]at q ⊢;rw[Ob]at q;refine iteF ?_;exists⟨S,_,rfl,s3 _ _ y,λx j=>?_,λH4 t=>?_⟩
   . unfold sgAt at j;obtain⟨o,N,rfl⟩:=N9.mp j;have hi:=d.2 o (Ol.mp N).1;have f:o.toNat<NA.length:=by lia
     have e:NA.getD o.toNat 0=NA[o.toNat]:=by rw[List.getD,NN f];rfl
     rw[e];have D:=mk _ (On f);have:=(gE D.1 D.2).1;lia
   . have a:=b.trans t;symm;by_cases hw:prodW (sgAt NA (othL cs z))<=32
     . rw[NT hw,Ob]at q;rw[NQ #[4]];refine iteF ?_;rw[az];exists⟨S,_,rfl,(s3.trans t) _ _ y,?_⟩;refine⟨_,rfl,?_⟩;by_cases h0:0∈sgAt NA (othL cs z)
       . rw[NT h0]at q ⊢;rw[P1]at q;exact iteT (q _ a)
       . rw[NQ h0]at q ⊢;rw[O3]at q;refine iteF ?_;exact DH (X.same a) (((C.trans s3).trans t) _ _ i) s0 T hw h0 λW s'=>q W (a.trans s')
     . rw[NQ hw,Oc]at q;rw[NT #[4]];exact iteT (q _ a)
 . rw[NQ l,Oc]at q;rw[NQ l];exact iteT (q _ b)
def A3(g:Int)(t:TK)(x:RR)(NA:∅)(z s:Int)(ms:∅):Bool:=match t with
 | .only=>onlyB x.cs NA z s ms
 | .place=>AT g x.cs NA z s ms
 | _=>pairB x.cs NA z s ms
def A4(g:Int)(NC:List RR)(cl NA:∅)(t:TK)(r z s:Int)(ms:∅):Bool:=match t with
 | .clue=>clueB cl z s ms
 | _=>match NC[r.toNat]? with
  | none=>false
  | some x=>A3 g t x NA z s ms
noncomputable def rcB (h w:Int) (cs:∅) (st x:Int):Bool:=@decide (RC h w cs st x) (Classical.propDecidable _)
theorem A5{rs:∅}{st x:Int}(a:x∈rs↔RC h w cs st x):decide (x∈rs)=rcB h w cs st x:=by
 unfold rcB;rw[Om,NU];exact a.trans (@Qa _ (Classical.propDecidable _)).symm
def anoB(h w:Int)(NA:∅)(z m o:Int):Bool:=(decide (0<=o)&&decide (o<h*w))&&(!decide (o=z)&&decide (woI (NA.getD o.toNat 0) m=0))
def d8(K:Frag):Sp:=#[3,∃ f A h w g z o m NA,vs=[.ref f,.ref A,.int z,.int o,.int m]/\IsFl H f h w g/\FlOk h w g/\H A=↥(NA.map V.int)/\NA.length=(h*w).toNat/\m<=1000/\Q (.bl (anoB h w NA z m o)) H]
def d9(K:Frag):TS:=#[":jL,{Fba0a3cLdBb32,~pbadk13a4c"]
theorem nk(h:d8 K vs H Q E):d9 K (eD9 Q) (start ["floor","masks","cell","other","mark"] vs) H:=by
 obtain⟨f,A,h,w,g,z,o,m,NA,rfl,e,F,c,d,i,q⟩:=h;exists d9;refine⟨f,h,w,g,o,rfl,e,F,?_⟩;unfold anoB at q
 cases b:(decide (0<=o)&&decide (o<h*w)) with
 | false=>
  rw[b,Oc]at q;exact⟨false,rfl,iteF q⟩
 | true=>
  rw[b,Ob]at q;rw[OB,NU,NU]at b;refine⟨true,rfl,iteT ?_⟩;symm
  cases a:decide (o=z) with
  | true=>
   rw[a,PF,Oc]at q;symm;exact q
  | false=>
   rw[a,PV,Ob]at q;exists ixI c b.1 #[4] ?_;exists⟨_,m,rfl,by lia,q⟩
def thrL(cs NA:∅)(m z:Int):∅:=(cs.filter λx=>!decide (x=z)).filter λx=>stB (NA.getD x.toNat 0) m
noncomputable def reaB (h w:Int) (cs:∅) (m:Int) (NA:∅) (z s:Int) (ms:∅):Bool:=
 (ms.all λo=>anoB h w NA z m o)&&(if s=m then decide (ms.length=1)&&!rcB h w (thrL cs NA m z++[z]) z (ms.getD 0 0)
  else decide (ms.length=2)&&(!decide (ms.getD 0 0=ms.getD 1 0)&&!rcB h w (thrL cs NA m z) (ms.getD 0 0) (ms.getD 1 0)))
def iQ(K:Frag)(c:RO):Sp:=#[3,∃ k f r p A M b cs NA ms n m z s h w g,vs=[.ref f,.ref r,.ref A,.int z,.int s,.ref M]/\IsFl H f h w g/\FlOk h w g/\IsRule H c k r p b cs n m/\aI cs NA.length/\cs.length<=60/\NA.length=(h*w).toNat/\H A=↥(NA.map V.int)/\H M=↥(ms.map V.int)/\ms.length<=100/\m<=1000/\∀ a,Same H a->Q (.bl (reaB h w cs m NA z s ms)) a]
def gk(K:Frag)(c:RO):TS:=#[":gnmdrb46jLdrbqAa5cef#1 dNbQdk5ef#0 ,~zba0adC7ta3ca3cognJmdBbqAa5cef#2 mdrbdk5ef#0 dk5ef#1 jeGzojdNbQdk5ef#1 ,~zba0a7adk5ef#0 c"]
def gl(K:Frag)(c:RO):TS:=#[":g~i#7 &--62 sb,-bia1a3ch#1 x,~xbadk31a2c1{Gbi"]
def iR(K:Frag)(c:RO):TS:=#[":glyiE~q~rbi1ch#6 gnKxq*aw&--3062 sb5h#1 D,{Hba3a5a2a1a4ccjeGzo{Ibi"]
variable{M:Addr}{v1:V}
theorem rA {N:Addr} {T:∅} (v:IsFl H f h w g) (F:FlOk h w g) (a:H M=↥(ms.map V.int)) (t:H N=↥(T.map V.int)) (J:T.length<=60)
  (q:∀ u,Same H u->Q (.bl (if s=m then decide (ms.length=1)&&!rcB h w (T++[z]) z (ms.getD 0 0) else decide (ms.length=2)&&(!decide (ms.getD 0 0=ms.getD 1 0)&&!rcB h w T (ms.getD 0 0) (ms.getD 1 0)))) u):
  gk K c (eD9 Q) [↑f,some v1,↑A,⇑z,⇑s,↑M,⇑m,↑N] H:=by
 have L:=F.w0;have O:=F.w1;unfold gk;rw[aB,az];symm;by_cases j:s=m
 . rw[Os j]at q;rw[NT j];symm;rw[bh a,NM];symm
   have e1:decide ((ms.length:Int)=1)=decide (ms.length=1):=by
    rw[Om,NU,NU];lia
   rw[e1]
   cases b:decide (ms.length=1) with
   | false=>
    rw[b,Oc]at q;exists q _ (NP _)
   | true=>
    rw[b,Ob]at q;have C:=Oj b;exists ixI a #[1] #[4] ?_;rw[show(0:Int).toNat=0 from rfl];exists⟨lnR rfl,λl n=>?_⟩;obtain⟨i,x,s1,G⟩:=aP (.lst [V.int z]) n;rw[x];refine pc (s1 _ _ t) G (by simp;lia) λY y=>?_;have E:Same i (upd i Y (.lst (T.map V.int++[V.int z]))):=(NP i).laid y;have B:(upd i Y (.lst (T.map V.int++[V.int z]))) Y=↥((T++[z]).map V.int):=by rw[ag];simp
    generalize upd i Y (.lst (T.map V.int++[V.int z]))=H2 at*;have d:=s1.trans E;exists⟨f,Y,h,w,g,z,_,rfl,d _ _ v,by lia,by lia,B,by simp;lia,λp I rs k D o _ r=>?_⟩;dsimp only;rw[lS o,A5 (r _)];exact q _ (d.trans k)
 . rw[Og j]at q;rw[NQ j];symm;rw[az];symm;rw[bh a,NM];symm
   have e1:decide ((ms.length:Int)=2)=decide (ms.length=2):=by
    rw[Om,NU,NU];lia
   rw[e1]
   cases b:decide (ms.length=2) with
   | false=>
    rw[b,Oc]at q;exists q _ (NP _)
   | true=>
    rw[b,Ob]at q;have C:=Oj b;exists ixI a #[1] #[4] ?_;rw[show(0:Int).toNat=0 from rfl];exists ixI a #[1] #[4] ?_;rw[show(1:Int).toNat=1 from rfl];symm
    cases e:decide (ms.getD 0 0=ms.getD 1 0) with
    | true=>
     rw[e,PF,Oc]at q;exists q _ (NP _)
    | false=>
     rw[e,PV,Ob]at q;exists ixI a #[1] #[4] ?_;rw[show(1:Int).toNat=1 from rfl];exists ixI a #[1] #[4] ?_;rw[show(0:Int).toNat=0 from rfl];exists⟨f,N,h,w,g,_,_,rfl,v,by lia,by lia,t,by lia,λp I rs k D o _ r=>?_⟩;dsimp only;rw[lS o,A5 (r _)];exact q _ k
theorem rB {k:RK} {r:Addr} {u:List (List Nat)} {n:Int} (J:IsFl H f h w g) (F:FlOk h w g) (x:IsRule H c k r p u cs n m) (j:aI cs NA.length) (D:NA.length=(h*w).toNat) (I:H A=↥(NA.map V.int)) (v:H M=↥(ms.map V.int))
  (q:∀ d,Same H d->Q (.bl (if s=m then decide (ms.length=1)&&!rcB h w (thrL cs NA m z++[z]) z (ms.getD 0 0) else decide (ms.length=2)&&(!decide (ms.getD 0 0=ms.getD 1 0)&&!rcB h w (thrL cs NA m z) (ms.getD 0 0) (ms.getD 1 0)))) d) (C:cs.length<=60):
  gl K c (eD9 Q) [↑f,↑r,↑A,⇑z,⇑s,↑M,⇑m,none] H:=by
 unfold gl;exists⟨k,r,p,u,cs,n,m,z,rfl,x,j.1,λO U s1 S t=>?_⟩;have G:=N1 (λx=>!decide (x=z)) cs;refine⟨O,rfl,⟨_,NW t⟩,?_⟩;refine aY (xs:=cs.filter λx=>!decide (x=z)) (λx=>stB (NA.getD x.toNat 0) m) (λx=>x) #[4] (NW t) ?_ ?_ ?_
 . intro y i R o e k2;have b:=j.2 y (Ol.mp o).1;show tB _ [none,⇑y,⇑m,↑A] i R;exists ixI ((s1.trans e) _ _ I) b.1 b.2 ?_;exists⟨_,m,rfl,_,rfl,k2 _ (NP _)⟩
 . intro y i E o P e k2;show tVar 1 [none,⇑y,⇑m,↑A] i E;exists k2 _ (NP _)
 . intro N i L e l;rw[Pa]at l;have a:=s1.trans e;exists rA (a _ _ J) F (a _ _ v) (T:=thrL cs NA m z) l ?_ λd B=>q d (a.trans B);unfold thrL;have:=N1 (λx=>stB (NA.getD x.toNat 0) m) (cs.filter λx=>!decide (x=z));lia
theorem vc(h:iQ K c vs H Q E):iR K c (eD9 Q) (start ["floor","rule","masks","cell","sign","more","mark","through"] vs) H:=by
 obtain⟨k,f,r,p,A,M,T,cs,NA,ms,n,m,z,s,h,w,g,rfl,D,F,x,J,d,a,B,b,N,L,q⟩:=h;obtain⟨dx,W,C,h1,h2,h3⟩:=x.ex;ac_nf;unfold iR;rw[aB,bw];refine methE (k:=k) rfl x.ok h1 (by rfl) ?_;exists⟨r,p,T,cs,n,m,rfl,x,?_⟩;symm;rw[az];exists⟨⟨_,NW b⟩,?_⟩;refine bE (xs:=ms.map V.int) (λ_=>true) (λi=>.bl (anoB h w NA z m (ms.getD i 0))) (by rw[NM];lia) (NW b) ?_ ?_ ?_
 . intro i y j R t s1 k1;exact k1 _ (NP _)
 . intro i y j S t e s1 k1;obtain⟨v,X,rfl⟩:=aK t;have I:ms.getD i 0=v:=by rw[List.getD,X];rfl
   rw[I]at k1;show tCall _ _ _ _ [none,⇑v,⇑z,↑f,⇑m,↑A] j S;exists⟨f,A,h,w,g,z,v,m,NA,rfl,s1 _ _ D,F,s1 _ _ B,a,L,k1 _ (NP _)⟩
 . intro l j Z s1 u
   have Y:((List.range (ms.map V.int).length).filter λ_=>true).map (λi=>V.bl (anoB h w NA z m (ms.getD i 0)))=(ms.map λo=>anoB h w NA z m o).map V.bl:=by
    rw[aZ,NM,Op];refine QY (by simp) λi h1 h2=>?_;have U:i<ms.length:=by simpa using h2
    simp[List.getD,NN U]
   rw[Y]at u;refine jh u ?_;have G:(ms.map λo=>anoB h w NA z m o).all id=ms.all λo=>anoB h w NA z m o:=by rw[Pl];rfl
   rw[G];unfold reaB at q
   cases e:(ms.all λo=>anoB h w NA z m o) with
   | false=>
    rw[e,Oc]at q;refine⟨false,rfl,?_⟩;exists q _ s1
   | true=>
    rw[e,Ob]at q;refine⟨true,rfl,?_⟩;exists rB (s1 _ _ D) F (x.same s1) J a (s1 _ _ B) (s1 _ _ b) (λO P=>q O (s1.trans P)) d
theorem yU{k:RK}(h:goesB .reach k=true):sgnK k=true:=by cases k <;> first | rfl | cases h
theorem RR.len26{r:RR}(O:r.Ok h w g)(F:FlOk h w g):r.cs.length<=60:=by
 have b:=F.m
 cases a:allK r.k with
 | false=>
  obtain⟨i,f,d,c,e⟩:=O.cl.told a;rw[e,NM];lia
 | true=>
  obtain⟨_,e⟩:=O.cl.all a;rw[e,iy];lia
def Fq(p:Int->Int->Bool):Bool:=(List.range 7).all λ(h:Nat)=>(List.range 7).all λ(w:Nat)=>!(decide (1<=h)&&decide (1<=w)&&decide (h*w<=16))||p h w
theorem Fs{p:Int->Int->Bool}(a:Fq p=true){h w g:Int}(F:FlOk h w g):p h w=true:=by
 obtain⟨h0,h1,w0,w1,m16,g0,g1⟩:=F;obtain⟨n,rfl⟩:=Qc (show 0<=h by lia);obtain⟨m,rfl⟩:=Qc (show 0<=w by lia);have a1:=Od.mp a n (Oe.mpr #[4]);have a2:=Od.mp a1 m (Oe.mpr #[4]);have e1:1<=n:=by lia
 have e2:1<=m:=by lia
 have e3:n*m<=16:=by have:((n*m:Nat):Int)<=16:=by rw[Int.natCast_mul];exact m16
                     lia
 simpa [e1,e2,e3] using a2
def nearS(h w d r:Int):∅:=if (decide (0<=d)&&decide (d<h))&&(decide (0<=r)&&decide (r<w)) then [d*w+r] else []
def nearP(w c:Int):List (Int × Int):=[(c/w-1,c%w),(c/w,c%w-1),(c/w,c%w+1),(c/w+1,c%w)]
def nearL(h w c:Int):∅:=(nearP w c).flatMap λp=>nearS h w p.1 p.2
theorem DI:Fq (λh w=>(List.range (h*w).toNat).all λ(c:Nat)=>decide (nearL h w c=besL h w c)&&(besL h w c).all λx=>decide (0<=x)&&decide (x<h*w))=true:=by decide+kernel
theorem A6{c:Int}(F:FlOk h w g)(c0:0<=c)(b:c<h*w):nearL h w c=besL h w c/\∀ x∈besL h w c,0<=x/\x<h*w:=by
 have t:=Od.mp (Fs DI F) c.toNat (Oe.mpr #[4]);have e1:((c.toNat:Nat):Int)=c:=by lia
 rw[e1,OB,NU,Od]at t;refine⟨t.1,λx a=>?_⟩;have:=t.2 x a
 simpa using this
theorem A7{c:Int}(F:FlOk h w g)(c0:0<=c)(b:c<h*w)(d:n=(h*w).toNat):aI (besL h w c) n:=by
 refine⟨NY (uS ..) #[1],λx a=>?_⟩;have:=(A6 F c0 b).2 x a;lia
def arL(h w o z:Int):∅:=(besL h w o).filter λx=>!decide (x=z)
def si(K:Frag):Sp:=#[3,∃ a h w g o z,vs=[.ref a,.int o,.int z]/\IsFl H a h w g/\FlOk h w g/\∀ l b,Same H b->H l=none->b l=↥((arL h w o z).map V.int)->Q (.ref l) b]
def sj(K:Frag):TS:=#[":jw&--2 sb,~tba0a1ch#1 mdBb121"]
theorem Ft(h:si K vs H Q E):sj K (eD9 Q) (start ["floor","middle","cell"] vs) H:=by
 obtain⟨a,h,w,g,o,z,rfl,f,F,q⟩:=h;have r:=F.w0;have p:=F.w1;ac_nf;unfold sj;rw[b7,bq];exists⟨a,h,w,g,o,rfl,f,by lia,by lia,λl s s1 n e=>?_⟩;have j:=uS h w o;refine⟨l,rfl,⟨_,NW e⟩,?_⟩;refine aY (xs:=besL h w o) (λx=>!decide (x=z)) (λx=>x) #[4] (NW e) ?_ ?_ ?_
 . intro y b R m c k2;show tTest _ [none,⇑y,⇑z] b R;exists k2 _ (NP _)
 . intro y b k m j c k2;show tVar 1 [none,⇑y,⇑z] b k;exists k2 _ (NP _)
 . intro T b i c d;rw[Pa]at d;exact q T b (s1.trans c) (s1.free i) d
def mayN(NA:∅)(m:Int)(cs:∅):Nat:=((sgAt NA cs).filter λk=>stB k m).length
def onlN(NA:∅)(m:Int)(cs:∅):Nat:=((sgAt NA cs).filter λk=>decide (woI k m=0)).length
def turnB(h w m:Int)(NA:∅)(z s:Int)(ms:∅):Bool:=
 if ms=[] then decide (s=m)&&(decide ((mayN NA m (besL h w z):Int)<2)||decide ((2:Int) < (onlN NA m (besL h w z):Int)))
 else decide (ms.length=1)&&(decide (ms.getD 0 0∈besL h w z)&&(decide (woI (NA.getD (ms.getD 0 0).toNat 0) m=0)&&
  (if s=m then decide ((2:Int)<=(onlN NA m (arL h w (ms.getD 0 0) z):Int)) else decide ((mayN NA m (arL h w (ms.getD 0 0) z):Int)<2))))
def jF(K:Frag)(c:RO):Sp:=#[3,∃ k f r p A M b cs NA ms n m z s h w g,vs=[.ref f,.ref r,.ref A,.int z,.int s,.ref M]/\IsFl H f h w g/\FlOk h w g/\IsRule H c k r p b cs n m/\NA.length=(h*w).toNat/\H A=↥(NA.map V.int)/\H M=↥(ms.map V.int)/\m<=1000/\0<=z/\z<h*w/\∀ a,Same H a->Q (.bl (turnB h w m NA z s ms)) a]
def gJ(K:Frag)(c:RO):TS:=#[":gl,~kba2a,{Jba0adk5ef#0 a3cch#7 gnmdrb46jd),~Lba7a6cef#2 ojd<,~Kba7a6cef#2 "]
def gK(K:Frag)(c:RO):TS:=#[":gnJmdBbqAa5cef#1 JmdNbQdk5ef#0 ,~tba0a3cKx,~pbadk2dk5ef#0 a6cjeGzo{Kbi"]
def jG(K:Frag)(c:RO):TS:=#[":glyiE~q~rbi1ch#6 gnmdrb5tcgl,~kba2a,~tba0a3cch#7 jLdrb46~yd<,~Kba7a6cef#2 d>,~Lba7a6cef#2 o{Lbi"]
theorem sk (G:IsFl H f h w g) (F:FlOk h w g) (i:NA.length=(h*w).toNat) (D:H A=↥(NA.map V.int)) (r:H M=↥(ms.map V.int)) (L:ms.length=1) (I:m<=1000) (t:0<=z) (C:z<h*w) (u:ms.getD 0 0∈besL h w z)
  (q:∀ l,Same H l->Q (.bl (if s=m then decide ((2:Int)<=(onlN NA m (arL h w (ms.getD 0 0) z):Int)) else decide ((mayN NA m (arL h w (ms.getD 0 0) z):Int)<2))) l):
  gJ K c (eD9 Q) [↑f,some v1,↑A,⇑z,⇑s,↑M,⇑m,none] H:=by
 have d:=(A6 F t C).2 _ u;have a:=A7 (n:=NA.length) F d.1 d.2 i;have b:aI (arL h w (ms.getD 0 0) z) NA.length:=⟨NY (N1 _ _) a.1,λx E=>a.2 x (Ol.mp E).1⟩;unfold gJ;exists ixI r #[1] #[4] ?_;rw[show(0:Int).toNat=0 from rfl];exists⟨f,h,w,g,_,z,rfl,G,F,λR P s1 J y=>?_⟩;exists⟨A,R,NA,_,rfl,s1 _ _ D,y,b,λB O k N p=>?_⟩;have o:(sgAt NA (arL h w (ms.getD 0 0) z)).length<=63:=by unfold sgAt;rw[NM];exact b.1
 symm;rw[az];symm;by_cases e:s=m
 . rw[NT e];rw[Os e]at q;exists⟨B,_,_,rfl,p,o,by lia,λv j=>?_⟩;exists q _ ((s1.trans k).trans j)
 . rw[NQ e];rw[Og e]at q;exists⟨B,_,_,rfl,p,o,λv j=>?_⟩;exists q _ ((s1.trans k).trans j)
theorem sr (p:IsFl H f h w g) (F:FlOk h w g) (i:NA.length=(h*w).toNat) (o:H A=↥(NA.map V.int)) (d:H M=↥(ms.map V.int)) (t:m<=1000) (k:0<=z) (n:z<h*w)
  (q:∀ e,Same H e->Q (.bl (decide (ms.length=1)&&(decide (ms.getD 0 0∈besL h w z)&&(decide (woI (NA.getD (ms.getD 0 0).toNat 0) m=0)&&(if s=m then decide ((2:Int)<=(onlN NA m (arL h w (ms.getD 0 0) z):Int)) else decide ((mayN NA m (arL h w (ms.getD 0 0) z):Int)<2)))))) e):
  gK K c (eD9 Q) [↑f,some v1,↑A,⇑z,⇑s,↑M,⇑m,none] H:=by
 have y:=F.w0;have C:=F.w1;unfold gK;rw[aB,az];symm;rw[bh d,NM];symm
 have e1:decide ((ms.length:Int)=1)=decide (ms.length=1):=by
  rw[Om,NU,NU];lia
 rw[e1]
 cases j:decide (ms.length=1) with
 | false=>
  rw[j,Oc]at q;exists q _ (NP _)
 | true=>
  rw[j,Ob]at q;have u:=Oj j;exists ixI d #[1] #[4] ?_;rw[show(0:Int).toNat=0 from rfl];exists⟨f,h,w,g,z,rfl,p,by lia,by lia,λR D s1 B r=>?_⟩;dsimp only;rw[lS r]
  cases a:decide (ms.getD 0 0∈besL h w z) with
  | false=>
   rw[a,Oc]at q;refine⟨true,rfl,iteT ?_⟩;exists q _ s1
  | true=>
   rw[a,Ob]at q;have l:=Oj a;have x:=(A6 F k n).2 _ l;refine⟨false,rfl,iteF ?_⟩;exists ixI (s1 _ _ d) #[1] #[4] ?_;rw[show(0:Int).toNat=0 from rfl];exists ixI (s1 _ _ o) #[4] #[4] ?_;exists⟨_,m,rfl,by lia,?_⟩
   cases b:decide (woI (NA.getD (ms.getD 0 0).toNat 0) m=0) with
   | false=>
    rw[b,Oc]at q;refine⟨false,rfl,iteT ?_⟩;exists q _ s1
   | true=>
    rw[b,Ob]at q;refine⟨true,rfl,iteF ?_⟩;exact sk (s1 _ _ p) F i (s1 _ _ o) (s1 _ _ d) u t k n l λe v=>q e (s1.trans v)
theorem wy(h:jF K c vs H Q E):jG K c (eD9 Q) (start ["floor","rule","masks","cell","sign","more","mark","some"] vs) H:=by
 obtain⟨k,f,r,p,A,M,S,cs,NA,ms,n,m,z,s,h,w,g,rfl,I,F,x,d,D,o,O,t,u,q⟩:=h;obtain⟨dx,W,C,h1,h2,h3⟩:=x.ex;have X:=F.w0;have w1:=F.w1;ac_nf;unfold jG;rw[aB,bw];refine methE (k:=k) rfl x.ok h1 (by rfl) ?_;exists⟨r,p,S,cs,n,m,rfl,x,?_⟩;symm;rw[az];exists⟨aT #[1],λZ J=>?_⟩;obtain⟨H1,z9,s1,eZ⟩:∃ z,upd H Z (.lst [])=z/\Same H z/\z Z=↥(([]:∅).map V.int):=aP _ J;rw[z9];refine vP (s1 _ _ o) eZ ?_;unfold turnB at q;by_cases a:ms=[]
 . rw[Os a]at q;rw[NT a];refine⟨true,rfl,?_⟩;exists⟨f,h,w,g,z,rfl,s1 _ _ I,by lia,by lia,λR H2 j hR N=>?_⟩;have e:=A7 (n:=NA.length) F t u d;exists⟨A,R,NA,_,rfl,(s1.trans j) _ _ D,N,e,λB H3 L hB G=>?_⟩;have v:(sgAt NA (besL h w z)).length<=63:=by unfold sgAt;rw[NM];exact e.1
   have b:=(s1.trans j).trans L;symm
   cases y:decide (s=m) with
   | false=>
    rw[y,Oc]at q;exists q _ b
   | true=>
    rw[y,Ob]at q;exists⟨B,_,_,rfl,G,v,λY l=>?_⟩;symm;have e1:decide ((((sgAt NA (besL h w z)).filter λk=>stB k m).length:Int)<2)=decide ((mayN NA m (besL h w z):Int)<2):=rfl;rw[e1]
    cases i:decide ((mayN NA m (besL h w z):Int)<2) with
    | true=>
     rw[i,P1]at q;exists q _ (b.trans l)
    | false=>
     rw[i,O3]at q;exists⟨B,_,_,rfl,l _ _ G,v,by lia,λU T=>?_⟩;exists q _ ((b.trans l).trans T)
 . rw[Og a]at q;rw[NQ a];refine⟨false,rfl,?_⟩;exists sr (s1 _ _ I) F d (s1 _ _ D) (s1 _ _ o) O t u λP j=>q P (s1.trans j)
theorem vd(t:TK):decide (tkC t=s!"reach")=decide (t=.reach):=by cases t <;> decide
theorem Fu{k:RK}(h:goesB .turn k=true):sgnK k=true:=by cases k <;> first | rfl | cases h
noncomputable def Fv (h w:Int) (t:TK) (x:RR) (NA:∅) (z s:Int) (ms:∅):Bool:=match t with
 | .square=>squB h w x.m NA z s ms
 | .reach=>reaB h w x.cs x.m NA z s ms
 | _=>turnB h w x.m NA z s ms
noncomputable def A8 (h w:Int) (NC:List RR) (NA:∅) (t:TK) (r z s:Int) (ms:∅):Bool:=match NC[r.toNat]? with
 | none=>false
 | some x=>Fv h w t x NA z s ms
abbrev JA(t:TK):Prop:=t=.square\/t=.reach\/t=.turn
def fc(K:Frag)(c:RO)(d:RP):Sp:=#[3,∃ P L G A T M h w g NC cl NA t r z s ms,vs=[.ref P,.ref A,.ref T]/\Asks H c d P L G A T M h w g NC cl NA t r z s ms/\JA t/\formB h w g NC t r z s=true/\∀ a,Same H a->Q (.bl (A8 h w NC NA t r z s ms)) a]
def fe(K:Frag)(c:RO)(d:RP):TS:=#[":glypR~C~Dbip0ch#3 gldkypR~e~fbip0cdk2ef#1 h#4 gnmdrbdk2ef#0 euv`0j,{Mbia3a4a1adk2ef#2 adk2ef#3 adk2ef#4 cognmdrbdk2ef#0 euv`1j,{Nbia3a4a1adk2ef#2 adk2ef#3 adk2ef#4 coj,{Obia3a4a1adk2ef#2 adk2ef#3 adk2ef#4 c",s!"square",s!"reach"]
theorem oS(h:fc K c d vs H Q E):fe K c d (eD9 Q) (start ["puzzle","masks","thought","floor","rule"] vs) H:=by
 obtain⟨P,L,G,A,T,M,h,w,g,NC,cl,NA,t,r,z,s,ms,rfl,X,N,f,q⟩:=h;obtain⟨dx,p,rs,h1,h2,h3⟩:=X.P.ex;obtain⟨U,z1,s0,S,NL⟩:=gD f;have hg:=X.P.R.F.g1;have x:t≠.clue:=by rcases N with rfl | rfl | rfl <;> decide
 obtain⟨r0,y,j,m,hz⟩:=tV x NL;have O:=X.P.R.ok y (NS j)
 have B:∀ b,Same H b->Q (.bl (Fv h w t y NA z s ms)) b:=λb s'=>by
  have I:=q b s';unfold A8 at I;rw[j]at I;exact I
 ac_nf;unfold fe;rw[aB,bw];refine methE (k:=.Puzzle) rfl X.P.ok h1 (by rfl) ?_;exists⟨P,L,G,h,w,g,NC,cl,rfl,X.P,λJ i=>?_⟩;exists methE (k:=.Puzzle) rfl X.P.ok h1 (by rfl) ?_;exists⟨P,L,G,h,w,g,NC,cl,rfl,X.P,λl C e hl W Y=>?_⟩;have a:Same H (upd H l (.lst (e.map V.ref))):=(NP H).laid hl;generalize upd H l (.lst (e.map V.ref))=H1 at*;have Z:=(NO.mp j).1;have NJ:=Y.len;have u:e[r.toNat]? =some e[r.toNat]:=NN #[4];dsimp only;refine ixT (a _ _ X.T.T) (v:=V.int r) rfl ?_;refine ixL Y.top (iz r0 u) ?_;symm;rw[az];exists ixT (a _ _ X.T.T) (v:=V.str (tx (tkC t))) rfl ?_;symm;rw[bx,yR];rcases N with rfl | rfl | rfl
 . rw[NT rfl];refine iteT ?_;exists ixT (a _ _ X.T.T) (v:=V.int z) rfl ?_;exists ixT (a _ _ X.T.T) (v:=V.int s) rfl ?_;exists ixT (a _ _ X.T.T) (v:=V.ref M) rfl ?_;exists⟨_,J,_,C,A,M,_,y.cs,NA,ms,_,_,z,s,h,w,g,rfl,a _ _ i,X.P.R.F,Y.at_ _ _ _ u j,X.n,a _ _ X.A,a _ _ X.T.M,by lia,λb o=>B b (a.trans o)⟩
 . have ym:=(O.m0 (yU m)).2;rw[NQ (show ¬ TK.reach=TK.square by decide)];refine iteF ?_;rw[az];exists ixT (a _ _ X.T.T) (v:=V.str (tx (tkC .reach))) rfl ?_;symm;rw[bx,vd,NT rfl];refine iteT ?_;exists ixT (a _ _ X.T.T) (v:=V.int z) rfl ?_;exists ixT (a _ _ X.T.T) (v:=V.int s) rfl ?_;exists ixT (a _ _ X.T.T) (v:=V.ref M) rfl ?_;symm;have D:aI y.cs NA.length:=by rw[X.n];exact QZ O X.P.R.F
   exact⟨_,J,_,C,A,M,_,y.cs,NA,ms,_,_,z,s,h,w,g,rfl,a _ _ i,X.P.R.F,Y.at_ _ _ _ u j,D,RR.len26 O X.P.R.F,X.n,a _ _ X.A,a _ _ X.T.M,X.T.n,by lia,λb o=>B b (a.trans o)⟩
 . have ym:=(O.m0 (Fu m)).2;rw[NQ (show ¬ TK.turn=TK.square by decide)];refine iteF ?_;rw[az];exists ixT (a _ _ X.T.T) (v:=V.str (tx (tkC .turn))) rfl ?_;symm;rw[bx,vd,NQ (show ¬ TK.turn=TK.reach by decide)];refine iteF ?_;exists ixT (a _ _ X.T.T) (v:=V.int z) rfl ?_;exists ixT (a _ _ X.T.T) (v:=V.int s) rfl ?_;exists ixT (a _ _ X.T.T) (v:=V.ref M) rfl ?_;exists⟨_,J,_,C,A,M,_,y.cs,NA,ms,_,_,z,s,h,w,g,rfl,a _ _ i,X.P.R.F,Y.at_ _ _ _ u j,X.n,a _ _ X.A,a _ _ X.T.M,by lia,U,z1,λb o=>B b (a.trans o)⟩
theorem HY(e:0<=m)(x:Int):x∈sgL m↔stB m x=true:=by
 unfold sgL;rw[N9];constructor
 . rintro⟨i,d,rfl⟩;exact(Ol.mp d).2
 . intro h;have c:=h;unfold stB at c;rw[OB,OB]at c;have a:=Oj c.1;have b:=Oj c.2.1;refine⟨(x-1).toNat,Ol.mpr ⟨Oe.mpr #[4],?_⟩,by lia⟩;rw[show 1+(((x-1).toNat:Nat):Int)=x by lia];exact h
theorem A9{f:Nat->Int}(c:∀ a b,f a=f b->a=b):∀{xs:List Nat},xs.Nodup->(xs.map f).Nodup
 | [],_=>PU
 | x::r,h=>by
  rw[OR]at h;rw[OD,OR];refine⟨λd=>?_,A9 c h.2⟩;obtain⟨y,g,e⟩:=N9.mp d;exact h.1 (c _ _ e ▸ g)
theorem JB(m:Int):(sgL m).Nodup:=by
 unfold sgL;exact A9 (f:=λ(i:Nat)=>1+(i:Int)) (λa b e=>by have c:(1:Int)+(a:Int)=1+(b:Int):=e;lia) (List.Nodup.sublist List.filter_sublist List.nodup_range)
theorem Ba:((List.range 64).all λm=>decide (Builtin.Int.intBits (m:Int)<=6))=true:=by decide+kernel
theorem DJ{k:RK}{m:Nat}{ns:List Nat}(F:FlOk h w g)(i:ns≠[])(b:∀ c∈ns,(c:Int)<h*w)(r:ns.Nodup)(a:ns.length<=16)(o:allK k=false)(k0:k≠.Rule)(p:n<=99)(q:numK k=false->n=0)(l:sgnK k=true->1<=(m:Int)/\(m:Int)<=g)(j:sgnK k=false->m=0):
  RR.Ok ⟨k,n,m,ns,ns.map λ(n:Nat)=>(n:Int)⟩ h w g:=by
 have f:=F.m;refine⟨k0,p,q,l,j,⟨λ_=>⟨i,a,b,r,rfl⟩,λe=>?_⟩,λx d=>?_,a⟩
 . rw[show allK k=false from o]at e;cases e
 . have:=b x d;lia
def dTh(t:TK)(r z s:Int)(ms:∅):PyData:=.tuple [.str (tx (tkC t)),.int r,.int z,.int s,.list (ms.map PyData.int)]
variable{t:TK}
def J6{T:Addr}{r:Int}(x:IsTh H T M t r z s ms):DV K H (.ref T) (dTh t r z s ms):=
 .tup (Ry x.T) (.cons (.str _) (.cons (.int _) (.cons (.int _) (.cons (.int _) (.cons (.lst (NW x.M) (.ints ms)) .nil)))))
theorem HZ(t:TK):decide (tkC t=s!"pair")=decide (t=.pair):=by cases t <;> decide
theorem Ia(t:TK):decide (tkC t=s!"turn")=decide (t=.turn):=by cases t <;> decide
noncomputable def Fw (h w:Int) (x:RR) (NA:∅) (t:TK) (z s:Int) (ms:∅):Bool:=match t with
 | .count=>cntB x.cs x.n x.m NA z s ms
 | .sum=>sumB x.cs x.n NA z s ms
 | .step=>stepB x.cs NA z s ms
 | _=>waysB x.k h w x.cs x.n x.m NA z s ms
noncomputable def su (h w:Int) (NC:List RR) (NA:∅) (t:TK) (r z s:Int) (ms:∅):Bool:=match NC[r.toNat]? with
  | none=>false
  | some x=>Fw h w x NA t z s ms
def ff(K:Frag)(c:RO)(d:RP):Sp:=#[3,∃ P L G A T M h w g NC cl NA t r z s ms,vs=[.ref P,.ref A,.ref T]/\Asks H c d P L G A T M h w g NC cl NA t r z s ms/\(t=.count\/t=.sum\/t=.ways)/\(∀ m∈NA,0<=m/\m<64)/\formB h w g NC t r z s=true/\∀ a,Same H a->Q (.bl (su h w NC NA t r z s ms)) a]
def fg(K:Frag)(c:RO)(d:RP):TS:=#[":gldkypR~e~fbip0cdk2ef#1 h#3 gnmdrbdk2ef#0 euv`0j,{Pbia3a1adk2ef#2 adk2ef#3 adk2ef#4 cognmdrbdk2ef#0 euv`1j,{Qbia3a1adk2ef#2 adk2ef#3 adk2ef#4 coj,{Rbia3a1adk2ef#2 adk2ef#3 adk2ef#4 c",s!"count",s!"sum"]
theorem oT(h:ff K c d vs H Q E):fg K c d (eD9 Q) (start ["puzzle","masks","thought","rule"] vs) H:=by
 obtain⟨P,L,G,A,T,M,h,w,g,NC,cl,NA,t,r,z,s,ms,rfl,X,I,D,f,q⟩:=h;obtain⟨dx,p,rs,h1,h2,h3⟩:=X.P.ex;obtain⟨z0,z1,s0,N,Z⟩:=gD f;have hg:=X.P.R.F.g1;have aa:=X.P.R.F.m;obtain⟨r0,y,j,J,hz⟩:=tV (by rcases I with rfl | rfl | rfl <;> decide) Z;have O:=X.P.R.ok y (NS j);have i:aI y.cs NA.length:=by rw[X.n];exact QZ O X.P.R.F
 ac_nf;unfold fg;rw[aB,bw,e7];refine methE (k:=.Puzzle) rfl X.P.ok h1 (by rfl) ?_;exists⟨P,L,G,h,w,g,NC,cl,rfl,X.P,λl x b W B Y=>?_⟩;have a:Same H (upd H l (.lst (b.map V.ref))):=(NP H).laid W;generalize upd H l (.lst (b.map V.ref))=H1 at*;have U:=(NO.mp j).1;have NJ:=Y.len;have o:b[r.toNat]? =some b[r.toNat]:=NN #[4]
 have e:∀ u,Same H1 u->Q (.bl (Fw h w y NA t z s ms)) u:=λu S=>by
  have C:=q u (a.trans S);unfold su at C;rw[j]at C;exact C
 dsimp only;refine ixT (a _ _ X.T.T) (v:=V.int r) rfl ?_;refine ixL Y.top (iz r0 o) ?_;symm;rw[az];exists ixT (a _ _ X.T.T) (v:=V.str (tx (tkC t))) rfl ?_;symm;rw[bx,GA];rcases I with rfl | rfl | rfl
 . rw[NT rfl];refine iteT ?_;exists ixT (a _ _ X.T.T) (v:=V.int z) rfl ?_;exists ixT (a _ _ X.T.T) (v:=V.int s) rfl ?_;exists ixT (a _ _ X.T.T) (v:=V.ref M) rfl ?_;exists⟨_,_,x,A,M,_,y.cs,NA,ms,_,_,z,s,rfl,Y.at_ _ _ _ o j,i,a _ _ X.A,a _ _ X.T.M,by lia,e⟩
 . rw[NQ #[1]];refine iteF ?_;rw[az];exists ixT (a _ _ X.T.T) (v:=V.str (tx (tkC .sum))) rfl ?_;symm;rw[bx,Fh,NT rfl];refine iteT ?_;exists ixT (a _ _ X.T.T) (v:=V.int z) rfl ?_;exists ixT (a _ _ X.T.T) (v:=V.int s) rfl ?_;exists ixT (a _ _ X.T.T) (v:=V.ref M) rfl ?_;exists⟨_,_,x,A,M,_,y.cs,NA,ms,_,_,z,s,rfl,Y.at_ _ _ _ o j,i,D,a _ _ X.A,a _ _ X.T.M,e⟩
 . rw[NQ #[1]];refine iteF ?_;rw[az];exists ixT (a _ _ X.T.T) (v:=V.str (tx (tkC .ways))) rfl ?_;symm;rw[bx,Fh,NQ #[1]];refine iteF ?_;exists ixT (a _ _ X.T.T) (v:=V.int z) rfl ?_;exists ixT (a _ _ X.T.T) (v:=V.int s) rfl ?_;exists ixT (a _ _ X.T.T) (v:=V.ref M) rfl ?_;exists⟨_,_,x,A,M,_,y.cs,NA,ms,_,_,z,s,h,w,g,rfl,Y.at_ _ _ _ o j,B,X.P.R.F,i,by rw[X.n];lia,D,by lia,by lia,a _ _ X.A,a _ _ X.T.M,e⟩
noncomputable def strA (h w g:Int) (NC:List RR) (cl NA:∅) (t:TK) (r z s:Int) (ms:∅):Bool:=
 if lineK t then(if t=.step then su h w NC NA t r z s ms else A4 g NC cl NA t r z s ms) else if nbrK t then su h w NC NA t r z s ms else A8 h w NC NA t r z s ms
def gm(K:Frag)(c:RO)(d:RP):Sp:=#[3,∃ P L G A T M h w g NC cl NA t r z s ms,vs=[.ref P,.ref A,.ref T]/\Asks H c d P L G A T M h w g NC cl NA t r z s ms/\lineK t=true/\(∀ m∈NA,0<=m/\m<64)/\formB h w g NC t r z s=true/\∀ a,Same H a->Q (.bl (strA h w g NC cl NA t r z s ms)) a]
def gn(K:Frag)(c:RO)(d:RP):TS:=#[":gldk2ef#0 h#3 gldk2ef#2 h#4 gldk2ef#3 h#5 gldk2ef#4 h#6 gnmdrb3euv`0j,{SbaypR{T{Ubip0ca4a5a6cogldkypR~e~fbip0cdk2ef#1 h#7 gnmdrb3euv`1j,{Vbia7a1a4a5a6cognmdrb3euv`2j,{WbiaypR~C~Dbip0ca7a1a4a5a6cognmdrb3euv`3j,{Xbia7a1a4a5a6coj,{Ybia7a1a4a5a6c",s!"clue",s!"only",s!"place",s!"step"]
theorem rC(h:gm K c d vs H Q E):gn K c d (eD9 Q) (start ["puzzle","masks","thought","kind","cell","sign","more","rule"] vs) H:=by
 obtain⟨P,L,G,A,T,M,h,w,g,NC,cl,NA,t,r,z,s,ms,rfl,X,S,mm,f,q⟩:=h;obtain⟨dx,p,rs,h1,h2,h3⟩:=X.P.ex;obtain⟨z0,z1,s0,ab,NL⟩:=gD f;have af:=X.P.C.len;have hg:=X.P.R.F.g1;unfold strA at q;rw[S,Os rfl]at q;exists gn;refine ixT X.T.T (v:=V.str (tx (tkC t))) rfl ?_;exists ixT X.T.T (v:=V.int z) rfl ?_;exists ixT X.T.T (v:=V.int s) rfl ?_;exists ixT X.T.T (v:=V.ref M) rfl ?_;symm;rw[az];symm;rw[bx,xW];by_cases x:t=.clue
 . subst x;rw[Og #[1]]at q;rw[NT rfl];refine iteT ?_;refine methE (k:=.Puzzle) rfl X.P.ok h1 (by rfl) ?_;exists⟨P,L,G,h,w,g,NC,cl,rfl,X.P,λl Z=>?_⟩;have a:Same H (upd H l (.lst (cl.map V.int))):=(NP H).laid Z;exact⟨l,M,z,s,cl,ms,rfl,ag,z0,by lia,a _ _ X.T.M,λb i=>q b (a.trans i)⟩
 . rw[NQ x];obtain⟨r0,y,o,_,hz⟩:=tV x NL
   have U:t≠.step->∀ b,Same H b->Q (.bl (A3 g t y NA z s ms)) b:=λhn b s'=>by
    have u:=q b s';rw[Og hn]at u
    have e:A4 g NC cl NA t r z s ms=A3 g t y NA z s ms:=by
     unfold A4;cases t <;> first | exact absurd rfl x | (dsimp only;rw[o])
    rw[e]at u;exact u
   refine iteF ?_;refine methE (k:=.Puzzle) rfl X.P.ok h1 (by rfl) ?_;exists⟨P,L,G,h,w,g,NC,cl,rfl,X.P,λl N m Z ac Y=>?_⟩;have a:Same H (upd H l (.lst (m.map V.ref))):=(NP H).laid Z;generalize upd H l (.lst (m.map V.ref))=H1 at*;have ad:=(NO.mp o).1;have NJ:=Y.len;have B:m[r.toNat]? =some m[r.toNat]:=NN #[4];have O:=X.P.R.ok y (NS o);have j:aI y.cs NA.length:=by rw[X.n];exact QZ O X.P.R.F
   dsimp only;refine ixT (a _ _ X.T.T) (v:=V.int r) rfl ?_;refine ixL Y.top (iz r0 B) ?_;symm;rw[az];symm;rw[bx,CV];by_cases D:t=.only
   . subst D;rw[NT rfl];refine iteT ?_;exists⟨_,_,N,A,M,_,y.cs,NA,ms,_,_,z,s,rfl,Y.at_ _ _ _ B o,j,a _ _ X.A,a _ _ X.T.M,by lia,λb i=>U #[1] b (a.trans i)⟩
   . rw[NQ D];refine iteF ?_;rw[az];symm;rw[bx,AU];by_cases I:t=.place
     . subst I;rw[NT rfl];refine iteT ?_;refine methE (k:=.Puzzle) rfl X.P.ok (a _ _ h1) (by rfl) ?_;exists⟨P,L,G,h,w,g,NC,cl,rfl,X.P.same a,λp3 aa=>?_⟩;exists⟨_,p3,_,N,A,M,_,y.cs,NA,ms,_,_,z,s,h,w,g,rfl,aa,Y.at_ _ _ _ B o,j,a _ _ X.A,a _ _ X.T.M,λb i=>U #[1] b (a.trans i)⟩
     . rw[NQ I];refine iteF ?_;rw[az];symm;rw[bx,HQ];by_cases J:t=.step
       . subst J;rw[NT rfl];refine iteT ?_;exists⟨_,_,N,A,M,_,y.cs,NA,ms,_,_,z,s,rfl,Y.at_ _ _ _ B o,j,hz,mm,a _ _ X.A,a _ _ X.T.M,λb i=>?_⟩;have u:=q b (a.trans i);rw[Os rfl]at u;unfold su at u;rw[o]at u;exact u
       . rw[NQ J]
         have W:t=.pair:=by
          revert S x D I J
          cases t <;> intro S x D I J <;> first | rfl | exact absurd rfl x | exact absurd rfl D | exact absurd rfl I | exact absurd rfl J | cases S
         subst W;refine iteF ?_;exists⟨_,_,N,A,M,_,y.cs,NA,ms,_,_,z,s,rfl,Y.at_ _ _ _ B o,j,mm,a _ _ X.A,a _ _ X.T.M,λb i=>U #[1] b (a.trans i)⟩
def oU(K:Frag)(c:RO)(d:RP):Sp:=#[3,∃ P L G A T M h w g NC cl NA t r z s ms,vs=[.ref P,.ref A,.ref T]/\Asks H c d P L G A T M h w g NC cl NA t r z s ms/\(∀ m∈NA,0<=m/\m<64)/\formB h w g NC t r z s=true/\∀ a,Same H a->Q (.bl (strA h w g NC cl NA t r z s ms)) a]
def oV(K:Frag)(c:RO)(d:RP):TS:=#[":gnx~w{Zzdk2ef#0 j,{*bipa0a1a2cognx~w{+zdk2ef#0 j,{-bipa0a1a2coj,{/bipa0a1a2c"]
theorem nbrA(h:nbrK t=true):t=.count\/t=.sum\/t=.ways:=by cases t <;> first | exact .inl rfl | exact .inr (.inl rfl) | exact .inr (.inr rfl) | cases h
theorem regA(h1:lineK t=false)(h2:nbrK t=false):JA t:=by cases t <;> first | exact .inl rfl | exact .inr (.inl rfl) | exact .inr (.inr rfl) | (cases h1;done) | (cases h2;done)
theorem Cl(h:oU K c d vs H Q E):oV K c d (eD9 Q) (start ["puzzle","masks","thought"] vs) H:=by
 obtain⟨P,L,G,A,T,M,h,w,g,NC,cl,NA,t,r,z,s,ms,rfl,X,a,f,q⟩:=h;ac_nf;unfold oV;rw[aB,az];exists ixT X.T.T (v:=V.str (tx (tkC t))) rfl ?_;symm;rw[HL]
 cases e1:lineK t with
 | true=>
  refine iteT ?_;exact⟨P,L,G,A,T,M,h,w,g,NC,cl,NA,t,r,z,s,ms,rfl,X,e1,a,f,q⟩
 | false=>
  unfold strA at q;rw[e1,Og NV]at q;refine iteF ?_;rw[az];exists ixT X.T.T (v:=V.str (tx (tkC t))) rfl ?_;symm;rw[Jr]
  cases e2:nbrK t with
  | true=>
   rw[e2,Os rfl]at q;refine iteT ?_;exact⟨P,L,G,A,T,M,h,w,g,NC,cl,NA,t,r,z,s,ms,rfl,X,nbrA e2,a,f,q⟩
  | false=>
   rw[e2,Og NV]at q;refine iteF ?_;exists⟨P,L,G,A,T,M,h,w,g,NC,cl,NA,t,r,z,s,ms,rfl,X,regA e1 e2,f,q⟩
noncomputable def alwA (h w g:Int) (NC:List RR) (cl NA:∅) (t:TK) (r z s:Int) (ms:∅):Bool:=formB h w g NC t r z s&&strA h w g NC cl NA t r z s ms
def tGT(K:Frag)(a:List Str):TE:=λ_ H Q=>∀ q,SqT K H q (a.map V.str)->Q (.ref q) H
section
variable{X:Cx}{pos:Pos}{x:Str}{ws:List Str}
theorem DK(G:GTup X.K X.mg x ws)(d:Gl X x)(a:(x==("__debug__":Str))=false:=by decide):PE X (.Name x pos) (tGT X.K ws):=by
 obtain⟨q,o,b,n,h1,h2⟩:=G.ex;intro c s σ H Q I h;exact dQ (v:=V.ref q) d h1 rfl a c s σ H Q I (h q (.inr ⟨o,b,n,h2⟩))
end
def GG{K:Frag}{a:List Str}{σ:St}{H:Hp}{Q:VK}:tGT K a σ H Q=∀ q,SqT K H q (a.map V.str)->Q (.ref q) H:=rfl
def stL(ms:∅)(c s:Int):∅:=(List.range ms.length).map λ(i:Nat)=>if (i:Int)=c then woI (ms.getD i 0) s else ms.getD i 0
def nR(K:Frag):Sp:=#[3,∃ p ms c s,vs=[.ref p,.int c,.int s]/\H p=↥(ms.map V.int)/\ms.length<=900/\s<=100000/\∀ l a,Same H a->H l=none->a l=↥((stL ms c s).map V.int)->Q (.ref l) a]
def sw(K:Frag):TS:=#[":jw&---12 ~]ba0c~Ab#2 :h#1 :h#2 ~BD~mmdrb13,'pba2a4c2"]
variable{K:Frag}{vs:List V}{H:Hp}{Q:VK}{E:XK}
theorem Fx(h:nR K vs H Q E):sw K (eD9 Q) (start ["masks","cell","sign"] vs) H:=by
 obtain⟨p,ms,c,s,rfl,e,g,n,k⟩:=h;exists sw;refine⟨p,rfl,⟨_,NW e⟩,?_⟩;refine qk (xs:=ms.map V.int) (λ_=>true) (λi=>.int (if (i:Int)=c then woI (ms.getD i 0) s else ms.getD i 0)) (by rw[NM];exact g) #[1] (NW e) ?_ ?_ ?_
 . intro i x a R d s1 k1;exact k1 _ (NP _)
 . intro i x a o d t s1 k1;obtain⟨m,j,rfl⟩:=aK d;have q:=k1 _ (NP a);rw[dU j]at q;show tIf _ _ _ [none,⇑i,⇑m,⇑c,⇑s] a o;symm;by_cases b:(i:Int)=c
   . rw[Os b]at q;rw[NT b];exact iteT ⟨m,s,rfl,n,q⟩
   . rw[Og b]at q;rw[NQ b];exact iteF q
 . intro l a f s1 r;refine k l a s1 f ?_;rw[r,aZ,NM];unfold stL;rw[Op];rfl
theorem rfmA{α β:Type}(d:α)(b:α->Bool)(f:α->β)(xs:List α):((List.range xs.length).filter λi=>b (xs.getD i d)).map (λi=>f (xs.getD i d))=(xs.filter b).map f:=by
 have e:xs=(List.range xs.length).map λi=>xs.getD i d:=by
  refine QY (by simp) λi h1 h2=>?_;simp[List.getD,NN h1]
 conv=>rhs;rw[e,PN,Op]
 rfl
def LLp(Q:VK)(H:Hp)(NH:List ∅):Prop:=∀(l:Addr) (as:List Addr) (b:Hp),Same H b->H l=none->(∀ a∈as,H a=none)->IsLL b l as NH->Q (.ref l) b
variable{H1:Hp}{NH:List ∅}
def LLp.of(q:LLp Q H NH)(s:Same H H1):LLp Q H1 NH:=λl as b d c e x=>q l as b (s.trans d) (s.free c) (λa h=>s.free (e a h)) x
variable{a:Addr}{xs:∅}
theorem sy {k:Nat} {j:St} {m:TT} {te:TE} {g:Addr->Hp->Prop} (b:Int->Bool) (f:Int->∅) (p:xs.length<=900) (q:SqL K H1 a (xs.map V.int))
  (o:∀ x H R,x∈xs->Same H1 H->(∀ c,Same H c->R (b x) c)->m (j.set k ⇑x) H R)
  (he:∀ x H Q,x∈xs->b x=true->Same H1 H->(∀ a c,Same H c->H a=none->c a=↥((f x).map V.int)->Q (.ref a) c)->te (j.set k ⇑x) H Q)
  (t:LLp (λv H=>∀ l,v=.ref l->g l H) H1 ((xs.filter b).map f)):CompR (Itl K a) (gName k) m te g j H1:=by
 refine qm (xs:=xs.map V.int) (λi=>b (xs.getD i 0)) (λi=>.lst ((f (xs.getD i 0)).map V.int)) (by rw[NM];exact p) q ?_ ?_ ?_
 . intro i x H R h s1 k1;obtain⟨y,d,rfl⟩:=aK h;rw[dU d]at k1;exact o y H R (NS d) s1 k1
 . intro i x H Q h n s1 k1;obtain⟨y,d,rfl⟩:=aK h;rw[dU d]at k1 n;exact he y H Q (NS d) n s1 k1
 . intro l as H r s1 u N;rw[NM]at N
   have e:((List.range xs.length).filter λi=>b (xs.getD i 0)).map (λi=>HO.lst ((f (xs.getD i 0)).map V.int))=((xs.filter b).map f).map λs=>.lst (s.map V.int):=by
    rw[rfmA 0 b (λx=>HO.lst ((f x).map V.int)) xs,Op];rfl
   rw[e]at N;exact t l as H s1 r N.fr (N.ll u) l rfl
variable{x:Int}
def wz(q:∀ a b,Same H b->H a=none->b a=↥(([x]:∅).map V.int)->Q (.ref a) b):([V.int x]:List V).length<=sizeLine/\∀ p,H p=none->Q (.ref p) (upd H p (.lst [V.int x])):=
 ⟨lnR rfl,λp c=>q p _ ((NP H).laid c) c ag⟩
def srtI(xs:∅):∅:=xs.mergeSort (λa b=>decide (a<=b))
theorem C1:∀{xs ys:∅},xs.Perm ys->xs.Pairwise (· <=·)->ys.Pairwise (· <=·)->xs=ys
 | [],ys,p,_,_=>(List.nil_perm.mp p).symm ▸ rfl
 | x::r,[],p,_,_=>absurd p (by simp)
 | x::r,y::t,p,h1,h2=>by
  rw[P9]at h1 h2
  have e:x=y:=by
   rcases N4.mp (p.mem_iff.mp Oa) with e | d
   . exact e
   . rcases N4.mp (p.mem_iff.mpr Oa) with e | c
     . exact e.symm
     . have a:=h2.1 x d;have b:=h1.1 y c;lia
  subst e;rw[C1 (List.Perm.cons_inv p) h1.2 h2.2]
theorem JC{ns:∅}(p:ns.Perm xs)(h:ns.Pairwise (· <=·)):ns=srtI xs:=by
 refine C1 (p.trans (Qw xs _).symm) h ?_;have:=List.pairwise_mergeSort (le:=λa b:Int=>decide (a<=b)) (λa b c h1 h2=>by simp at h1 h2 ⊢;lia) (λa b=>by simp;lia) xs;exact this.imp λh=>Oj h
def srt_mem:x∈srtI xs↔x∈xs:=(Qw xs _).mem_iff
def tW:(srtI xs).length=xs.length:=(Qw xs _).length_eq
variable{p:Addr}
def Bb{ns:∅}(e:H p=↥(ns.map V.int))(c:ns.length<64)(h:∀ l,H l=none->Q (.ref l) (upd H l (.lst ((srtI ns).map V.int)))):gd [.ref p] H Q:=
 Gk e c λf l b d a=>by rw[JC d a];exact h l b
abbrev othA(cs:∅)(z:Int):∅:=cs.filter λx=>!decide (x=z)
def onlM(cs NA:∅)(z s:Int):List ∅:=((srtI (othA cs z)).filter λo=>decide (woI (NA.getD o.toNat 0) s=0)).map λo=>[o]
def lu(K:Frag)(c:RO):Sp:=#[3,∃ k r p A a cs NA n m z s,vs=[.ref r,.ref A,.int z,.int s]/\IsRule H c k r p a cs n m/\aI cs NA.length/\H A=↥(NA.map V.int)/\s<=1000/\LLp Q H (onlM cs NA z s)]
def lw(K:Frag)(c:RO):TS:=#[":jw&--13 sbq~Sa,-bia0a2cch#1 x,~pbadk21a3cta1c"]
variable{c:RO}
theorem zB(h:lu K c vs H Q E):lw K c (eD9 Q) (start ["rule","masks","cell","sign"] vs) H:=by
 obtain⟨k,r,p,A,J,cs,NA,n,m,z,s,rfl,x,d,I,U,q⟩:=h;have P:(othA cs z).length<=cs.length:=N1 _ _;have M:=d.1;exists lw;refine⟨k,r,p,J,cs,n,m,z,rfl,x,M,λl H1 s1 t G=>?_⟩;refine Bb (ns:=othA cs z) G #[4] λB f=>?_;obtain⟨T,u,F,e2⟩:=aP (.lst ((srtI (othA cs z)).map V.int)) f;rw[u];have b:=s1.trans F;refine⟨B,rfl,⟨_,NW e2⟩,?_⟩;refine sy (xs:=srtI (othA cs z)) (λo=>decide (woI (NA.getD o.toNat 0) s=0)) (λo=>[o]) (by rw[tW];lia) (NW e2) ?_ ?_ ?_
 . intro y g R j i k3;have w:=d.2 y (Ol.mp (srt_mem.mp j)).1;show tB _ [none,⇑y,↑A,⇑s] g R;exists ixI ((b.trans i) _ _ I) w.1 #[4] ?_;exists⟨_,s,rfl,by lia,_,rfl,k3 _ (NP _)⟩
 . intro y g L j S i k3;show tLst _ [none,⇑y,↑A,⇑s] g L;exists wz k3
 . exact λl as D N t C v O e=>by cases e;exact q l as D (b.trans N) (b.free t) (λa h=>b.free (C a h)) v
def plaM(g s:Int):List ∅:=((rngL 1 (g+1)).filter λo=>!decide (o=s)).map λo=>[o]
def kq(K:Frag):Sp:=#[3,∃ p h w g s,vs=[.ref p,.int s]/\IsFl H p h w g/\1<=g/\g<=6/\LLp Q H (plaM g s)]
def kr(K:Frag):TS:=#[":jw&--1 'qaef#1 adCdk0ef#2 ef#1 ch#1 mdBb12ta1c"]
theorem yc(h:kq K vs H Q E):kr K (eD9 Q) (start ["floor","sign"] vs) H:=by
 obtain⟨p,h,w,g,s,rfl,f,o,n,q⟩:=h;exists kr;refine ixT f (v:=V.int g) rfl ?_;exists⟨1,g+1,rfl,⟨by lia,by lia,by lia,by lia⟩,?_⟩;refine uq (λi=>!decide (1+(i:Int)=s)) (λi=>.lst (([1+(i:Int)]:∅).map V.int)) #[4] ?_ ?_ ?_
 . intro i a R c b k2;show tTest _ [none,⇑(1+(i:Int)),⇑s] a R;exists k2 _ (NP _)
 . intro i a k c _ b k2;show tLst _ [none,⇑(1+(i:Int)),⇑s] a k;exists wz k2
 . intro l as a d b m N
   have e:((List.range (g+1-1).toNat).filter λ(i:Nat)=>!decide (1+(i:Int)=s)).map (λ(i:Nat)=>HO.lst (([1+(i:Int)]:∅).map V.int))=(plaM g s).map λj=>.lst (j.map V.int):=by
    unfold plaM rngL;rw[PN,Op,Op];rfl
   rw[e]at N;exact q l as a b d N.fr (N.ll m)
def squM(h w z:Int):List ∅:=((squL h w).filter λq=>decide (z∈q)).map λq=>[q.getD 0 0]
def jH(K:Frag):Sp:=#[3,∃ p h w g z,vs=[.ref p,.int z]/\IsFl H p h w g/\FlOk h w g/\LLp Q H (squM h w z)]
def jI(K:Frag):TS:=#[":jw&--1 sb,~?ba0ch#1 mdNbz21tadk1ef#0 c"]
variable{h w g:Int}
theorem GH(F:FlOk h w g):(squL h w).length<=16:=by
 have:=F.m;unfold squL;rw[NM];refine NY (N1 _ _) ?_;rw[OU];lia
theorem wA(h:jH K vs H Q E):jI K (eD9 Q) (start ["floor","cell"] vs) H:=by
 obtain⟨p,h,w,g,z,rfl,u,F,q⟩:=h;have J:=GH F;exists jI;refine⟨p,h,w,g,rfl,u,F,λl as H1 s1 I X D G L=>?_⟩;have o:=X.len;refine⟨l,rfl,⟨_,NW X.top⟩,?_⟩;refine qm (xs:=as.map V.ref) (λi=>decide (z∈(squL h w).getD i [])) (λi=>.lst (([((squL h w).getD i []).getD 0 0]:∅).map V.int)) (by rw[NM];lia) (NW X.top) ?_ ?_ ?_
 . intro i x f R n c k2;obtain⟨b,d,rfl⟩:=bz n;have y:i<as.length:=(NO.mp d).1;have e:(squL h w)[i]? =some (squL h w)[i]:=NN #[4];have k:=c _ _ (X.at_ i b _ d e);have m:(squL h w).getD i []=(squL h w)[i]:=by rw[List.getD,e];rfl
   rw[m]at k2;show tTest _ [none,↑b,⇑z] f R;symm;rw[uQ k];exact⟨_,rfl,k2 _ (NP _)⟩
 . intro i x f t n v c k2;obtain⟨b,d,rfl⟩:=bz n;have y:i<as.length:=(NO.mp d).1;have e:(squL h w)[i]? =some (squL h w)[i]:=NN #[4];have k:=c _ _ (X.at_ i b _ d e);have m:(squL h w).getD i []=(squL h w)[i]:=by rw[List.getD,e];rfl
   rw[m]at k2;obtain⟨j,_,_,C⟩:=xX (On (show i < (squL h w).length by lia));rw[C]at k k2;show tLst _ [none,↑b,⇑z] f t;exists ixI k #[1] (by show(0:Int)<4;decide) ?_;exact wz k2
 . intro T A f r c s N;rw[NM,o,rfmA [] (λq=>decide (z∈q)) (λq=>HO.lst (([q.getD 0 0]:∅).map V.int)) (squL h w)]at N;have e:((squL h w).filter λq=>decide (z∈q)).map (λq=>HO.lst (([q.getD 0 0]:∅).map V.int))=(squM h w z).map λB=>.lst (B.map V.int):=by unfold squM;rw[Op];rfl
   rw[e]at N;exact q T A f (s1.trans c) (s1.free r) (λa h=>s1.free (N.fr a h)) (N.ll s)
def turM(h w z:Int):List ∅:=[]::(besL h w z).map λo=>[o]
def lx(K:Frag):Sp:=#[3,∃ p h w g z,vs=[.ref p,.int z]/\IsFl H p h w g/\FlOk h w g/\LLp Q H (turM h w z)]
def ly(K:Frag):TS:=#[":jdCtatccw&-- sb,~tba0a1ch#1 Dta1c"]
theorem zC(h:lx K vs H Q E):ly K (eD9 Q) (start ["floor","cell"] vs) H:=by
 obtain⟨p,h,w,g,z,rfl,J,F,q⟩:=h;have M:=F.w0;have W:=F.w1;have bl:=uS h w z;exists ly;refine⟨aT #[1],λb v=>?_⟩;obtain⟨H1,n,s1,e1⟩:∃ z,upd H b (.lst [])=z/\Same H z/\z b=↥(([]:∅).map V.int):=aP _ v;rw[n];refine⟨lnR rfl,λZ C=>?_⟩;obtain⟨S,n,A,e2⟩:=aP (.lst [V.ref b]) C;rw[n];have f:=s1.trans A;refine⟨p,h,w,g,z,rfl,f _ _ J,by lia,by lia,λl U u O B=>?_⟩;refine⟨l,rfl,⟨_,NW B⟩,?_⟩;refine sy (xs:=besL h w z) (λ_=>true) (λo=>[o]) #[4] (NW B) ?_ ?_ ?_
 . intro y c R G m k4;exact k4 _ (NP _)
 . intro y c D G P m k4;show tLst _ [none,⇑y] c D;exists wz k4
 . intro T as c m L I X N e;cases e;have d:=f.trans u;have k:=u.trans m;have i:=d.trans m;have s:IsLL c T as ((besL h w z).map λo=>[o]):=by rw[aZ]at X;exact X
   have t:=s.len;rw[NM]at t;exists pc (k _ _ e2) s.top (by simp;lia) λR x=>?_;have r:Same c (upd c R (.lst ([V.ref b]++as.map V.ref))):=(NP c).laid x;refine q R (b::as) _ (i.trans r) (i.free x) (λa h=>?_) ⟨ag,?_,λj a xs h1 h2=>?_⟩
   . rcases N4.mp h with rfl | h
     . exact v
     . exact d.free (I a h)
   . unfold turM;simp[t]
   . cases j with
     | zero=>cases h1;cases h2;exact r _ _ (k _ _ (A _ _ e1))
     | succ j=>exact r _ _ (s.at_ j a xs h1 h2)
def sureA(cs NA:∅)(m z:Int):∅:=(othA cs z).filter λo=>decide (woI (NA.getD o.toNat 0) m=0)
noncomputable def reaM (h w:Int) (cs:∅) (m:Int) (NA:∅) (z s:Int):List ∅:=
 if s=m then((sureA cs NA m z).filter λo=>!rcB h w (thrL cs NA m z++[z]) z o).map λo=>[o]
 else((sureA cs NA m z).filter λo=>!rcB h w (thrL cs NA m z) ((sureA cs NA m z).getD 0 0) o).map λo=>[(sureA cs NA m z).getD 0 0,o]
def kt(K:Frag)(c:RO):Sp:=#[3,∃ k f r p A a cs NA n m z s h w g,vs=[.ref f,.ref r,.ref A,.int z,.int s]/\IsFl H f h w g/\FlOk h w g/\IsRule H c k r p a cs n m/\aI cs NA.length/\cs.length<=60/\H A=↥(NA.map V.int)/\m<=1000/\LLp Q H (reaM h w cs m NA z s)]
def hX(K:Frag)(c:RO):TS:=#[":jw&--86 sb6h#1 mdNbQ12tadk3ef#0 a1c"]
def lL(K:Frag)(c:RO):TS:=#[":gl~mmdBb6tc,~zba0a7adk6ef#0 ctch#8 {:bi"]
def h9(K:Frag)(c:RO):TS:=#[":gnmdrb45gl,~zba0adC7ta3ca3ch#8 jw&--8 sb6h#1 mdNbQ12ta1co{;bi"]
def ku(K:Frag)(c:RO):TS:=#[":glyiE~q~rbi1ch#5 glw&--52 sb,-bia1a3ch#1 x,~pbadk31a2c1h#6 g~i#7 &--52 sb,-bia1a3ch#1 x,~xbadk31a2c1{?bi"]
theorem ninA{cs rs:∅}{st o:Int}(b:H p=↥(rs.map V.int))(a:∀ x,x∈rs↔RC h w cs st x)(q:Q (.bl (!rcB h w cs st o)) H):cIn K true (.int o) (.ref p) H Q:=by
 rw[lS b,A5 (a o)];exact q
def G9{y:Int}(q:∀ a b,Same H b->H a=none->b a=↥(([x,y]:∅).map V.int)->Q (.ref a) b):([V.int x,V.int y]:List V).length<=sizeLine/\∀ p,H p=none->Q (.ref p) (upd H p (.lst [V.int x,V.int y])):=
 ⟨lnR rfl,λp c=>q p _ ((NP H).laid c) c ag⟩
def LLp.fin(q:LLp Q H NH)(s:Same H H1):LLp (λv b=>∀ l,v=.ref l->Q (.ref l) b) H1 NH:=λl as b g d c f i e=>by cases e;exact q l as b (s.trans g) (s.free d) (λa h=>s.free (c a h)) f
variable{z s:Int}{v2:Option V}
theorem t9 {f S T:Addr} {b a:∅} {m:Int} {v1:Option V} (L:IsFl H f h w g) (F:FlOk h w g) (C:H S=↥(b.map V.int)) (J:H T=↥(a.map V.int)) (sn:b.length<=60) (tn:a.length<=60)
  (q:LLp Q H (if s=m then(b.filter λo=>!rcB h w (a++[z]) z o).map λo=>[o] else(b.filter λo=>!rcB h w a (b.getD 0 0) o).map λo=>[b.getD 0 0,o])):
  h9 K c (eD9 Q) [↑f,v1,v2,⇑z,⇑s,⇑m,↑S,↑T,none] H:=by
 have w0:=F.w0;have w1:=F.w1;unfold h9;rw[aB,az];symm;by_cases e:s=m
 . rw[Os e]at q;rw[NT e];exists⟨lnR rfl,λl U=>?_⟩;obtain⟨H1,E,s1,el⟩:=aP (.lst [V.int z]) U;rw[E];refine pc (s1 _ _ J) el (by simp;lia) λY N=>?_;have X:Same H1 (upd H1 Y (.lst (a.map V.int++[V.int z]))):=(NP H1).laid N;have P:(upd H1 Y (.lst (a.map V.int++[V.int z]))) Y=↥((a++[z]).map V.int):=by rw[ag];simp
   generalize upd H1 Y (.lst (a.map V.int++[V.int z]))=H2 at*;have t:=s1.trans X;exists⟨f,Y,h,w,g,z,_,rfl,t _ _ L,by lia,by lia,P,by simp;lia,λp j rs k W A _ B=>?_⟩;have r:=t.trans k;symm;have d:=r _ _ C;refine⟨⟨_,NW d⟩,?_⟩;refine sy (xs:=b) (λo=>!rcB h w (a++[z]) z o) (λo=>[o]) #[4] (NW d) ?_ ?_ (q.fin r)
   . intro y i R u n k4;show tTest _ [none,⇑y,↑p] i R;exists ninA (n _ _ A) B ⟨_,rfl,k4 _ (NP _)⟩
   . intro y i G u Z n k4;show tLst _ [none,⇑y,↑p] i G;exists wz k4
 . rw[Og e]at q;rw[NQ e];symm;unfold lL
   have v:∀(p:Addr) (rs:∅) (j:Hp),Same H j->j p=↥(rs.map V.int)->(b≠[]->∀ x,x∈rs↔RC h w a (b.getD 0 0) x)->hX K c (eD9 Q) [↑f,v1,v2,⇑z,⇑s,⇑m,↑S,↑T,↑p] j:=λp rs j k A B=>by
    have d:=k _ _ C;unfold hX;exists⟨⟨_,NW d⟩,?_⟩;refine sy (xs:=b) (λo=>!rcB h w a (b.getD 0 0) o) (λo=>[b.getD 0 0,o]) #[4] (NW d) ?_ ?_ (q.fin k)
    . intro y i R u n k4;show tTest _ [none,⇑y,↑p,↑S] i R;exists ninA (n _ _ A) (B (List.ne_nil_of_mem u)) ⟨_,rfl,k4 _ (NP _)⟩
    . intro y i G u Z n k4;have:0<b.length:=Rf u;show tLst _ [none,⇑y,↑p,↑S] i G;exists ixI (n _ _ d) #[1] #[4] ?_;exact G9 k4
   exists⟨aT #[1],λO hO=>?_⟩;obtain⟨H1,E,s1,eO⟩:∃ z,upd H O (.lst [])=z/\Same H z/\z O=↥(([]:∅).map V.int):=aP _ hO;rw[E];refine tR (s1 _ _ C) eO ?_;by_cases D:b=[]
   . rw[NT D];refine⟨_,rfl,iteF ?_⟩;refine⟨aT #[1],λM I=>?_⟩;exact v M [] _ (s1.trans ((NP H1).laid I)) ag λh=>absurd D h
   . rw[NQ D];have:0<b.length:=Qx.mpr D;refine⟨_,rfl,iteT ?_⟩;refine ixI (s1 _ _ C) #[1] #[4] ?_;rw[show(0:Int).toNat=0 from rfl];refine⟨f,T,h,w,g,_,_,rfl,s1 _ _ L,by lia,by lia,s1 _ _ J,by lia,λp j rs k W A _ B=>?_⟩;exact v p rs j (s1.trans k) A λ_=>B
theorem yd(h:kt K c vs H Q E):ku K c (eD9 Q) (start ["floor","rule","masks","cell","sign","mark","sure","through","joined"] vs) H:=by
 obtain⟨k,f,r,p,A,D,cs,NA,n,m,z,s,h,w,g,rfl,hf,F,x,a,P,M,hm,q⟩:=h;obtain⟨dx,W,C,h1,h2,h3⟩:=x.ex;have ol:(othA cs z).length<=cs.length:=N1 _ _;ac_nf;unfold ku;rw[aB,bw];refine methE (k:=k) rfl x.ok h1 (by rfl) ?_;exists⟨r,p,D,cs,n,m,rfl,x,?_⟩;exists⟨k,r,p,D,cs,n,m,z,rfl,x,a.1,λO H1 s1 hO L=>?_⟩;refine⟨O,rfl,⟨_,NW L⟩,?_⟩;refine aY (xs:=othA cs z) (λo=>decide (woI (NA.getD o.toNat 0) m=0)) (λo=>o) #[4] (NW L) ?_ ?_ ?_
 . intro y B R l v k2;have i:=a.2 y (Ol.mp l).1;show tB _ [none,⇑y,⇑m,↑A] B R;exists ixI ((s1.trans v) _ _ M) i.1 i.2 ?_;exists⟨_,m,rfl,by lia,_,rfl,k2 _ (NP _)⟩
 . intro y B X l hb v k2;show tVar 1 [none,⇑y,⇑m,↑A] B X;exists k2 _ (NP _)
 . intro S B hS v G;rw[Pa]at G;have j:=s1.trans v;have Z:=x.same j;exists⟨k,r,p,D,cs,n,m,z,rfl,Z,a.1,λN H3 I Y d=>?_⟩;have b:=j.trans I;refine⟨N,rfl,⟨_,NW d⟩,?_⟩;refine aY (xs:=othA cs z) (λo=>stB (NA.getD o.toNat 0) m) (λo=>o) #[4] (NW d) ?_ ?_ ?_
   . intro y u R l e k4;have i:=a.2 y (Ol.mp l).1;show tB _ [none,⇑y,⇑m,↑A] u R;exists ixI ((b.trans e) _ _ M) i.1 i.2 ?_;exists⟨_,m,rfl,_,rfl,k4 _ (NP _)⟩
   . intro y u U l hb e k4;show tVar 1 [none,⇑y,⇑m,↑A] u U;exists k4 _ (NP _)
   . intro T u hT e J;rw[Pa]at J;have t:=b.trans e;have l1:=N1 (λo=>decide (woI (NA.getD o.toNat 0) m=0)) (othA cs z);have l2:=N1 (λo=>stB (NA.getD o.toNat 0) m) (othA cs z);exact t9 (t _ _ hf) F ((I.trans e) _ _ G) J #[4] #[4] (q.of t)
def fewA(cs NA:∅)(z:Int):∅:=(srtI (othA cs z)).filter λo=>decide (((sgL (NA.getD o.toNat 0)).length:Int)<=2)
def paiR(cs few:∅)(a:Int):List ∅:=(few.filter λb=>decide (((cs.findIdx (· ==a):Nat):Int) < ((cs.findIdx (· ==b):Nat):Int))).map λb=>[a,b]
def paiM(cs NA:∅)(z:Int):List ∅:=(fewA cs NA z).flatMap (paiR cs (fewA cs NA z))
def lz(K:Frag)(c:RO):Sp:=#[3,∃ k r p A a cs NA n m z,vs=[.ref r,.ref A,.int z]/\IsRule H c k r p a cs n m/\aI cs NA.length/\cs.length<=16/\H A=↥(NA.map V.int)/\(∀ m∈NA,0<=m/\m<64)/\LLp Q H (paiM cs NA z)]
def iS(K:Frag)(c:RO):TS:=#[":gltch#5 gIsb4h#6 PHbF'w5aw&--63 sb4h#1 md<HbF~sb3a2cHbF~sb3a1cta2a1ccj5"]
def lA(K:Frag)(c:RO):TS:=#[":glyiE~n~obi0ch#3 g~i#4 &--1 sbq~Sa,-bia0a2cch#1 md(qAa,/badk21ccef#2 1{[bi"]
theorem bitsA{m:Int}(a:0<=m)(b:m<64):Builtin.Int.intBits m<=900:=by
 have t:=Oj (Od.mp Ba m.toNat (Oe.mpr #[4]));rw[show((m.toNat:Nat):Int)=m by lia]at t;lia
theorem Bc{cs few:∅}{a:Int}:(paiR cs few a).length<=few.length:=by
 unfold paiR;rw[NM];exact N1 _ _
theorem Be{cs few:∅}:∀ xs:∅,(xs.flatMap (paiR cs few)).length<=xs.length*few.length
 | []=>by simp
 | x::r=>by
  have b:=Be (cs:=cs) (few:=few) r;have:=Bc (cs:=cs) (few:=few) (a:=x);rw[List.flatMap_cons,Oy,OA,Nat.add_mul];lia
theorem ve{S W:Addr}{cs few:∅}{G v1:Option V}(M:H S=↥(cs.map V.int))(m:H W=↥(few.map V.int))(cn:cs.length<=16)(I:few.length<=16)(D:∀ o∈few,o∈cs)(q:LLp Q H (few.flatMap (paiR cs few))):
  iS K c (eD9 Q) [G,v1,v2,↑S,↑W,none,none] H:=by
 unfold iS;exists⟨aT #[1],λF t=>?_⟩;obtain⟨H1,z9,s1,e1⟩:∃ z,upd H F (.lst [])=z/\Same H z/\z F=↥(([]:List Addr).map V.ref):=aP _ t;rw[z9];refine⟨⟨_,NW (s1 _ _ m)⟩,?_⟩;refine bc (K:=K) (xs:=few.map V.int) (λi σ u=>∃(x:Option V) (as:List Addr),σ=[G,v1,v2,↑S,↑W,↑F,x]/\Same H u/\IsLL u F as ((few.take i).flatMap (paiR cs few))/\(∀ a∈as,H a=none)/\F∉as) ⟨none,[],rfl,s1,⟨e1,rfl,λj a xs e _=>by simp at e⟩,(λa l=>by cases l),by simp⟩ (λi σ u _ ⟨_,_,_,s,_⟩=>NW (s _ _ m)) ?_ ?_
 . rintro i v σ J hv ⟨x,as,rfl,g,X,B,r⟩;obtain⟨a,l,rfl⟩:=aK hv;have am:=NS l;have hi:i<few.length:=(NO.mp l).1;have p:=X.len;have Z:=Be (cs:=cs) (few:=few) (few.take i);rw[OL]at Z;have L:min i few.length*few.length<=16*16:=RA #[4] I;exists⟨a7 X.top,⟨_,NW (g _ _ m)⟩,?_⟩;refine sy (xs:=few) (λb=>decide (((cs.findIdx (· ==a):Nat):Int) < ((cs.findIdx (· ==b):Nat):Int))) (λb=>[a,b]) #[4] (NW (g _ _ m)) ?_ ?_ ?_
   . intro y n R E k k3;have d:=(g.trans k) _ _ M;show tTest _ [none,⇑y,⇑a,↑S] n R;exists⟨a7 d,?_⟩;refine kg d (D a am) #[4] ?_;exists⟨a7 d,?_⟩;refine kg d (D y E) #[4] ?_;exists k3 _ (NP _)
   . intro y n Q3 E w k k3;show tLst _ [none,⇑y,⇑a,↑S] n Q3;exists G9 k3
   . intro T A n k hT w Y T' e;cases e;have N:=Bc (cs:=cs) (few:=few) (a:=a);have bl:=Y.len;have Yl:A.length<=16:=by rw[bl];exact NY N I
     refine Gr (k _ _ X.top) Y.top (by rw[NM,NM,p];lia) ?_;have C:∀ b∈A,b≠F:=λb f e=>by have:=w b f;rw[e,X.top]at this;cases this
     refine⟨_,as++A,rfl,(g.trans k).own t,⟨by rw[ag,Pb],?_,λj b xs h1 h2=>?_⟩,λb f=>?_,λO=>?_⟩
     . rw[O7,l,Qv,Oy,Oy,p,bl];simp[paiR]
     . rw[O7,l,Qv]at h2;have e2:(some a).toList.flatMap (paiR cs few)=paiR cs few a:=by simp
       rw[e2]at h2;by_cases U:j<as.length
       . rw[Ow U]at h1;rw[Ow #[4]]at h2;have P:b≠F:=λe=>r (by rw[← e];exact NS h1);rw[ah P];exact k _ _ (X.at_ j b xs h1 h2)
       . rw[Ot #[4]]at h1;rw[Ot #[4],← p]at h2;rw[ah (C b (NS h1))];exact Y.at_ _ b xs h1 h2
     . rcases Of.mp f with h | h
       . exact B b h
       . exact g.free (w b h)
     . rcases Of.mp O with h | h
       . exact r h
       . exact C _ h rfl
 . rintro σ J ⟨x,as,rfl,g,X,B,r⟩;rw[NM,ON]at X;exists q F as J g t B X
theorem zD(h:lz K c vs H Q E):lA K c (eD9 Q) (start ["rule","masks","cell","spots","few","found","first"] vs) H:=by
 obtain⟨k,r,p,A,B,cs,NA,n,m,z,rfl,x,a,Y,T,D,q⟩:=h;obtain⟨dx,Wd,C,h1,h2,h3⟩:=x.ex;have ol:(othA cs z).length<=cs.length:=N1 _ _;exists lA;refine methE (k:=k) rfl x.ok h1 (by rfl) ?_;exists⟨r,p,B,cs,n,m,rfl,x,λS G=>?_⟩;obtain⟨H1,g,s1,I⟩:=aP (.lst (cs.map V.int)) G;rw[g];exists⟨k,r,p,B,cs,n,m,z,rfl,x.same s1,a.1,λl H2 w hl P=>?_⟩;refine Bb (ns:=othA cs z) P #[4] λO i=>?_;obtain⟨H3,g,j,F⟩:=aP (.lst ((srtI (othA cs z)).map V.int)) i;rw[g];have f:=(s1.trans w).trans j;refine⟨O,rfl,⟨_,NW F⟩,?_⟩;refine aY (xs:=srtI (othA cs z)) (λo=>decide (((sgL (NA.getD o.toNat 0)).length:Int)<=2)) (λo=>o) (by rw[tW];lia) (NW F) ?_ ?_ ?_
 . intro y d R v e k4;have t:=a.2 y (Ol.mp (srt_mem.mp v)).1;have u:NA.getD y.toNat 0∈NA:=by rw[List.getD,NN #[4]];exact On _
   show tTest _ [none,⇑y,↑A] d R;exists ixI ((f.trans e) _ _ T) t.1 t.2 ?_;exists⟨_,rfl,bitsA (D _ u).1 (D _ u).2,λU Z X hU L=>?_⟩;symm;rw[bh L,NM];exists k4 _ X
 . intro y d M v hb e k4;show tVar 1 [none,⇑y,↑A] d M;exists k4 _ (NP _)
 . intro W d hW e s;rw[Pa]at s;have b:=(w.trans j).trans e;have N:=N1 (λo=>decide (((sgL (NA.getD o.toNat 0)).length:Int)<=2)) (srtI (othA cs z));rw[tW]at N;exact ve (few:=fewA cs NA z) (b _ _ I) s Y (by unfold fewA;lia) (λo J=>(Ol.mp (srt_mem.mp (Ol.mp J).1)).1) (q.of (s1.trans b))
structure Tho where
 t:TK
 r:Int
 z:Int
 s:Int
 ms:∅
noncomputable def mtF (h w g:Int) (NC:List RR) (NA:∅) (t:TK) (r z s:Int):List ∅:=
 if t=.place then plaM g s else if t=.square then squM h w z else if t=.turn then turM h w z else match NC[r.toNat]? with
  | none=>[[]]
  | some x=>if t=.only then onlM x.cs NA z s else if t=.reach then reaM h w x.cs x.m NA z s else if t=.pair then paiM x.cs NA z else [[]]
structure Lk(H:Hp)(c:RO)(d:RP)(P L G A:Addr)(h w g:Int)(NC:List RR)(cl NA:∅):Prop where
 P:IsPz H c d P L G h w g NC cl
 A:H A=↥(NA.map V.int)
 n:NA.length=(h*w).toNat
 mm:∀ m∈NA,0<=m/\m<2^g.toNat
variable{H':Hp}{d:RP}{P L G A:Addr}{NC:List RR}{cl NA:∅}
def Lk.same(x:Lk H c d P L G A h w g NC cl NA)(s:Same H H'):Lk H' c d P L G A h w g NC cl NA:=⟨x.P.same s,s _ _ x.A,x.n,x.mm⟩
theorem lX(a:1<=g)(b:g<=6):(2:Int)^g.toNat<=64:=by
 have e:g=1\/g=2\/g=3\/g=4\/g=5\/g=6:=by lia
 rcases e with rfl | rfl | rfl | rfl | rfl | rfl <;> decide
def Lk.m64(x:Lk H c d P L G A h w g NC cl NA):∀ m∈NA,0<=m/\m<64:=λm a=>by
 have:=lX x.P.R.F.g0 x.P.R.F.g1;have:=x.mm m a;omega
def jJ(K:Frag)(c:RO)(d:RP):Sp:=#[3,∃ P L G A h w g NC cl NA t r z s,vs=[.ref P,.ref A,.str (tx (tkC t)),.int r,.int z,.int s]/\Lk H c d P L G A h w g NC cl NA/\formB h w g NC t r z s=true/\LLp Q H (mtF h w g NC NA t r z s)]
def gL(K:Frag)(c:RO)(d:RP):TS:=#[":gnmdrb2euv`0j,{]biadkypR~e~fbip0c3a1a4a5cognmdrb2euv`1j,{^bia6adkypR~e~fbip0c3a1a4a5cognmdrb2euv`2j,}abiadkypR~e~fbip0c3a1a4cojtatcc",s!"only",s!"reach",s!"pair"]
def jK(K:Frag)(c:RO)(d:RP):TS:=#[":glypR~C~Dbip0ch#6 gnmdrb2euv`0j,}bba6a5cognmdrb2euv`1j,}cba6a4cognmdrb2euv`2j,}dba6a4co}ebip",s!"place",s!"square",s!"turn"]
variable{t:TK}{r:Int}
theorem Cm(X:Lk H c d P L G A h w g NC cl NA)(hp:IsFl H p h w g)(f:formB h w g NC t r z s=true)(n1:t≠.place)(W:t≠.square)(n3:t≠.turn)(q:LLp Q H (mtF h w g NC NA t r z s)):
  gL K c d (eD9 Q) [↑P,↑A,some (.str (tx (tkC t))),⇑r,⇑z,⇑s,↑p] H:=by
 obtain⟨dx,p0,rs,h1,h2,h3⟩:=X.P.ex;obtain⟨z0,z1,s0,U,NL⟩:=gD f;have hg:=X.P.R.F.g1;unfold mtF at q;rw[Og n1,Og W,Og n3]at q
 have C:t≠.clue->∃ y,0<=r/\NC[r.toNat]? =some y/\goesB t y.k=true:=λhc=>by
  obtain⟨r0,y,m,o,hz⟩:=tV hc NL;exact⟨y,r0,m,o⟩
 unfold gL;rw[aB,az];symm;rw[bx,CV];by_cases e1:t=.only
 . subst e1;obtain⟨y,r0,m,o⟩:=C #[1];have O:=X.P.R.ok y (NS m);have v:aI y.cs NA.length:=by rw[X.n];exact QZ O X.P.R.F
   rw[m]at q;rw[NT rfl];refine iteT ?_;refine methE (k:=.Puzzle) rfl X.P.ok h1 (by rfl) ?_;exists⟨P,L,G,h,w,g,NC,cl,rfl,X.P,λl D i B E Y=>?_⟩;have u:Same H (upd H l (.lst (i.map V.ref))):=(NP H).laid B;generalize upd H l (.lst (i.map V.ref))=H1 at*;have I:=(NO.mp m).1;have S:=Y.len;have x:i[r.toNat]? =some i[r.toNat]:=NN #[4];dsimp only;refine ixL Y.top (iz r0 x) ?_;exists⟨_,_,D,A,_,y.cs,NA,_,_,z,s,rfl,Y.at_ _ _ _ x m,v,u _ _ X.A,by lia,q.of u⟩
 . rw[NQ e1];refine iteF ?_;rw[az];symm;rw[bx,vd];by_cases e2:t=.reach
   . subst e2;obtain⟨y,r0,m,o⟩:=C #[1];have O:=X.P.R.ok y (NS m);have ym:=(O.m0 (yU o)).2;have v:aI y.cs NA.length:=by rw[X.n];exact QZ O X.P.R.F
     rw[m]at q;rw[NT rfl];refine iteT ?_;refine methE (k:=.Puzzle) rfl X.P.ok h1 (by rfl) ?_;exists⟨P,L,G,h,w,g,NC,cl,rfl,X.P,λl D i B E Y=>?_⟩;have u:Same H (upd H l (.lst (i.map V.ref))):=(NP H).laid B;generalize upd H l (.lst (i.map V.ref))=H1 at*;have I:=(NO.mp m).1;have S:=Y.len;have x:i[r.toNat]? =some i[r.toNat]:=NN #[4];dsimp only;refine ixL Y.top (iz r0 x) ?_;exists⟨_,p,_,D,A,_,y.cs,NA,_,_,z,s,h,w,g,rfl,u _ _ hp,X.P.R.F,Y.at_ _ _ _ x m,v,RR.len26 O X.P.R.F,u _ _ X.A,by lia,q.of u⟩
   . rw[NQ e2];refine iteF ?_;symm;rw[az];symm;rw[bx,HZ];by_cases M:t=.pair
     . subst M;obtain⟨y,r0,m,o⟩:=C #[1];have O:=X.P.R.ok y (NS m);have v:aI y.cs NA.length:=by rw[X.n];exact QZ O X.P.R.F
       have T:allK y.k=false:=by revert o;cases y.k <;> intro o <;> first | rfl | (cases o;done)
       have J:y.cs.length<=16:=by
        obtain⟨_,c2,_,_,e⟩:=O.cl.told T;rw[e,NM];exact c2
       rw[m]at q;rw[NT rfl];refine iteT ?_;refine methE (k:=.Puzzle) rfl X.P.ok h1 (by rfl) ?_;exists⟨P,L,G,h,w,g,NC,cl,rfl,X.P,λl D i B E Y=>?_⟩;have u:Same H (upd H l (.lst (i.map V.ref))):=(NP H).laid B;generalize upd H l (.lst (i.map V.ref))=H1 at*;have I:=(NO.mp m).1;have S:=Y.len;have x:i[r.toNat]? =some i[r.toNat]:=NN #[4];dsimp only;refine ixL Y.top (iz r0 x) ?_;exists⟨_,_,D,A,_,y.cs,NA,_,_,z,rfl,Y.at_ _ _ _ x m,v,J,u _ _ X.A,X.m64,q.of u⟩
     . rw[NQ M]
       have Z:LLp Q H [[]]:=by
        cases m:NC[r.toNat]? with
        | none=>rw[m]at q;exact q
        | some y=>
         rw[m]at q;dsimp only at q;rw[Og e1,Og e2,Og M]at q;exact q
       refine iteF ?_;exists⟨aT #[1],λa N=>?_⟩;obtain⟨H1,z9,s1,e1⟩:∃ z,upd H a (.lst [])=z/\Same H z/\z a=↥(([]:∅).map V.int):=aP _ N;rw[z9];refine⟨lnR rfl,λl B=>?_⟩;have u:Same H1 (upd H1 l (.lst [V.ref a])):=(NP H1).laid B;refine Z l [a] _ (s1.trans u) (s1.free B) (λb hb=>by rw[NX.mp hb];exact N) ⟨ag,rfl,λj b xs h1 h2=>?_⟩
       cases j with
       | zero=>cases h1;cases h2;exact u _ _ e1
       | succ j=>simp at h1
theorem wB(h:jJ K c d vs H Q E):jK K c d (eD9 Q) (start ["puzzle","masks","kind","number","cell","sign","floor"] vs) H:=by
 obtain⟨P,L,G,A,h,w,g,NC,cl,NA,t,r,z,s,rfl,X,f,q⟩:=h;obtain⟨i,e,rs,h1,h2,h3⟩:=X.P.ex;exists jK;refine methE (k:=.Puzzle) rfl X.P.ok h1 (by rfl) ?_;exists⟨P,L,G,h,w,g,NC,cl,rfl,X.P,λp a=>?_⟩;symm;rw[az];symm;rw[bx,AU];by_cases e1:t=.place
 . subst e1;rw[NT rfl];unfold mtF at q;rw[Os rfl]at q;exists⟨p,h,w,g,s,rfl,a,X.P.R.F.g0,X.P.R.F.g1,q⟩
 . rw[NQ e1];symm;rw[az];symm;rw[bx,yR];by_cases e2:t=.square
   . subst e2;rw[NT rfl];unfold mtF at q;rw[Og #[1],Os rfl]at q;exists⟨p,h,w,g,z,rfl,a,X.P.R.F,q⟩
   . rw[NQ e2];symm;rw[az];symm;rw[bx,Ia];by_cases b:t=.turn
     . subst b;rw[NT rfl];unfold mtF at q;rw[Og #[1],Og #[1],Os rfl]at q;exists⟨p,h,w,g,z,rfl,a,X.P.R.F,q⟩
     . rw[NQ b];exists Cm X a f e1 e2 b q
def JD:∀ ms∈mtF h w g NC NA t r z s,ms.length<=2:=λms b=>by
 unfold mtF at b
 split at b
 . unfold plaM at b;obtain⟨_,_,rfl⟩:=N9.mp b;simp
 . split at b
   . unfold squM at b;obtain⟨_,_,rfl⟩:=N9.mp b;simp
   . split at b
     . unfold turM at b;rcases N4.mp b with rfl | b
       . simp
       . obtain⟨_,_,rfl⟩:=N9.mp b;simp
     . split at b
       . rw[NX.mp b];simp
       . split at b
         . unfold onlM at b;obtain⟨_,_,rfl⟩:=N9.mp b;simp
         . split at b
           . unfold reaM at b
             split at b <;> (obtain⟨_,_,rfl⟩:=N9.mp b;simp)
           . split at b
             . unfold paiM at b;obtain⟨a,_,b⟩:=List.mem_flatMap.mp b;unfold paiR at b;obtain⟨_,_,rfl⟩:=N9.mp b;simp
             . rw[NX.mp b];simp
noncomputable def faF (h w g:Int) (NC:List RR) (cl NA:∅) (t:TK) (r z s:Int):Option ∅:=(mtF h w g NC NA t r z s).find? λms=>strA h w g NC cl NA t r z s ms
def oW(K:Frag)(c:RO)(d:RP):Sp:=#[3,∃ P L G A h w g NC cl NA t r z s,vs=[.ref P,.ref A,.str (tx (tkC t)),.int r,.int z,.int s]/\Lk H c d P L G A h w g NC cl NA/\formB h w g NC t r z s=true/\
 (faF h w g NC cl NA t r z s=none->∀ H',Same H H'->Q .non H')/\(∀(ms:∅) (T M:Addr) (H':Hp),faF h w g NC cl NA t r z s=some ms->Same H H'->H T=none->H M=none->IsTh H' T M t r z s ms->Q (.ref T) H')]
def oX(K:Frag)(c:RO)(d:RP):TS:=#[":gIsb,}fbipa0a1a2a3a4a5ch#6 glOa2a3a4a5a6ch#7 nx,}gbipa0a1a7cj7ojeZ"]
theorem Cn(h:oW K c d vs H Q E):oX K c d (eD9 Q) (start ["puzzle","masks","kind","number","cell","sign","more","thought"] vs) H:=by
 obtain⟨P,L,G,A,h,w,g,NC,cl,NA,t,r,z,s,rfl,X,f,W,O⟩:=h;exists oX;refine⟨P,L,G,A,h,w,g,NC,cl,NA,t,r,z,s,rfl,X,f,λl as H1 s1 hl fr Y=>?_⟩;have Z:=Y.len;have ml:=JD (h:=h) (w:=w) (g:=g) (NC:=NC) (NA:=NA) (t:=t) (r:=r) (z:=z) (s:=s);unfold faF at W O;generalize mtF h w g NC NA t r z s=NH at*;refine⟨l,rfl,⟨_,NW Y.top⟩,?_⟩;refine bc (K:=K) (xs:=as.map V.ref) (λi σ H'=>∃(M I:Option V),σ=[↑P,↑A,some (.str (tx (tkC t))),⇑r,⇑z,⇑s,M,I]/\Same H1 H'/\∀ ms∈NH.take i,strA h w g NC cl NA t r z s ms=false) ⟨none,none,rfl,NP H1,λms D=>by cases D⟩ (λi σ H' _ ⟨_,_,_,s,_⟩=>NW (s _ _ Y.top)) ?_ ?_
 . rintro i v σ k hv ⟨M,I,rfl,q,a⟩;obtain⟨b,J,rfl⟩:=bz hv;have hi:i<as.length:=(NO.mp J).1;have S:NH[i]? =some NH[i]:=NN #[4];have B:=q _ _ (Y.at_ i b _ J S);have xl:=ml _ (On (show i<NH.length by lia));have et:NH.take (i+1)=NH.take i++[NH[i]]:=by rw[O7,S];rfl
   have e:strA h w g NC cl NA t r z s NH[i]=true->NH.find? (λms=>strA h w g NC cl NA t r z s ms)=some NH[i]:=λht=>by
    rw[Qj];refine⟨ht,i,by lia,rfl,λj hj=>?_⟩;have:=a NH[j] (by rw[List.mem_take_iff_getElem];exact⟨j,by lia,rfl⟩);rw[this];rfl
   generalize NH[i]=ms at*;have x:=fr b (NS J);exists⟨lnR rfl,λT R=>?_⟩;have C:Same k (upd k T (.tup [V.str (tx (tkC t)),V.int r,V.int z,V.int s,V.ref b])):=(NP k).laid R;have N:IsTh (upd k T (.tup [V.str (tx (tkC t)),V.int r,V.int z,V.int s,V.ref b])) T b t r z s ms:=⟨ag,C _ _ B,by lia⟩;generalize upd k T (.tup [V.str (tx (tkC t)),V.int r,V.int z,V.int s,V.ref b])=H3 at*;have p:=s1.trans q;have o:=p.trans C;have U:=X.same o;rw[az];exists⟨P,L,G,A,T,b,h,w,g,NC,cl,NA,t,r,z,s,ms,rfl,⟨U.P,N,U.A,X.n⟩,X.m64,f,λH4 F=>?_⟩
   cases u:strA h w g NC cl NA t r z s ms with
   | true=>
    refine⟨true,rfl,iteT ?_⟩;exists O ms T b H4 (e u) (o.trans F) (p.free R) x (N.same F)
   | false=>
    refine⟨false,rfl,iteF ?_⟩;refine⟨_,_,rfl,(q.trans C).trans F,λy m=>?_⟩;rw[et]at m;rcases Of.mp m with m | m
    . exact a y m
    . rw[NX.mp m];exact u
 . rintro σ k ⟨M,I,rfl,q,a⟩;rw[NM,Z,ON]at a;exists W (List.find?_eq_none.mpr λms D=>by rw[a ms D];exact NV) k (s1.trans q)
def rnF(NC:List RR)(t:TK):∅:=if t=.clue then [0] else((List.range NC.length).filter λi=>goesB t ((NC[i]?.map RR.k).getD .Rule)).map λ(i:Nat)=>(i:Int)
def jL(K:Frag)(c:RO)(d:RP):Sp:=#[3,∃ P L G h w g NC cl t,vs=[.ref P,.str (tx (tkC t))]/\IsPz H c d P L G h w g NC cl/\∀ l H',Same H H'->H l=none->H' l=↥((rnF NC t).map V.int)->Q (.ref l) H']
def jM(K:Frag)(c:RO)(d:RP):TS:=#[":gnmdrb1euv`0jtaef#0 cojw&---1 ~]baypR~e~fbip0cc~Ab#2 :h#1 :h#2 ~Bx,}hbia3a2c1",s!"clue"]
theorem wC(h:jL K c d vs H Q E):jM K c d (eD9 Q) (start ["puzzle","kind"] vs) H:=by
 obtain⟨P,L,G,h,w,g,NC,cl,t,rfl,X,q⟩:=h;obtain⟨I,D,rs,h1,h2,h3⟩:=X.ex;have F:=X.R.n;ac_nf;unfold jM;rw[aB,az];symm;rw[bx,xW];unfold rnF at q;by_cases e:t=.clue
 . rw[Os e]at q;rw[NT e];exists⟨lnR rfl,λl m=>q l _ ((NP H).laid m) m ag⟩
 . rw[Og e]at q;rw[NQ e];symm
   first
   | refine methE (k:=.Puzzle) rfl X.ok h1 (by rfl) ?_
   | (rw[aE];exists methE (k:=.Puzzle) rfl X.ok h1 (by rfl) ?_)
   exists⟨P,L,G,h,w,g,NC,cl,rfl,X,λl y a m z Y=>?_⟩;have u:Same H (upd H l (.lst (a.map V.ref))):=(NP H).laid m;generalize upd H l (.lst (a.map V.ref))=H1 at*;have B:=Y.len;exists⟨l,rfl,⟨_,NW Y.top⟩,?_⟩;refine qk (xs:=a.map V.ref) (λi=>goesB t ((NC[i]?.map RR.k).getD .Rule)) (λi=>.int (i:Int)) (by rw[NM];lia) #[1] (NW Y.top) ?_ ?_ ?_
   . intro i x f R p j k3;obtain⟨b,o,rfl⟩:=bz p;have J:i<a.length:=(NO.mp o).1;have r:NC[i]? =some NC[i]:=NN #[4];have C:=(Y.at_ i b _ o r).same j;rw[r]at k3;show tB _ [none,⇑(i:Int),↑b,some (.str (tx (tkC t)))] f R;exists⟨t,NC[i].k,b,y,_,_,_,_,rfl,e,C,_,rfl,k3 _ (NP _)⟩
   . intro i x f A p o j k3;obtain⟨b,o,rfl⟩:=bz p;show tVar 1 [none,⇑(i:Int),↑b,some (.str (tx (tkC t)))] f A;exists k3 _ (NP _)
   . intro T f v j s;rw[NM,B]at s;refine q T f (u.trans j) (u.free v) ?_;rw[s,Op];rfl
def celF(h w:Int)(NC:List RR)(t:TK)(r:Int):∅:=if t=.clue then rngL 0 (h*w) else match NC[r.toNat]? with
 | none=>[]
 | some x=>srtI x.cs
def jN(K:Frag)(c:RO)(d:RP):Sp:=#[3,∃ P L G h w g NC cl t r,vs=[.ref P,.str (tx (tkC t)),.int r]/\IsPz H c d P L G h w g NC cl/\(t≠.clue->0<=r/\r<NC.length)/\∀ l H',Same H H'->H l=none->H' l=↥((celF h w NC t r).map V.int)->Q (.ref l) H']
def jO(K:Frag)(c:RO)(d:RP):TS:=#[":gnmdrb1euv`0j~Ya,~hbaypR~C~Dbip0cccojq~SayiE~n~obidkypR~e~fbip0c2cc",s!"clue"]
theorem wD(h:jN K c d vs H Q E):jO K c d (eD9 Q) (start ["puzzle","kind","number"] vs) H:=by
 obtain⟨P,L,G,h,w,g,NC,cl,t,r,rfl,X,J,q⟩:=h;obtain⟨dx,W,rs,h1,h2,h3⟩:=X.ex;have F:=X.R.F;have M:=F.m;have v:0<=h*w:=Pm (by have:=F.h0;lia) (by have:=F.w0;lia);ac_nf;unfold jO;rw[aB,az];symm;rw[bx,xW];unfold celF at q;by_cases f:t=.clue
 . rw[Os f]at q;rw[NT f];exists methE (k:=.Puzzle) rfl X.ok h1 (by rfl) ?_;exists⟨P,L,G,h,w,g,NC,cl,rfl,X,λp N=>?_⟩;exists⟨p,h,w,g,rfl,N,F.h0,F.h1,?_⟩;exact⟨h*w,rfl,by lia,by lia,λl i=>q l _ ((NP H).laid i) i ag⟩
 . obtain⟨r0,r1⟩:=J f;have j:NC[r.toNat]? =some NC[r.toNat]:=NN #[4];rw[Og f,j]at q;have O:=X.R.ok _ (NS j);have yl:=RR.len26 O F;rw[NQ f];symm
   first
   | refine methE (k:=.Puzzle) rfl X.ok h1 (by rfl) ?_
   | (rw[aE];exists methE (k:=.Puzzle) rfl X.ok h1 (by rfl) ?_)
   exists⟨P,L,G,h,w,g,NC,cl,rfl,X,λl C a i D Y=>?_⟩;have x:Same H (upd H l (.lst (a.map V.ref))):=(NP H).laid i;generalize upd H l (.lst (a.map V.ref))=H1 at*;have NJ:=Y.len;have s:a[r.toNat]? =some a[r.toNat]:=NN #[4];have y:=Y.at_ _ _ _ s j;generalize a[r.toNat]=b at*;obtain⟨A,Wy,Cy,S,y2,Z⟩:=y.ex;dsimp only;refine ixL Y.top (iz r0 s) ?_;refine⟨b,NC[r.toNat].k,A,_,rfl,y.ok,S,by rfl,?_⟩;exists⟨b,C,_,_,_,_,rfl,y,λl2 n=>?_⟩;obtain⟨T,B,u,U⟩:=aP (.lst (NC[r.toNat].cs.map V.int)) n;rw[B];refine Bb U #[4] λz e=>?_;have I:=(x.trans u).trans ((NP T).laid (o:=.lst ((srtI NC[r.toNat].cs).map V.int)) e);exact q z _ I ((x.trans u).free e) ag
structure IsBk(H:Hp)(l:Addr)(bs Ms:List Addr)(NI:List Tho):Prop where
 top:H l=↥(bs.map V.ref)
 len:bs.length=NI.length
 lnM:Ms.length=NI.length
 nl:l∉Ms
 at_:∀(i:Nat) (b M:Addr) (th:Tho),bs[i]? =some b->Ms[i]? =some M->NI[i]? =some th->IsTh H b M th.t th.r th.z th.s th.ms
variable{l:Addr}{Ms:List Addr}{NI:List Tho}
def IsBk.same{bs:List Addr}(x:IsBk H l bs Ms NI)(s:Same H H'):IsBk H' l bs Ms NI:=⟨s _ _ x.top,x.len,x.lnM,x.nl,λi b M a h1 h2 h3=>(x.at_ i b M a h1 h2 h3).same s⟩
def IsBk.nil(h:H l=some (.lst [])):IsBk H l [] [] []:=⟨h,rfl,rfl,by simp,λi b M a e _ _=>by simp at e⟩
theorem IsBk.app{T M:Addr}{bs:List Addr}{th:Tho}(x:IsBk H l bs Ms NI)(s:Same H H')(y:IsTh H' T M th.t th.r th.z th.s th.ms)(f:M≠l):IsBk (upd H' l (.lst (bs.map V.ref++[V.ref T]))) l (bs++[T]) (Ms++[M]) (NI++[th]):=by
 have e:=s _ _ x.top;have d:∀{b N:Addr} {t:Tho},IsTh H' b N t.t t.r t.z t.s t.ms->N≠l->IsTh (upd H' l (.lst (bs.map V.ref++[V.ref T]))) b N t.t t.r t.z t.s t.ms:=λz j=>⟨by rw[ah (λc=>by have:=z.T;rw[c,e]at this;cases this)];exact z.T,by rw[ah j];exact z.M,z.n⟩;have k:=x.len;have g:=x.lnM;refine⟨by rw[ag];simp,by simp[k],by simp[g],λa=>?_,λi b N t h1 h2 h3=>?_⟩
 . rcases Of.mp a with a | a
   . exact x.nl a
   . exact f (NX.mp a).symm
 . by_cases h:i<NI.length
   . rw[Ow #[4]]at h1;rw[Ow #[4]]at h2;rw[Ow h]at h3;exact d ((x.at_ i b N t h1 h2 h3).same s) λc=>x.nl (by rw[← c];exact NS h2)
   . rw[Ot #[4]]at h1 h2 h3;have m:i-NI.length=0:=by have:=(NO.mp h3).1;simp at this;lia
     rw[m]at h3;rw[show i-bs.length=0 by lia]at h1;rw[show i-Ms.length=0 by lia]at h2;cases h1;cases h2;cases h3;exact d y f
def BkP(Q:VK)(H:Hp)(NI:List Tho):Prop:=∀(l:Addr) (a Ms:List Addr) (H':Hp),Same H H'->H l=none->(∀ b∈a,H b=none)->(∀ M∈Ms,H M=none)->IsBk H' l a Ms NI->Q (.ref l) H'
def BkP.of(q:BkP Q H NI)(s:Same H H1):BkP Q H1 NI:=λl c Ms H' f a e d x=>q l c Ms H' (s.trans f) (s.free a) (λb h=>s.free (e b h)) (λb h=>s.free (d b h)) x
structure MkP(g:Int)(n:Nat)(ms:∅):Prop where
 len:ms.length=n
 mm:∀ m∈ms,0<=m/\m<2^g.toNat
theorem Ib:((List.range 64).all λm=>(List.range 6).all λs=>decide (0<=woI (m:Int) (1+(s:Int))/\woI (m:Int) (1+(s:Int))<=m)&&((List.range 6).all λx=>decide (x=s)||decide (stB (woI (m:Int) (1+(s:Int))) (1+(x:Int))=stB (m:Int) (1+(x:Int))))&&(!stB (m:Int) (1+(s:Int))||decide ((sgL (woI (m:Int) (1+(s:Int)))).length+1=(sgL (m:Int)).length)))=true:=by decide+kernel
theorem Bf{m:Int}(f:0<=m)(g:m<64)(s0:1<=s)(b:s<=6):(0<=woI m s/\woI m s<=m)/\(∀ x,1<=x->x<=6->x≠s->stB (woI m s) x=stB m x)/\(stB m s=true->(sgL (woI m s)).length+1=(sgL m).length):=by
 have t:=Od.mp (Od.mp Ib m.toNat (Oe.mpr #[4])) (s-1).toNat (Oe.mpr #[4]);rw[show((m.toNat:Nat):Int)=m by lia,show 1+(((s-1).toNat:Nat):Int)=s by lia,OB,OB]at t;refine⟨Oj t.1.1,λx d e c=>?_,λa=>?_⟩
 . have:=Od.mp t.1.2 (x-1).toNat (Oe.mpr #[4]);rw[show 1+(((x-1).toNat:Nat):Int)=x by lia,NQ #[4],O3]at this;exact Oj this
 . have:=t.2;rw[a,PF,O3]at this;exact Oj this
theorem Ic:((List.range 7).all λg=>(List.range 64).all λm=>!decide ((m:Int)<2^g)||(sgL (m:Int)).all λx=>decide (1<=x/\x<=(g:Int)))=true:=by decide+kernel
theorem Fy{m:Int}(b:1<=g)(c:g<=6)(e:0<=m)(d:m<2^g.toNat)(a:x∈sgL m):1<=x/\x<=g:=by
 have p:=lX b c;have t:=Od.mp (Od.mp Ic g.toNat (Oe.mpr #[4])) m.toNat (Oe.mpr #[4]);rw[show((m.toNat:Nat):Int)=m by lia,NT d,PF,O3]at t;have:=Oj (Od.mp t x a);lia
variable{ms:∅}
theorem Fz{k:Nat}(a:k<ms.length):(stL ms z s).getD k 0=if (k:Int)=z then woI (ms.getD k 0) s else ms.getD k 0:=by
 unfold stL;rw[List.getD,NR,OQ a];rfl
theorem Id:(stL ms z s).length=ms.length:=by unfold stL;rw[NM,OU]
theorem kx{k:Nat}(a:k<ms.length):ms.getD k 0∈ms:=by rw[List.getD,NN a];exact On _
variable{n:Nat}
theorem MkP.stL(X:MkP g n ms)(c:1<=g)(e:g<=6)(s0:1<=s)(d:s<=6):MkP g n (stL ms z s):=by
 have p:=lX c e;refine⟨by rw[Id];exact X.len,λm a=>?_⟩;unfold L2.stL at a;obtain⟨i,f,rfl⟩:=N9.mp a;have b:=X.mm _ (kx (Oe.mp f))
 split
 . have:=(Bf (s:=s) b.1 #[4] s0 d).1;lia
 . exact b
def Lk.mkp(x:Lk H c d P L G A h w g NC cl NA):MkP g (h*w).toNat NA:=⟨x.n,x.mm⟩
def RuOk(NC:List RR)(t:TK)(r:Int):Prop:=(t=.clue->r=0)/\(t≠.clue->0<=r/\∃ x,NC[r.toNat]? =some x/\goesB t x.k=true)
theorem Ha(h:r∈rnF NC t):RuOk NC t r:=by
 unfold rnF at h;by_cases a:t=.clue
 . rw[Os a]at h;exact⟨λ_=>NX.mp h,λn=>absurd a n⟩
 . rw[Og a]at h;obtain⟨i,b,rfl⟩:=N9.mp h;obtain⟨b,c⟩:=Ol.mp b;have d:=Oe.mp b;have e:NC[i]? =some NC[i]:=NN d;refine⟨λn=>absurd n a,λ_=>⟨by lia,NC[i],by rw[Pq];exact e,?_⟩⟩;rw[e]at c;exact c
theorem Bg(R:ie c h w g NC)(i:RuOk NC t r)(e:z∈celF h w NC t r)(s0:1<=s)(s1:s<=g):formB h w g NC t r z s=true:=by
 have a:(0<=z/\z<h*w)/\hitB t NC r z=true:=by
  unfold celF at e;unfold hitB;by_cases b:t=.clue
  . rw[Os b]at e;rw[i.1 b,Og #[1],Os b];exact⟨tU e,rfl⟩
  . obtain⟨r0,x,f,j⟩:=i.2 b;rw[Og b,f]at e;have d:=srt_mem.mp e;have k:=(QZ (R.ok x (NS f)) R.F).2 z d;rw[Og #[4],Og b,f];refine⟨by lia,?_⟩;dsimp only;rw[j,NT d];rfl
 unfold formB;rw[NT a.1.1,NT a.1.2,NT s0,NT s1,a.2];rfl
noncomputable def fbS (h w g:Int) (NC:List RR) (cl:∅) (t:TK) (r z:Int) (nb:∅ × List Tho) (s:Int):∅ × List Tho:=match faF h w g NC cl nb.1 t r z s with
 | none=>nb
 | some ms=>(stL nb.1 z s,nb.2++[⟨t,r,z,s,ms⟩])
noncomputable def fbC (h w g:Int) (NC:List RR) (cl:∅) (t:TK) (r:Int) (nb:∅ × List Tho) (z:Int):∅ × List Tho:=(sgL (nb.1.getD z.toNat 0)).foldl (fbS h w g NC cl t r z) nb
noncomputable def fbL (h w g:Int) (NC:List RR) (cl:∅) (t:TK) (r:Int):∅->∅ × List Tho->List Tho
 | [],nb=>nb.2
 | z::zs,nb=>if 0∈(fbC h w g NC cl t r nb z).1 then(fbC h w g NC cl t r nb z).2 else fbL h w g NC cl t r zs (fbC h w g NC cl t r nb z)
noncomputable def fbF (h w g:Int) (NC:List RR) (cl NA:∅) (t:TK) (r:Int):List Tho:=fbL h w g NC cl t r (celF h w NC t r) (NA,[])
variable{nb:∅ × List Tho}
theorem JE(X:MkP g n nb.1)(a:1<=g)(c:g<=6)(s0:1<=s)(b:s<=6):MkP g n (fbS h w g NC cl t r z nb s).1:=by
 unfold fbS
 split
 . exact X
 . exact X.stL a c s0 b
def iT(K:Frag)(c:RO)(d:RP):Sp:=#[3,∃ P L G A h w g NC cl NA t r,vs=[.ref P,.ref A,.str (tx (tkC t)),.int r]/\Lk H c d P L G A h w g NC cl NA/\RuOk NC t r/\BkP Q H (fbF h w g NC cl NA t r)]
def fbin(K:Frag)(c:RO)(d:RP):TS:=#[":Isb,/badk46ch#7 gl,}ibipa0a4a2a3a6a7ch#8 nmd}j8eZgPHbFT5a8cl,'yba4a6a7ch#4 o"]
def iU(K:Frag)(c:RO)(d:RP):TS:=#[":glq~la1ch#4 gltch#5 gIsb,}kbipa0a2a3ch#6 g}lbipnx,~Pba4cj5oj5"]
structure Fb(H0 H:Hp)(c:RO)(d:RP)(P L G N B:Addr)(bs Ms:List Addr)(h w g:Int)(NC:List RR)(cl:∅)(nb:∅ × List Tho):Prop where
 sm:Same H0 H
 pz:IsPz H0 c d P L G h w g NC cl
 nw:H N=↥(nb.1.map V.int)
 mp:MkP g (h*w).toNat nb.1
 bk:IsBk H B bs Ms nb.2
 nB:N≠B
 fB:H0 B=none
 fb:∀ b∈bs,H0 b=none
 fM:∀ M∈Ms,H0 M=none
variable{H0:Hp}
def Fb.same{N B:Addr}{bs:List Addr}(X:Fb H0 H c d P L G N B bs Ms h w g NC cl nb)(t:Same H H'):Fb H0 H' c d P L G N B bs Ms h w g NC cl nb:=⟨X.sm.trans t,X.pz,t _ _ X.nw,X.mp,X.bk.same t,X.nB,X.fB,X.fb,X.fM⟩
def Fb.lk{N B:Addr}{bs:List Addr}(X:Fb H0 H c d P L G N B bs Ms h w g NC cl nb):Lk H c d P L G N h w g NC cl nb.1:=⟨X.pz.same X.sm,X.nw,X.mp.len,X.mp.mm⟩
theorem FA{α:Type}{f:α->Int->α}{x:α}{a:∅}{i:Nat}(e:a[i]? =some s):(a.take (i+1)).foldl f x=f ((a.take i).foldl f x) s:=by
 rw[O7,e,Pp];rfl
theorem Ie:(fbS h w g NC cl t r z nb s).2.length<=nb.2.length+1:=by
 unfold fbS
 split
 . lia
 . simp
theorem Bh{m:Int}(a:0<=m)(b:m<64):(sgL m).length<=6:=by
 have t:=Oj (Od.mp Ba m.toNat (Oe.mpr #[4]));rw[show((m.toNat:Nat):Int)=m by lia]at t;unfold sgL;rw[NM];refine NY (N1 _ _) ?_;rw[OU];exact t
variable{D:Ends}
theorem GI {N B:Addr} {bs:List Addr} {y x:Option V} (X:Fb H0 H c d P L G N B bs Ms h w g NC cl nb) (ok:RuOk NC t r) (hz:z∈celF h w NC t r) (bl:nb.2.length<=800) {C:Addr} {cs:∅} (eC:H C=↥(cs.map V.int)) (ab:C≠B)
  (k:∀(n:Addr) (a j:List Addr) (y x:Option V) (H':Hp),Fb H0 H' c d P L G n B a j h w g NC cl (fbC h w g NC cl t r nb z)->H' C=↥(cs.map V.int)->(fbC h w g NC cl t r nb z).2.length<=nb.2.length+6->D.nx [↑P,↑A,some (.str (tx (tkC t))),⇑r,↑n,↑B,⇑z,y,x] H'):
  fbin K c d D [↑P,↑A,some (.str (tx (tkC t))),⇑r,↑N,↑B,⇑z,y,x] H:=by
 have W:=X.pz.R.F.g0;have g6:=X.pz.R.F.g1;have ai:=lX W g6;have zf:=gD (Bg (s:=1) X.pz.R ok hz #[1] W);have nl:=X.mp.len;have U:=X.mp.mm _ (kx (k:=z.toNat) (ms:=nb.1) #[4]);have sb:∀ s∈sgL (nb.1.getD z.toNat 0),1<=s/\s<=g:=λs Q=>Fy W g6 U.1 U.2 Q;have af:=Bh U.1 #[4];unfold fbin;exists ixI X.nw zf.1 #[4] ?_;symm;unfold fbC at k;refine⟨_,rfl,bitsA U.1 #[4],λS H1 s1 hS eS=>?_⟩;generalize sgL (nb.1.getD z.toNat 0)=ss at*;refine⟨S,rfl,⟨_,NW eS⟩,?_⟩
 refine bc (K:=K) (xs:=ss.map V.int) (λi σ H'=>∃(n:Addr) (a j:List Addr) (y x:Option V),σ=[↑P,↑A,some (.str (tx (tkC t))),⇑r,↑n,↑B,⇑z,y,x]/\Fb H0 H' c d P L G n B a j h w g NC cl ((ss.take i).foldl (fbS h w g NC cl t r z) nb)/\H' S=↥(ss.map V.int)/\H' C=↥(cs.map V.int)/\((ss.take i).foldl (fbS h w g NC cl t r z) nb).2.length<=nb.2.length+i)
  ⟨N,bs,Ms,_,_,rfl,X.same s1,eS,s1 _ _ eC,NZ _⟩ (λi σ H' _ ⟨_,_,_,_,_,_,_,e,_⟩=>NW e) ?_ ?_
 . rintro i v σ H2 hv ⟨n,a,j,y,x,rfl,l,E,q,l2⟩;obtain⟨s,Q,rfl⟩:=aK hv;have hi:i<ss.length:=(NO.mp Q).1;have sm:=sb s (NS Q);rw[FA Q];generalize (ss.take i).foldl (fbS h w g NC cl t r z) nb=n2 at*;have f:=Bg (s:=s) X.pz.R ok hz sm.1 sm.2;have l3:=Ie (h:=h) (w:=w) (g:=g) (NC:=NC) (cl:=cl) (t:=t) (r:=r) (z:=z) (s:=s) (nb:=n2);have o3:=JE (h:=h) (w:=w) (NC:=NC) (cl:=cl) (t:=t) (r:=r) (z:=z) l.mp W g6 sm.1 #[4];exists⟨P,L,G,n,h,w,g,NC,cl,n2.1,t,r,z,s,rfl,l.lk,f,λe O u=>?_,λms T M O e u hT hM Th=>?_⟩
   . have e2:fbS h w g NC cl t r z n2 s=n2:=by unfold fbS;rw[e]
     rw[e2];symm;rw[az];exists⟨n,a,j,_,_,rfl,l.same u,u _ _ E,u _ _ q,by lia⟩
   . have e2:fbS h w g NC cl t r z n2 s=(stL n2.1 z s,n2.2++[⟨t,r,z,s,ms⟩]):=by unfold fbS;rw[e]
     rw[e2]at l3 o3;rw[e2];have Z:=l.same u;have ac:M≠B:=λI=>by rw[I,l.bk.top]at hM;cases hM
     have b2:=l.bk.len;have aa:S≠B:=λI=>by rw[I,X.bk.top]at hS;cases hS
     symm;rw[az];symm;rw[NQ (λI=>by cases I)];exists⟨a7 Z.bk.top,?_⟩;rw[db Z.bk.top];refine⟨by rw[NM];exact aC #[4],?_⟩;have Bk:=l.bk.app (th:=⟨t,r,z,s,ms⟩) u Th ac;have s4:=Z.sm.own (o:=.lst (a.map V.ref++[V.ref T])) X.fB;have n4:(upd O B (.lst (a.map V.ref++[V.ref T]))) n=↥(n2.1.map V.int):=by rw[ah l.nB];exact Z.nw
     have S4:(upd O B (.lst (a.map V.ref++[V.ref T]))) S=↥(ss.map V.int):=by rw[ah aa];exact u _ _ E
     have C4:(upd O B (.lst (a.map V.ref++[V.ref T]))) C=↥(cs.map V.int):=by rw[ah ab];exact u _ _ q
     generalize upd O B (.lst (a.map V.ref++[V.ref T]))=H4 at*;exists⟨n,n2.1,z,s,rfl,n4,by have:=l.mp.len;have:=X.pz.R.F.m;lia,by lia,λN3 H5 Y J ad=>?_⟩;refine⟨N3,a++[T],j++[M],_,_,rfl,⟨s4.trans Y,X.pz,ad,o3,Bk.same Y,λI=>?_,X.fB,λb p=>?_,λb p=>?_⟩,Y _ _ S4,Y _ _ C4,NY l3 #[4]⟩
     . rw[I,Bk.top]at J;cases J
     . rcases Of.mp p with p | p
       . exact l.fb b p
       . rw[NX.mp p];exact l.sm.free hT
     . rcases Of.mp p with p | p
       . exact l.fM b p
       . rw[NX.mp p];exact l.sm.free hM
 . rintro σ H2 ⟨n,a,j,y,x,rfl,l,E,q,l2⟩;rw[NM,ON]at l l2;exact k n a j y x H2 l q #[4]
theorem Ig(R:ie c h w g NC):(celF h w NC t r).length<=60:=by
 have:=R.F.m;unfold celF
 split
 . rw[iy];lia
 . split
   . simp
   . rename_i x e
     rw[tW];exact RR.len26 (R.ok x (NS e)) R.F
theorem vf(h:iT K c d vs H Q E):iU K c d (eD9 Q) (start ["puzzle","masks","kind","number","now","book","cell","sign","thought"] vs) H:=by
 obtain⟨P,L,G,A,h,w,g,NC,cl,NA,t,r,rfl,X,ok,q⟩:=h;ac_nf;have ab:=Ig (t:=t) (r:=r) X.P.R;unfold iU;exists rN X.A λN hN=>?_;obtain⟨H1,z9,s1,S⟩:=aP (.lst (NA.map V.int)) hN;rw[z9];exists⟨aT #[1],λB I=>?_⟩;have s2:Same H1 (upd H1 B (.lst [])):=(NP H1).laid I;have eB:(upd H1 B (.lst [])) B=some (.lst []):=ag;have J:N≠B:=λe=>by rw[e]at S;rw[S]at I;cases I
 generalize upd H1 B (.lst [])=H2 at*;have n:=s1.trans s2;have X0:Fb H H2 c d P L G N B [] [] h w g NC cl (NA,[]):=⟨n,X.P,s2 _ _ S,X.mkp,IsBk.nil eB,J,s1.free I,(λb T=>by cases T),(λb T=>by cases T)⟩;refine⟨P,L,G,h,w,g,NC,cl,t,r,rfl,X.P.same n,λhc=>?_,λC H3 s3 Z eC=>?_⟩
 . obtain⟨r0,x,ex,_⟩:=ok.2 hc;have:=(NO.mp ex).1;lia
 . have W:C≠B:=λe=>by rw[e,eB]at Z;cases Z
   unfold fbF at q;have aa:∀ z∈celF h w NC t r,z∈celF h w NC t r:=λz o=>o;generalize O:celF h w NC t r=cs at*;refine⟨C,rfl,⟨_,NW eC⟩,?_⟩
   refine bc (K:=K) (xs:=cs.map V.int) (λi σ H'=>∃(y:Addr) (a f:List Addr) (U F D:Option V) (nb:∅ × List Tho),σ=[↑P,↑A,some (.str (tx (tkC t))),⇑r,↑y,↑B,U,F,D]/\Fb H H' c d P L G y B a f h w g NC cl nb/\H' C=↥(cs.map V.int)/\fbL h w g NC cl t r cs (NA,[])=fbL h w g NC cl t r (cs.drop i) nb/\nb.2.length<=6*i)
    ⟨N,[],[],none,none,none,(NA,[]),rfl,X0.same s3,eC,rfl,NZ _⟩ (λi σ H' _ ⟨_,_,_,_,_,_,_,_,_,e,_⟩=>NW e) ?_ ?_
   . rintro i v σ H4 hv ⟨y,a,f,U,F,D,nb,rfl,k,u,p,bl⟩;obtain⟨z,o,rfl⟩:=aK hv;have hi:i<cs.length:=(NO.mp o).1;have zm:z∈celF h w NC t r:=by rw[O];exact NS o
     have ed:cs.drop i=z::cs.drop (i+1):=by
      rw[Pj hi]
      congr 1
      exact(NO.mp o).2
     rw[ed]at p;exists GI k ok zm #[4] u W λY s m F D H5 l M l5=>?_;have j:fbL h w g NC cl t r cs (NA,[])=if 0∈(fbC h w g NC cl t r nb z).1 then(fbC h w g NC cl t r nb z).2 else fbL h w g NC cl t r (cs.drop (i+1)) (fbC h w g NC cl t r nb z):=p;generalize fbC h w g NC cl t r nb z=n5 at*;symm;rw[az];exists⟨Y,n5.1,rfl,l.nw,?_⟩;by_cases h0:(0:Int)∈n5.1
     . rw[Os h0]at j;rw[NT h0];refine⟨true,rfl,iteT ?_⟩;symm;rw[j]at q;exact q B s m H5 l.sm l.fB l.fb l.fM l.bk
     . rw[Og h0]at j;rw[NQ h0];refine⟨false,rfl,iteF ?_⟩;exact⟨Y,s,m,_,_,_,n5,rfl,l,M,j,by lia⟩
   . rintro σ H4 ⟨y,a,f,U,F,D,nb,rfl,k,u,p,bl⟩;rw[NM,Qk]at p;symm;rw[p]at q;exact q B a f H4 k.sm k.fB k.fb k.fM k.bk
theorem Same.sqt{xs:List V}(e:Same H H')(h:SqT K H a xs):SqT K H' a xs:=by
 rcases h with (h | ⟨o,h⟩) | h
 . exact .inl (.inl (e _ _ h))
 . exact .inl (.inr ⟨o,e _ _ h⟩)
 . exact .inr h
theorem FB {k:Nat} {q:TT} {te:TE} {g:Addr->Hp->Prop} {d:St} {xs:List Str} (b:Str->Bool) (C:xs.length<=900) (u:SqT K H1 a (xs.map V.str))
  (w:∀ x H R,x∈xs->Same H1 H->(∀ H',Same H H'->R (b x) H')->q (d.set k (some (.str x))) H R)
  (he:∀ x H Q,x∈xs->b x=true->Same H1 H->(∀ H',Same H H'->Q (.str x) H')->te (d.set k (some (.str x))) H Q)
  (B:∀ l H,H1 l=none->Same H1 H->H l=↥((xs.filter b).map V.str)->g l H):CompR (Itt K a) (gName k) q te g d H1:=by
 refine AG (xs:=xs.map V.str) (λl i σ H=>(σ=d\/∃ t,σ=d.set k t)/\Same H1 H/\H l=↥(((xs.take i).filter b).map V.str)) (λl h=>⟨.inl rfl,(NP H1).laid h,by rw[ag];rfl⟩) (λl i σ H _ _ p=>p.2.1.sqt u) ?_ (λl σ H h p=>B l H h p.2.1 (by have:=p.2.2;rw[NM,ON]at this;exact this));rintro l i x σ H h s ⟨A,s1,v⟩;rw[NR]at s;obtain⟨z,j,rfl⟩:=OT.mp s;have E:i<xs.length:=(NO.mp j).1;have o:xs.take (i+1)=xs.take i++[z]:=by rw[O7,j];rfl
 rw[aL]
 have e:σ.set k (some (.str z))=d.set k (some (.str z)):=by
  rcases A with rfl | ⟨t,rfl⟩
  . rfl
  . exact Pk ..
 rw[e];refine w z H _ (NS j) s1 λy r=>?_;have f:=r _ _ v;have c:=s1.trans r
 cases m:b z with
 | false=>
  rw[Og NV];refine⟨.inr ⟨_,rfl⟩,c,?_⟩;rw[o,Oz,OI,m]
  simpa using f
 | true=>
  rw[Os rfl];refine he z y _ (NS j) m c λD n=>⟨_,n _ _ f,?_,.inr ⟨_,rfl⟩,(c.trans n).own h,?_⟩
  . rw[NM];exact aC (NY (N1 _ _) (by rw[OL];lia))
  . rw[ag,o,Oz,OI,m];simp
def dBk(th:Tho):PyData:=dTh th.t th.r th.z th.s th.ms
theorem Hc{bs:List Addr}(x:IsBk H l bs Ms NI):DV K H (.ref l) (.list (NI.map dBk)):=by
 have h:=x.len;have f:=x.lnM;refine .lst (NW x.top) (DVs.of_get (by simp[x.len]) λi y d h1 h2=>?_);obtain⟨a,c,rfl⟩:=bz h1;rw[NR]at h2;obtain⟨e,b,rfl⟩:=OT.mp h2;have g:i<NI.length:=(NO.mp b).1;exact J6 (x.at_ i a _ e c (NN #[4]) b)
theorem C2(t:TK)(r z s:Int)(ms:∅):PyData.canLay0 (dTh t r z s ms)=true/\PyData.depth (dTh t r z s ms)<=2:=by
 have a:PyData.strOk (tx (tkC t))=true:=Ad (by cases t <;> decide);unfold dTh;simp[PyData.canLay0,PyData.canLayAll0,a,mj,PyData.depth,PyData.depthAll,jd]
theorem nS(NI:List Tho):SeqAt.shaped (.list (NI.map dBk))=true:=by
 have h1:PyData.canLayAll0 (NI.map dBk)=true:=pb λd a=>by obtain⟨x,_,rfl⟩:=N9.mp a;exact(C2 _ _ _ _ _).1
 have h2:PyData.depthAll (NI.map dBk)<=2:=kR λd a=>by obtain⟨x,_,rfl⟩:=N9.mp a;exact(C2 _ _ _ _ _).2
 simp[SeqAt.shaped,PyData.canLay0,h1,PyData.depth];lia
theorem C5(NI:List Tho):PyData.eqv (.list (NI.map dBk)) (.list [])=decide (NI.length=0):=by
 cases NI <;> simp[PyData.eqv,PyData.eqvAll]
theorem JF{E:Addr}{bs:List Addr}(x:IsBk H l bs Ms NI)(e:H E=some (.lst []))(q:Q (.bl (!decide (NI.length=0))) H):cNe K (.ref l) (.ref E) H Q:=by
 show rNeD K (.ref l) (.ref E) H Q;refine⟨_,.list [],Hc x,.lst (NW e) .nil,nS NI,nS [],?_⟩;rw[C5];exact q
theorem JG{E:Addr}{bs:List Addr}(x:IsBk H l bs Ms NI)(e:H E=some (.lst []))(q:Q (.bl (decide (NI.length=0))) H):cEq K (.ref l) (.ref E) H Q:=by
 show rEqD K (.ref l) (.ref E) H Q;refine⟨_,.list [],Hc x,.lst (NW e) .nil,nS NI,nS [],?_⟩;rw[C5];exact q
abbrev txk(t:TK):Str:=tx (tkC t)
def allT:List TK:=[.clue,.only,.place,.count,.step,.sum,.square,.reach,.turn,.pair,.ways]
theorem qG:iI=allT.map txk:=by decide+kernel
theorem C6{a b:TK}:decide (txk a=txk b)=decide (a=b):=by cases a <;> cases b <;> decide+kernel
variable{ks:List TK}
theorem Ih:decide (txk t∈ks.map txk)=decide (t∈ks):=by
 rw[Om,NU,NU,N9];constructor
 . rintro⟨a,c,e⟩;have:=C6 (a:=a) (b:=t);rw[NT e]at this;exact(Oj this.symm) ▸ c
 . exact λh=>⟨t,h,rfl⟩
noncomputable def ffR (h w g:Int) (NC:List RR) (cl NA:∅) (t:TK):∅->List Tho
 | []=>[]
 | r::rs=>if (fbF h w g NC cl NA t r).length=0 then ffR h w g NC cl NA t rs else fbF h w g NC cl NA t r
noncomputable def ffT (h w g:Int) (NC:List RR) (cl NA:∅):List TK->List Tho
 | []=>[]
 | t::ts=>if (ffR h w g NC cl NA t (rnF NC t)).length=0 then ffT h w g NC cl NA ts else ffR h w g NC cl NA t (rnF NC t)
noncomputable def ffF (h w g:Int) (NC:List RR) (cl NA:∅) (ks:List TK):List Tho:=ffT h w g NC cl NA (allT.filter λt=>decide (t∈ks))
def KdL(H:Hp)(a:Addr)(ks:List TK):Prop:=H a=↥((ks.map txk).map V.str)
def KdK(K:Frag)(H:Hp)(a:Addr)(ks:List TK):Prop:=KdL H a ks\/SqT K H a ((ks.map txk).map V.str)
def KdK.same{b:Addr}(x:KdK K H b ks)(s:Same H H'):KdK K H' b ks:=x.elim (λa=>.inl (s _ _ a)) (λa=>.inr (s.sqt a))
theorem J7{b:Addr}{x:Str}(h:KdK K H b ks)(q:Q (.bl (decide (x∈ks.map txk))) H):rIn K false (.str x) (.ref b) H Q:=by
 refine⟨b,(ks.map txk).map V.str,rfl,h.elim (λa=>.inl (NW a)) .inr,rfl,i7 _,?_⟩;rw[ke];exact q
def ky(K:Frag)(c:RO)(d:RP):Sp:=#[3,∃ P L G A a h w g NC cl NA ks,vs=[.ref P,.ref A,.ref a]/\Lk H c d P L G A h w g NC cl NA/\KdK K H a ks/\BkP Q H (ffF h w g NC cl NA ks)]
def ffin(K:Frag)(c:RO)(d:RP):TS:=#[":Isb,}mbipa0a3ch#4 gl,}nbipa0a1a3a4ch#5 nmdBb5tcj5o"]
def kA(K:Frag)(c:RO)(d:RP):TS:=#[":gIsbw&--2 ~Wb~^b'ah#1 md}obz121h#3 }pbipjtc"]
theorem Ii {f j:Option V} (X:Lk H c d P L G A h w g NC cl NA)
  (k1:(ffR h w g NC cl NA t (rnF NC t)).length=0->∀(f j:Option V) (H':Hp),Same H H'->D.nx [↑P,↑A,v2,some (.str (txk t)),f,j] H')
  (k2:¬ (ffR h w g NC cl NA t (rnF NC t)).length=0->BkP D.rt H (ffR h w g NC cl NA t (rnF NC t))):
  ffin K c d D [↑P,↑A,v2,some (.str (txk t)),f,j] H:=by
 unfold ffin;exists⟨P,L,G,h,w,g,NC,cl,t,rfl,X.P,λR H1 s1 U q=>?_⟩;have o:∀ r∈rnF NC t,RuOk NC t r:=λr l=>Ha l;generalize rnF NC t=rs at*;refine⟨R,rfl,⟨_,NW q⟩,?_⟩;refine bc (K:=K) (xs:=rs.map V.int) (λi σ H'=>∃(f j:Option V),σ=[↑P,↑A,v2,some (.str (txk t)),f,j]/\Same H1 H'/\ffR h w g NC cl NA t rs=ffR h w g NC cl NA t (rs.drop i)) ⟨_,_,rfl,NP H1,rfl⟩ (λi σ H' _ ⟨_,_,_,s,_⟩=>NW (s _ _ q)) ?_ ?_
 . rintro i v σ x T ⟨f,j,rfl,n,k⟩;obtain⟨r,l,rfl⟩:=aK T;have Q:i<rs.length:=(NO.mp l).1
   have M:rs.drop i=r::rs.drop (i+1):=by
    rw[Pj Q]
    congr 1
    exact(NO.mp l).2
   rw[M]at k;have e:ffR h w g NC cl NA t rs=if (fbF h w g NC cl NA t r).length=0 then ffR h w g NC cl NA t (rs.drop (i+1)) else fbF h w g NC cl NA t r:=k;have a:=s1.trans n;exists⟨P,L,G,A,h,w,g,NC,cl,NA,t,r,rfl,X.same a,o r (NS l),λB S Ms W F O N z u=>?_⟩;symm;rw[az];exists⟨aT #[1],λE J=>?_⟩;obtain⟨I,C,p,y⟩:=aP (.lst []) J;rw[C];have m:=F.trans p;refine JF (u.same p) y ?_;by_cases h0:(fbF h w g NC cl NA t r).length=0
   . rw[Os h0]at e;rw[NT h0];refine⟨_,rfl,iteF ?_⟩;exact⟨_,_,rfl,n.trans m,e⟩
   . rw[Og h0]at e;rw[NQ h0];refine⟨_,rfl,iteT ?_⟩;exists k2 (by rw[e];exact h0) B S Ms I (a.trans m) (a.free O) (λb h=>a.free (N b h)) (λb h=>a.free (z b h)) ?_;rw[e];exact u.same p
 . rintro σ x ⟨f,j,rfl,n,k⟩;rw[NM,Qk]at k;exact k1 (by rw[k];rfl) f j x (s1.trans n)
theorem ye(h:ky K c d vs H Q E):kA K c d (eD9 Q) (start ["puzzle","masks","kinds","kind","number","found"] vs) H:=by
 obtain⟨P,L,G,A,o,h,w,g,NC,cl,NA,ks,rfl,X,F,q⟩:=h;exists kA;rw[xO,GG];intro p r;refine⟨p,rfl,⟨_,r⟩,?_⟩;rw[qG]at r;refine FB (xs:=allT.map txk) (λx=>decide (x∈ks.map txk)) #[1] r ?_ ?_ ?_
 . intro x H1 R O s1 k1;show tTest _ [none,some (.str x),↑o] H1 R;exists J7 (F.same s1) ⟨_,rfl,k1 _ (NP _)⟩
 . intro x H1 N O l s1 k1;show tVar 1 [none,some (.str x),↑o] H1 N;exists k1 _ (NP _)
 . intro S H1 U s1 n
   have e:((allT.map txk).filter λx=>decide (x∈ks.map txk))=(allT.filter λt=>decide (t∈ks)).map txk:=by
    rw[PN];refine congrArg _ (List.filter_congr λt _=>?_);exact Ih
   rw[e]at n;unfold ffF at q;generalize (allT.filter λt=>decide (t∈ks))=ts at*;refine⟨S,rfl,⟨_,NW n⟩,?_⟩;refine bc (K:=K) (xs:=(ts.map txk).map V.str) (λi σ H'=>∃(y j m:Option V),σ=[↑P,↑A,↑o,y,j,m]/\Same H1 H'/\ffT h w g NC cl NA ts=ffT h w g NC cl NA (ts.drop i)) ⟨_,_,_,rfl,NP H1,rfl⟩ (λi σ H' _ ⟨_,_,_,_,s,_⟩=>NW (s _ _ n)) ?_ ?_
   . rintro i v σ C D ⟨y,j,m,rfl,k,e⟩;rw[NR,NR]at D;obtain⟨u,I,rfl⟩:=OT.mp D;obtain⟨t,B,rfl⟩:=OT.mp I;have T:i<ts.length:=(NO.mp B).1
     have M:ts.drop i=t::ts.drop (i+1):=by
      rw[Pj T]
      congr 1
      exact(NO.mp B).2
     rw[M]at e;have a:ffT h w g NC cl NA ts=if (ffR h w g NC cl NA t (rnF NC t)).length=0 then ffT h w g NC cl NA (ts.drop (i+1)) else ffR h w g NC cl NA t (rnF NC t):=e;have f:=s1.trans k;exists Ii (X.same f) (λh0 j m W J=>?_) (λh0=>?_)
     . rw[Os h0]at a;exact⟨_,_,_,rfl,k.trans J,a⟩
     . rw[Og h0]at a;rw[a]at q;exact q.of f
   . rintro σ C ⟨y,j,m,rfl,k,e⟩;rw[NM,NM,Qk]at e;rw[e]at q;exists⟨aT #[1],λE z=>?_⟩;exact(q.of (s1.trans k)) E [] [] _ ((NP C).laid z) z (λb l=>by cases l) (λb l=>by cases l) (IsBk.nil ag)
def OkT(h w g:Int)(NC:List RR)(cl:∅)(ks:List TK)(m:∅)(th:Tho):Prop:=0∉m/\th.t∈ks/\(0<=th.z/\th.z<h*w)/\(1<=th.s/\th.s<=g)/\stB (m.getD th.z.toNat 0) th.s=true/\alwA h w g NC cl m th.t th.r th.z th.s th.ms=true
def Wlk(h w g:Int)(NC:List RR)(cl:∅)(ks:List TK):∅->List Tho->∅->Prop
 | m,[],m'=>m=m'
 | m,th::r,m'=>OkT h w g NC cl ks m th/\Wlk h w g NC cl ks (stL m th.z th.s) r m'
theorem Wlk.trans{h w g:Int}{NC:List RR}{cl:∅}{ks:List TK}:∀{a b:List Tho} {m d c:∅},Wlk h w g NC cl ks m a d->Wlk h w g NC cl ks d b c->Wlk h w g NC cl ks m (a++b) c
 | [],_,_,_,_,h1,h2=>by cases (show _=_ from h1);exact h2
 | _::_,_,_,_,_,h1,h2=>⟨h1.1,Wlk.trans h1.2 h2⟩
variable{m:∅}
def Wlk.snoc{a:List Tho}{b:∅}{th:Tho}(h1:Wlk h w g NC cl ks m a b)(h2:OkT h w g NC cl ks b th):Wlk h w g NC cl ks m (a++[th]) (stL b th.z th.s):=h1.trans ⟨h2,rfl⟩
theorem Kh:stB 0 s=false:=by
 unfold stB;rw[show Builtin.Int.intBits 0=0 from rfl]
 cases h1:decide (1<=s) with
 | false=>rfl
 | true=>
  have:=Oj h1;rw[NQ (show ¬ s<=((0:Nat):Int) by lia)];rfl
theorem JH(f:formB h w g NC t r z s=true)(e:faF h w g NC cl NA t r z s=some ms):alwA h w g NC cl NA t r z s ms=true:=by
 unfold alwA;rw[f,Ob];unfold faF at e;exact List.find?_some e
theorem vg{h w g:Int}{NC:List RR}{cl:∅}{ks:List TK}{t:TK}{r z:Int}{n:Nat}{q:∅}(c:1<=g)(i:g<=6)(o:t∈ks)(p:n=(h*w).toNat)(f:∀ s,1<=s->s<=g->formB h w g NC t r z s=true):
  ∀(a:∅) (nb:∅ × List Tho),a.Nodup->(∀ s∈a,(1<=s/\s<=g)/\stB (nb.1.getD z.toNat 0) s=true)->MkP g n nb.1->(∀ k,k<n->(k:Int)≠z->nb.1.getD k 0≠0)->Wlk h w g NC cl ks q nb.2 nb.1->
  Wlk h w g NC cl ks q (a.foldl (fbS h w g NC cl t r z) nb).2 (a.foldl (fbS h w g NC cl t r z) nb).1/\MkP g n (a.foldl (fbS h w g NC cl t r z) nb).1
 | [],nb,_,_,M,_,W=>⟨W,M⟩
 | s::a,nb,nd,hs,M,nz,W=>by
  have A:=lX c i;have h1:=hs s Oa;have u:=gD (f 1 #[1] c);have C:=M.len;have y:=M.mm _ (kx (k:=z.toNat) (ms:=nb.1) #[4]);rw[OR]at nd;rw[O9]
  have j:(0:Int)∉nb.1:=λh0=>by
   obtain⟨k,l,e⟩:=Pe.mp h0;have v:nb.1.getD k 0=0:=by rw[List.getD,NN l,e];rfl
   by_cases kz:(k:Int)=z
   . have:z.toNat=k:=by lia
     rw[this,v,Kh]at h1;cases h1.2
   . exact nz k #[4] kz v
  have m:=Bf (s:=s) y.1 #[4] h1.1.1 #[4]
  cases e:faF h w g NC cl nb.1 t r z s with
  | none=>
   have e2:fbS h w g NC cl t r z nb s=nb:=by unfold fbS;rw[e]
   rw[e2];exact vg c i o p f a nb nd.2 (λx d=>hs x (N5 _ d)) M nz W
  | some ms=>
   have e2:fbS h w g NC cl t r z nb s=(stL nb.1 z s,nb.2++[⟨t,r,z,s,ms⟩]):=by unfold fbS;rw[e]
   rw[e2];refine vg c i o p f a _ nd.2 (λx d=>?_) (M.stL c i h1.1.1 #[4]) (λk l kz=>?_) ?_
   . have b:=hs x (N5 _ d);refine⟨b.1,?_⟩;show stB ((stL nb.1 z s).getD z.toNat 0) x=true;rw[Fz #[4],Os #[4],m.2.1 x b.1.1 #[4] (λB=>nd.1 (B ▸ d))];exact b.2
   . show(stL nb.1 z s).getD k 0≠0;rw[Fz #[4],Og kz];exact nz k l kz
   . exact W.snoc (th:=⟨t,r,z,s,ms⟩) ⟨j,o,⟨u.1,u.2.1⟩,h1.1,h1.2,JH (f s h1.1.1 h1.1.2) e⟩
theorem Bi{h w g:Int}{NC:List RR}{cl:∅}{ks:List TK}{t:TK}{r:Int}{n:Nat}{m:∅}(a:1<=g)(b:g<=6)(p:t∈ks)(l:n=(h*w).toNat):
  ∀(d:∅) (nb:∅ × List Tho),(∀ z∈d,∀ s,1<=s->s<=g->formB h w g NC t r z s=true)->0∉nb.1->MkP g n nb.1->Wlk h w g NC cl ks m nb.2 nb.1->∃ m',Wlk h w g NC cl ks m (fbL h w g NC cl t r d nb) m'
 | [],nb,_,_,_,W=>⟨_,W⟩
 | z::d,nb,f,h0,M,W=>by
  have y:=gD (f z Oa 1 #[1] a);have x:=M.len;have q:=lX a b;have i:=M.mm _ (kx (k:=z.toNat) (ms:=nb.1) #[4]);have c:=vg (cl:=cl) a b p l (f z Oa) (sgL (nb.1.getD z.toNat 0)) nb (JB _) (λs o=>⟨Fy a b i.1 i.2 o,(HY i.1 s).mp o⟩) M (λk v _ e=>h0 (by rw[← e];exact kx #[4])) W;unfold fbL
  split
  . exact⟨_,c.1⟩
  . rename_i j
    exact Bi a b p l d _ (λz u=>f z (N5 _ u)) j c.2 c.1
theorem Bj{c:RO}{h w g:Int}{NC:List RR}{cl:∅}{ks:List TK}{t:TK}{NA:∅}(R:ie c h w g NC)(a:t∈ks)(M:MkP g (h*w).toNat NA)(h0:0∉NA):∀ rs:∅,(∀ r∈rs,RuOk NC t r)->∃ m',Wlk h w g NC cl ks NA (ffR h w g NC cl NA t rs) m'
 | [],_=>⟨_,rfl⟩
 | r::rs,ok=>by
  unfold ffR
  split
  . exact Bj R a M h0 rs λr d=>ok r (N5 _ d)
  . exact Bi R.F.g0 R.F.g1 a rfl _ (NA,[]) (λz b s s0 s1=>Bg R (ok r Oa) b s0 s1) h0 M rfl
theorem GJ(R:ie c h w g NC)(M:MkP g (h*w).toNat NA)(h0:0∉NA):∃ m',Wlk h w g NC cl ks NA (ffF h w g NC cl NA ks) m':=by
 have e:∀ a:List TK,(∀ t∈a,t∈ks)->∃ m',Wlk h w g NC cl ks NA (ffT h w g NC cl NA a) m':=λa=>by
  induction a with
  | nil=>exact λ_=>⟨_,rfl⟩
  | cons t a d=>
   intro b;unfold ffT
   split
   . exact d λt h=>b t (N5 _ h)
   . exact Bj R (b t Oa) M h0 _ λr f=>Ha f
 exact e _ λt b=>Oj (Ol.mp b).2
def btA(ms:∅):Nat:=(ms.map λm=>(sgL m).length).sum
theorem Bl(f:Int->Nat):∀(ms:∅) (k:Nat) (x:Int),k<ms.length->((ms.set k x).map f).sum+f (ms.getD k 0)=(ms.map f).sum+f x
 | [],_,_,h=>by simp at h
 | m::r,0,x,_=>by simp;lia
 | m::r,k+1,x,h=>by
  have a:=Bl f r k x (by simpa using h);simp only[List.set_cons_succ,OD,QS,List.getD_cons_succ];lia
theorem Ij(b:0<=z):stL ms z s=ms.set z.toNat (woI (ms.getD z.toNat 0) s):=by
 refine O6 λi=>?_;unfold stL;rw[NR,List.getElem?_set];by_cases a:i<ms.length
 . rw[OQ a];show some (if (i:Int)=z then woI (ms.getD i 0) s else ms.getD i 0)=_;by_cases e:z.toNat=i
   . rw[Os #[4],Os e,Os #[4],e]
   . rw[Og #[4],Og e,List.getD,NN a];rfl
 . rw[Oi (by rw[OU];lia)]
   split
   . rw[Og #[4]];rfl
   . rw[Oi #[4]];rfl
theorem OkT.bits{th:Tho}(X:OkT h w g NC cl ks m th)(M:MkP g (h*w).toNat m)(c:1<=g)(e:g<=6):btA (stL m th.z th.s)+1=btA m:=by
 obtain⟨_,_,z,s,i,_⟩:=X;have f:=lX c e;have j:=M.len;have d:=M.mm _ (kx (k:=th.z.toNat) (ms:=m) #[4]);have a:=(Bf (s:=th.s) d.1 #[4] s.1 #[4]).2.2 i;have b:=Bl (λm=>(sgL m).length) m th.z.toNat (woI (m.getD th.z.toNat 0) th.s) #[4];unfold btA;rw[Ij z.1]
 try dsimp only at b
 lia
abbrev runA(m:∅)(NI:List Tho):∅:=NI.foldl (λm a=>stL m a.z a.s) m
theorem Wlk.run{h w g:Int}{NC:List RR}{cl:∅}{ks:List TK}:∀{a:List Tho} {m m':∅},Wlk h w g NC cl ks m a m'->m'=runA m a
 | [],_,_,h=>(show _=_ from h).symm
 | th::r,m,m',h=>Wlk.run (a:=r) h.2
theorem Wlk.pre{h w g:Int}{NC:List RR}{cl:∅}{ks:List TK}:∀{a b:List Tho} {m m':∅},Wlk h w g NC cl ks m (a++b) m'->Wlk h w g NC cl ks m a (runA m a)/\Wlk h w g NC cl ks (runA m a) b m'
 | [],_,_,_,h=>⟨rfl,h⟩
 | th::r,b,m,m',h=>⟨⟨h.1,(Wlk.pre (a:=r) h.2).1⟩,(Wlk.pre (a:=r) h.2).2⟩
theorem Wlk.okM{h w g:Int}{NC:List RR}{cl:∅}{ks:List TK}(c:1<=g)(d:g<=6):∀{a:List Tho} {m m':∅},Wlk h w g NC cl ks m a m'->MkP g (h*w).toNat m->MkP g (h*w).toNat m'/\btA m'+a.length=btA m
 | [],_,_,h,M=>by cases (show _=_ from h);exact⟨M,by simp⟩
 | th::r,m,m',h,M=>by
  have s:=h.1.2.2.2.1;have b:=h.1.bits M c d;have:=Wlk.okM c d (a:=r) h.2 (M.stL c d s.1 #[4]);refine⟨this.1,?_⟩;rw[OA];lia
theorem JI(f:1<=g)(h:g<=6)(M:MkP g n ms)(l:n<=16):btA ms<=96:=by
 have i:=lX f h
 have k:∀ xs:∅,(∀ m∈xs,0<=m/\m<64)->btA xs<=6*xs.length:=λxs=>by
  induction xs with
  | nil=>exact λ_=>NZ _
  | cons x r j=>
   intro e;have a:=j λm d=>e m (N5 _ d);have b:=e x Oa;have c:=Bh b.1 b.2;unfold btA at a ⊢;rw[OD,QS,OA];lia
 have:=k ms λm d=>by have:=M.mm m d;lia
 have:=M.len;lia
inductive Go(h w g:Int)(NC:List RR)(cl:∅)(ks:List TK)(m0:∅):List Tho->∅->Prop
 | nil:Go h w g NC cl ks m0 [] m0
 | step {b:List Tho} {m:∅}:Go h w g NC cl ks m0 b m->0∉m->ffF h w g NC cl m ks≠[]->Go h w g NC cl ks m0 (b++ffF h w g NC cl m ks) (runA m (ffF h w g NC cl m ks))
inductive ThR(h w g:Int)(NC:List RR)(cl:∅)(ks:List TK):∅->List Tho->∅->Prop
 | stop {m:∅}:(0∈m\/ffF h w g NC cl m ks=[])->ThR h w g NC cl ks m [] m
 | go {m:∅} {r:List Tho} {x:∅}:0∉m->ffF h w g NC cl m ks≠[]->ThR h w g NC cl ks (runA m (ffF h w g NC cl m ks)) r x->ThR h w g NC cl ks m (ffF h w g NC cl m ks++r) x
variable{b:List Tho}{m0:∅}
theorem Go.th(a:Go h w g NC cl ks m0 b m):∀{r:List Tho} {x:∅},ThR h w g NC cl ks m r x->ThR h w g NC cl ks m0 (b++r) x:=by
 induction a with
 | nil=>exact λt=>t
 | step a n f c=>
  intro r x t;rw[O5];exact c (.go n f t)
theorem ThR.det{a:List Tho}{x:∅}(t:ThR h w g NC cl ks m a x):∀{b:List Tho} {y:∅},ThR h w g NC cl ks m b y->a=b/\x=y:=by
 induction t with
 | stop e=>
  intro b y u
  cases u with
  | stop _=>exact⟨rfl,rfl⟩
  | go n f _=>exact absurd e (λe=>e.elim n f)
 | go n f _ c=>
  intro b y u
  cases u with
  | stop e=>exact absurd e (λe=>e.elim n f)
  | go _ _ u=>
   obtain⟨e1,e2⟩:=c u;exact⟨by rw[e1],e2⟩
abbrev End(h w g:Int)(NC:List RR)(cl:∅)(ks:List TK)(m:∅):Prop:=0∈m\/ffF h w g NC cl m ks=[]
theorem Go.full(a:Go h w g NC cl ks m0 b m)(e:End h w g NC cl ks m):ThR h w g NC cl ks m0 b m:=by
 have:=a.th (.stop e);rw[Rl]at this;exact this
def IsBk.keep{x:Addr}{bs:List Addr}{xs ys:List V}(X:IsBk H l bs Ms NI)(c:H x=↥xs)(f:l≠x)(g:x∉Ms):IsBk (upd H x (.lst ys)) l bs Ms NI:=
 ⟨by rw[ah f];exact X.top,X.len,X.lnM,X.nl,λi b M d h1 h2 h3=>by
  have z:=X.at_ i b M d h1 h2 h3;have a:M≠x:=λe=>g (by rw[← e];exact NS h2);exact⟨by rw[ah (λe=>by have:=z.T;rw[e,c]at this;cases this)];exact z.T,by rw[ah a];exact z.M,z.n⟩⟩
def ThkP(Q:VK)(H:Hp)(h w g:Int)(NC:List RR)(cl NA:∅)(ks:List TK):Prop:=∀(T N B:Addr) (c Ms:List Addr) (a:∅) (NI:List Tho) (H':Hp),Same H H'->H T=none->H N=none->H B=none->(∀ b∈c,H b=none)->(∀ M∈Ms,H M=none)->H' T=some (.tup [.ref N,.ref B])->H' N=↥(a.map V.int)->IsBk H' B c Ms NI->N≠B->Wlk h w g NC cl ks NA NI a->(0∈a\/ffF h w g NC cl a ks=[])->ThR h w g NC cl ks NA NI a->Q (.ref T) H'
def kB(K:Frag)(c:RO)(d:RP):Sp:=#[3,∃ P L G A a h w g NC cl NA ks,vs=[.ref P,.ref A,.ref a]/\Lk H c d P L G A h w g NC cl NA/\KdK K H a ks/\ThkP Q H h w g NC cl NA ks]
def thin(K:Frag)(c:RO)(d:RP):TS:=#[":Isb5h#6 gPHbFT4a6cl,'yba3adk6ef#2 adk6ef#3 ch#3 "]
def vh(K:Frag)(c:RO)(d:RP):TS:=#[":glq~la1ch#3 gltch#4 g'rKx,~Pba3cgl,}qbipa0a3a2ch#5 gnmdrb5tcjOa3a4co}rbipjOa3a4c"]
theorem Ik {N B F:Addr} {bs f a:List Addr} {NI m':_} {v1 p:Option V} (X:Fb H0 H c d P L G N B bs Ms h w g NC cl nb) (fN:H0 N=none) (Y:IsBk H F f a NI) (nF:F≠B) (nM:B∉a) (S:∀ b∈f,H0 b=none) (O:∀ M∈a,H0 M=none) (W:Wlk h w g NC cl ks nb.1 NI m') (bl:nb.2.length+NI.length<=96)
  (k:∀(n:Addr) (p:Option V) (H':Hp),Fb H0 H' c d P L G n B (bs++f) (Ms++a) h w g NC cl (m',nb.2++NI)->H0 n=none->D.nx [↑P,v1,v2,↑n,↑B,↑F,p] H'):
  thin K c d D [↑P,v1,v2,↑N,↑B,↑F,p] H:=by
 have g0:=X.pz.R.F.g0;have g6:=X.pz.R.F.g1;have aa:=X.pz.R.F.m;have l1:=Y.len;have l2:=Y.lnM;unfold thin;exists⟨⟨_,NW Y.top⟩,?_⟩
 refine bc (K:=K) (xs:=f.map V.ref) (λi σ H'=>∃(n:Addr) (p:Option V),σ=[↑P,v1,v2,↑n,↑B,↑F,p]/\Fb H0 H' c d P L G n B (bs++f.take i) (Ms++a.take i) h w g NC cl (runA nb.1 (NI.take i),nb.2++NI.take i)/\H0 n=none/\IsBk H' F f a NI)
  ⟨N,_,rfl,by simpa using X,fN,Y⟩ (λi σ H' _ ⟨_,_,_,_,_,y⟩=>NW y.top) ?_ ?_
 . rintro i v σ H1 hv ⟨n,p,rfl,j,A,Q⟩;obtain⟨b,u,rfl⟩:=bz hv;have hi:i<f.length:=(NO.mp u).1;have E:a[i]? =some a[i]:=NN #[4];have J:NI[i]? =some NI[i]:=NN #[4];have Th:=Q.at_ i b _ _ u E J;have r:a[i]∈a:=On _;have tb:f.take (i+1)=f.take i++[b]:=by rw[O7,u];rfl
   have tM:a.take (i+1)=a.take i++[a[i]]:=by rw[O7,E];rfl
   have tt:NI.take (i+1)=NI.take i++[NI[i]]:=by rw[O7,J];rfl
   have W1:Wlk h w g NC cl ks nb.1 (NI.take i++NI.drop i) m':=by rw[Rv];exact W
   have W2:=W1.pre.2;rw[Pj (show i<NI.length by lia)]at W2;have ok:=W2.1;have C:=j.mp;dsimp only at C;have tl:(NI.take i).length<=NI.length:=by rw[OL];lia
   generalize hM:a[i]=M at*;generalize ab:NI[i]=th at*;rw[tb,tM,tt];have er:runA nb.1 (NI.take i++[th])=stL (runA nb.1 (NI.take i)) th.z th.s:=by unfold runA;rw[Pp];rfl
   rw[er];generalize runA nb.1 (NI.take i)=nw at*;have MB:M≠B:=λe=>nM (e ▸ r);have I:=j.bk.len;rw[Oy]at I;exists⟨a7 j.bk.top,?_⟩;rw[db j.bk.top];refine⟨by rw[NM,j.bk.len,Oy];exact aC #[4],?_⟩;have Bk:=j.bk.app (th:=th) (NP H1) Th MB;have s4:=j.sm.own (o:=.lst ((bs++f.take i).map V.ref++[V.ref b])) X.fB;have n4:(upd H1 B (.lst ((bs++f.take i).map V.ref++[V.ref b]))) n=↥(nw.map V.int):=by rw[ah j.nB];exact j.nw
   have Y4:=Q.keep (ys:=(bs++f.take i).map V.ref++[V.ref b]) j.bk.top nF nM;have t:=Y4.at_ i b M th u (by rw[E]) (by rw[J]);generalize upd H1 B (.lst ((bs++f.take i).map V.ref++[V.ref b]))=H4 at*;exists ixT t.T (v:=V.int th.z) rfl ?_;exists ixT t.T (v:=V.int th.s) rfl ?_;symm;have sb:=ok.2.2.2.1;refine⟨n,nw,th.z,th.s,rfl,n4,by have:=C.len;lia,by lia,λN3 H5 U q Z=>?_⟩;refine⟨N3,_,rfl,⟨s4.trans U,X.pz,Z,C.stL g0 g6 sb.1 #[4],?_,λe'=>?_,X.fB,λx l=>?_,λx l=>?_⟩,s4.free q,Y4.same U⟩
   . have:=Bk.same U;rw[O5,O5,O5]at this;exact this
   . rw[e',Bk.top]at q;cases q
   . rw[← O5]at l;rcases Of.mp l with l | l
     . exact j.fb x l
     . rw[NX.mp l];exact S b (NS u)
   . rw[← O5]at l;rcases Of.mp l with l | l
     . exact j.fM x l
     . rw[NX.mp l];exact O M r
 . rintro σ H1 ⟨n,p,rfl,j,A,Q⟩;rw[NM,ON,show f.length=a.length by lia,ON,show a.length=NI.length by lia,ON]at j;rw[← W.run]at j;exact k n p H1 j A
theorem GK(h:kB K c d vs H Q E):vh K c d (eD9 Q) (start ["puzzle","masks","kinds","now","book","found","thought"] vs) H:=by
 obtain⟨P,L,G,A,Kd,h,w,g,NC,cl,NA,ks,rfl,X,hK,q⟩:=h;have g0:=X.P.R.F.g0;have I:=X.P.R.F.g1;have al:=X.P.R.F.m;have am:=JI g0 I X.mkp #[4];exists vh;refine rN X.A λN hN=>?_;obtain⟨H1,J,s1,eN⟩:=aP (.lst (NA.map V.int)) hN;rw[J];exists⟨aT #[1],λB C=>?_⟩;have s2:Same H1 (upd H1 B (.lst [])):=(NP H1).laid C;have eB:(upd H1 B (.lst [])) B=some (.lst []):=ag;have S:N≠B:=λe=>by rw[e]at eN;rw[eN]at C;cases C
 generalize upd H1 B (.lst [])=H2 at*;have aa:=s1.trans s2;have X0:Fb H H2 c d P L G N B [] [] h w g NC cl (NA,[]):=⟨aa,X.P,s2 _ _ eN,X.mkp,IsBk.nil eB,S,s1.free C,(λb r=>by cases r),(λb r=>by cases r)⟩
 refine⟨λm σ H'=>∃(N:Addr) (u Ms:List Addr) (z t:Option V) (nb:∅ × List Tho),σ=[↑P,↑A,↑Kd,↑N,↑B,z,t]/\Fb H H' c d P L G N B u Ms h w g NC cl nb/\H N=none/\Wlk h w g NC cl ks NA nb.2 nb.1/\Go h w g NC cl ks NA nb.2 nb.1/\m=btA nb.1,
  ⟨_,N,[],[],none,none,(NA,[]),rfl,X0,hN,rfl,.nil,rfl⟩,?_⟩
 rintro m σ H3 ⟨l,u,Ms,z,t,nb,rfl,a,fN,W,Gg,rfl⟩
 have s:∀(i:Hp),Same H3 i->(0∈nb.1\/ffF h w g NC cl nb.1 ks=[])->([V.ref l,V.ref B]:List V).length<=sizeLine/\∀ p,i p=none->Q (.ref p) (upd i p (.tup [V.ref l,V.ref B])):=λi s4 j=>by
  have v:=a.same s4;refine⟨lnR rfl,λT hT=>?_⟩;have k:Same i (upd i T (.tup [V.ref l,V.ref B])):=(NP i).laid hT;exact q T l B u Ms nb.1 nb.2 _ (v.sm.trans k) (v.sm.free hT) fN a.fB a.fb a.fM ag (k _ _ v.nw) (v.bk.same k) a.nB W j (Gg.full j)
 have ob:=W.okM g0 I X.mkp;exists⟨l,nb.1,rfl,a.nw,?_⟩;by_cases h0:(0:Int)∈nb.1
 . rw[NT h0];refine⟨true,rfl,iteF ?_⟩;exists s H3 (NP _) (.inl h0)
 . rw[NQ h0];refine⟨false,rfl,iteT ?_⟩
   refine⟨λσ H'=>∃(N:Addr) (u Ms:List Addr) (z t:Option V) (f:∅ × List Tho),σ=[↑P,↑A,↑Kd,↑N,↑B,z,t]/\Fb H H' c d P L G N B u Ms h w g NC cl f/\H N=none/\Wlk h w g NC cl ks NA f.2 f.1/\Go h w g NC cl ks NA f.2 f.1/\btA f.1<btA nb.1,
    λσ' H' ⟨N',ad,D,O,Z,ah,e,X',U,W',G',lt⟩=>⟨_,lt,N',ad,D,O,Z,ah,e,X',U,W',G',rfl⟩,?_⟩
   exists⟨P,L,G,l,Kd,h,w,g,NC,cl,nb.1,ks,rfl,a.lk,hK.same a.sm,λF ak ab i s4 hF af o Y=>?_⟩;obtain⟨m',y⟩:=GJ (cl:=cl) (ks:=ks) X.P.R a.mp h0;symm;rw[az];exists⟨aT #[1],λE hE=>?_⟩;obtain⟨H5,J,k,eE⟩:=aP (.lst []) hE;rw[J];have n:=s4.trans k;refine JG (Y.same k) eE ?_;by_cases x:(ffF h w g NC cl nb.1 ks).length=0
   . rw[NT x];refine⟨_,rfl,iteT ?_⟩;exists s H5 n (.inr (QX.mp x))
   . rw[NQ x];refine⟨_,rfl,iteF ?_⟩;have ai:=y.okM g0 I a.mp;have X5:=a.same n;have nF:F≠B:=λe=>by rw[e,a.bk.top]at hF;cases hF
     have nM:B∉ab:=λhm=>by have:=o B hm;rw[a.bk.top]at this;cases this
     refine Ik X5 fN (Y.same k) nF nM (λb r=>a.sm.free (af b r)) (λM hM=>a.sm.free (o M hM)) y #[4] λN3 t H6 X6 ac=>?_;exact⟨N3,_,_,_,_,_,rfl,X6,ac,W.trans y,(by have:=Go.step Gg h0 (λe=>x (by rw[e];rfl));rw[← y.run]at this;exact this),by show btA m'<btA nb.1;lia⟩
abbrev iN(cs:List Nat):∅:=cs.map λ(n:Nat)=>(n:Int)
variable{cs:List Nat}
theorem Bm{c:Int}(h:c∈iN cs):0<=c/\c.toNat∈cs:=by
 obtain⟨n,a,rfl⟩:=N9.mp h;exact⟨by lia,by rw[Pq];exact a⟩
theorem FC(a:∅)(b:List Nat)(n:Nat):sgAt a (iN (b++[n]))=sgAt a (iN b)++[a.getD n 0]:=by
 unfold sgAt iN;simp
def nU(h w g:Int)(a:∅)(r:RR):Prop:=r.Ok h w g/\hoB r.k h w r.cs r.n r.m a=true
structure Cs58(h w:Int)(cs:List Nat):Prop where
 ne:cs≠[]
 nd:cs.Nodup
 lt:∀ c∈cs,(c:Int)<h*w
 len:cs.length<=16
def Cs58.sub{a:List Nat}(X:Cs58 h w cs)(s:a.Sublist cs)(d:a≠[]):Cs58 h w a:=⟨d,X.nd.sublist s,λc b=>X.lt c (s.subset b),NY s.length_le X.len⟩
def Cs58.lt100(X:Cs58 h w cs)(F:FlOk h w g):∀ c∈cs,c<100:=λc a=>by
 have:=X.lt c a;have:=F.m;omega
variable{fl:∅}
theorem GL(Y:Cs58 h w cs)(c:fl.length=(h*w).toNat)(b:∀ x∈fl,1<=x/\x<=g){x:Int}(a:x∈iN cs):0<=x/\x<fl.length/\1<=fl.getD x.toNat 0/\fl.getD x.toNat 0<=g:=by
 have m:=Bm a;have l:=Y.lt _ m.2;have:x.toNat<fl.length:=by lia
 have e:fl.getD x.toNat 0=fl[x.toNat]:=by rw[List.getD,NN this];rfl
 have:=b _ (On this);rw[e];lia
def J8{k:RK}{m:Nat}(F:FlOk h w g)(Y:Cs58 h w cs)(b:allK k=false)(k0:k≠.Rule)(c:n<=99)(d:numK k=false->n=0)(m0:sgnK k=true->1<=(m:Int)/\(m:Int)<=g)(a:sgnK k=false->m=0)(e:hoB k h w (iN cs) n m fl=true):nU h w g fl ⟨k,n,m,cs,iN cs⟩:=⟨DJ F Y.ne Y.lt Y.nd Y.len b k0 c d m0 a,e⟩
theorem Bn:∀(xs:∅),(∀ x∈xs,0<=x/\x<=6)->0<=xs.sum/\xs.sum<=6*xs.length
 | [],_=>by simp
 | x::r,h=>by
  have a:=h x Oa;have b:=Bn r λy c=>h y (N5 _ c);rw[QS,OA];lia
theorem FD(xs:∅):0<=(seenN xs).2/\(seenN xs).2<=xs.length:=by
 have c:∀(xs:∅) (a:Int × Int),a.2<=(xs.foldl (λa x=>if a.1<x then(x,a.2+1) else a) a).2/\(xs.foldl (λa x=>if a.1<x then(x,a.2+1) else a) a).2<=a.2+xs.length:=λxs=>by
  induction xs with
  | nil=>intro a;simp
  | cons x r b=>
   intro a;rw[O9,OA];have:=b (if a.1<x then(x,a.2+1) else a);by_cases h:a.1<x
   . rw[if_pos h]at this ⊢;dsimp only at this;lia
   . rw[Og h]at this ⊢;lia
 have:=c xs (0,0);unfold seenN;dsimp only at this;lia
def DL(ns:∅)(k:Int):Int:=if k < (ns.length:Int) then ns.getD k.toNat 0 else 0
def fz(K:Frag):Sp:=#[3,∃ a ns k,vs=[.ref a,.int k]/\SqL K H a (ns.map V.int)/\ns.length<=63/\0<=k/\k<=1000/\Q (.int (DL ns k)) H]
def mQ(K:Frag):TS:=#[":gnmd<1q}sba0cjd}tb01ojef#0 "]
theorem Bo(h:fz K vs H Q E):mQ K (eD9 Q) (start ["_law_script","_law_k"] vs) H:=by
 obtain⟨a,ns,k,rfl,c,d,k0,k1,q⟩:=h;ac_nf;unfold mQ;rw[aB,az];exists⟨a,_,rfl,.inl c,?_⟩;symm;rw[NM];unfold DL at q;by_cases b:k < (ns.length:Int)
 . rw[Os b]at q;rw[Os (NT b)];exact⟨a,_,k,_,rfl,rfl,c,uR k0 b,q⟩
 . rw[Og b]at q;rw[Og (by simpa using b)];symm;exact q
def DM:List (Int × Int)->(St->Hp->(List V->Hp->Prop)->Prop)
 | []=>tNil
 | p::r=>tCons (tTup (tCons (tC (.int p.1)) (tCons (tC (.int p.2)) tNil))) (DM r)
theorem Bp{σ:St}:∀(b:List (Int × Int)) (H:Hp) (Q:List V->Hp->Prop),(∀(as:List Addr) (H':Hp),Same H H'->as.length=b.length->(∀(j:Nat) (a:Addr) (p:Int × Int),as[j]? =some a->b[j]? =some p->H' a=some (.tup [.int p.1,.int p.2]))->Q (as.map V.ref) H')->DM b σ H Q
 | [],H,Q,h=>h [] H (NP H) rfl λj a p e _=>by simp at e
 | p::r,H,Q,h=>by
  unfold DM;exists⟨lnR rfl,λt l=>?_⟩;obtain⟨H1,k,s1,i⟩:=aP (.tup [V.int p.1,V.int p.2]) l;rw[k];refine Bp r H1 _ λas d c g f=>?_;refine h (t::as) d (s1.trans c) (by simp[g]) λj a q e1 e2=>?_
  match j,e1,e2 with
  | 0,e1,e2=>
   simp at e1 e2;subst e1 e2;exact c _ _ i
  | j+1,e1,e2=>exact f j a q (by simpa using e1) (by simpa using e2)
theorem wE{n:Nat}:∀{names:List (Str × NameKind)} {cl:List (Str × Addr)},(∀ y∈names,y.2≠.cell)->cellsFrom n names cl=cl
 | [],_,_=>rfl
 | (x,k)::r,cl,h=>by
  have c:(k==NameKind.cell)=false:=by
   have:=h _ (.head _);cases k <;> first | rfl | exact absurd rfl this
  have a:=wE (n:=n) (names:=r) (cl:=cl) λy b=>h y (.tail _ b);unfold cellsFrom;simp only[c];exact a
theorem yV:∀{names:List (Str × NameKind)} {h:Heap},(∀ y∈names,y.2≠.cell)->pushCells h names=h
 | [],_,_=>rfl
 | (x,k)::r,h,hn=>by
  have c:(k==NameKind.cell)=false:=by
   have:=hn _ (.head _);cases k <;> first | rfl | exact absurd rfl this
  have a:=yV (names:=r) (h:=h) λy b=>hn y (.tail _ b);unfold pushCells;simp only[c];exact a
theorem zE:StrKeys #[]:=by
 intro e he;exact absurd he (by simp)
variable{A:Around}{E:Value->Shared->Prop}{s:Shared}{sc:Scope}{cl:List (Str × Addr)}
theorem Il {M:Model} {v q:Str} {u a:Value} {f:Addr} {Q:Env->Shared->Prop} (k:sc.kind=.function) (i:∀ y∈sc.names,y.2≠.cell) (p:sc.names.lookup v=some .local)
  (n:∀ h',(h'.Ns s.heap.objs.size λx=>if x=v then some u else none)->(∀ b o,s.heap.get? b=some o->h'.get? b=some o)->Q (newEnv sc s.heap.objs.size mainGlobals cl q (some f) a none builtinsNs) {s with heap:=h',toks:=s.toks+1}):
  wpAny M A (newFunctionEnv sc mainGlobals cl [(v,u)] q (some f) a none builtinsNs) Q E s:=by
 simp only[newFunctionEnv,Option.isSome_none];refine N7 (wpAny_alloc ?_);refine N7 (wpAny_layCells _ (λd c g=>by cases h:c==NameKind.cell <;> simp[h]) _ _ _ _ ?_);rw[wE i,yV i];refine N7 ?_;rw[List.forIn_cons];have l:(s.heap.push {cls:=.type "frame",data:=.dict #[]}).Ns s.heap.objs.size λ_=>none:=⟨_,#[],_,Oq _ rfl,rfl,zE,λd=>rfl⟩;refine N7 (N7 (Rq (m:=λ_=>none) ?_ ?_ (λh' j r=>?_) ?_))
 . exact p
 . exact l
 . refine OC ?_;show wpAny M A (forIn [] PUnit.unit _) _ _ _;rw[List.forIn_nil];refine OC (OC (n h' ?_ λb o e=>?_))
   . exact j
   . rw[r.2 b (OF (Oh e))];exact N0 _ e
 . show(sc.kind==_||_)=false;rw[k];rfl
theorem Im {prog:Program} {w:World} {f D m c':Addr} {q F v:Str} {M:Arguments} {K I L:Pos} {J k u:Value} {NF:Array Value} {x:Int} {t:Tok} {Q:Value->Shared->Prop}
  (hd:A.depth<recursionLimit) (O:s.heap.get? f=some (PySem.W.kla_obj "<lambda>" q M (.Subscript (.Name F K) (.Name v I) L) sc cl J c' k)) (l:cl.lookup F=some D) (H:s.heap.CodeRec (.ref c') q) (g:s.heap.IsCell D ↑m) (U:s.heap.IsList m NF) (Z:0<=x) (P:x<2^63) (Y:NF[x.toNat]? =some u) (i:s.heap.NoLimit)
  (n:bindArgs (PySem.W.kla_fn "<lambda>" q M (.Subscript (.Name F K) (.Name v I) L) sc cl J (.ref c') k) ⟨[.int x t],[]⟩=pure [(v,.int x t)])
  (p:sc.kind=.function) (C:sc.isCoroutine=false) (G:sc.isGenerator=false) (hf:∀ y∈sc.names,y.2≠.cell) (N:sc.names.lookup v=some .local) (S:sc.names.lookup F=some .free)
  (z:(F==("__debug__":Str))=false) (B:(F==("__classdict__":Str))=false) (r:(v==("__debug__":Str))=false)
  (h:∀(h':Heap) (X:Nat),(∀ b o,s.heap.get? b=some o->h'.get? b=some o)->Q u {s with heap:=h',toks:=X}):
  wpAny (model prog w) A (call (.ref f) [.int x t]) Q E s:=by
 refine wpAny_call (PySem.W.kla_callFunE hd O rfl C G rfl H ?_);rw[n];refine OC ?_;refine Il p hf N λh' R a=>⟨i.keeps a,?_⟩;refine PySem.W.kla_codeExpr ?_;refine wpAny_Subscript_Name (T:="list") (id:="list.__getitem__") rfl ?_ ?_
 . refine Q9 (wpAny_loadName_free (v:=.ref m) p S (c:=D) ?_ ?_ ?_ B) z
   . exact l
   . obtain⟨o,e,d⟩:=g;exact⟨o,a _ _ e,d⟩
   . refine Q9 (wpAny_loadName_local p N R (Os rfl) ?_) r
     have j:h'.IsList m NF:=by
      obtain⟨o,e,d⟩:=U;exact⟨o,a _ _ e,d⟩
     refine⟨?_,wpAny_getItem_list j Z P Y (h h' _ a)⟩;exact j.typeIs
 . exact λ_ _=>rfl
def tbE(l c:Nat)(a:Addr):Array Value:=#[rawInt l,rawInt c,.ref a]
def TbOk(l c:Nat)(q:Str)(H:Hp)(P:Addr):Prop:=H P=some (.tbl #[])\/∃ a,H P=some (.tbl (tbE l c a))/\H a=some (.ext λh=>h.CodeRec (.ref a) q)
def SameX(P:Addr)(H H':Hp):Prop:=∀ a o,a≠P->H a=some o->H' a=some o
section
variable{X:Cx}{NB:List (Addr × Obj)}{σ:St}{H:Hp}{s:Shared}
theorem ij{c:Addr}{q:Str}{h1 h2:Heap}(x:h1.CodeRec (.ref c) q)(k:∀ o,h1.get? c=some o->h2.get? c=some o):h2.CodeRec (.ref c) q:=by
 obtain⟨a,o,vs,t,e,g,d,v⟩:=x;cases e;exact⟨c,o,vs,t,rfl,k _ g,d,v⟩
def Inv.grow{h':Heap}{t':Nat}{P c':Addr}{j more:Array Value}{q:Str}(I:Inv X NB σ H s)(i:H P=some (.tbl j))(ext:Heap.ExtBut P s.heap h')(c0:s.heap.objs.size<=c')(B:h'.CodeRec (.ref c') q)(A:h'.get? P=some {cls:=.none,data:=.fields (j++more)}):
  Inv X NB σ (upd (upd H P (.tbl (j++more))) c' (.ext λh=>h.CodeRec (.ref c') q)) {s with heap:=h',toks:=t'}:=by
 have C:H c'=none:=I.hok.fresh c0;have t:P≠c':=λe=>by rw[e,C]at i;cases i
 have a:∀ b,b≠P->b≠c'->upd (upd H P (.tbl (j++more))) c' (.ext λh=>h.CodeRec (.ref c') q) b=H b:=λb h1 h2=>by rw[ah h2,ah h1]
 have l:upd (upd H P (.tbl (j++more))) c' (.ext λh=>h.CodeRec (.ref c') q) P=some (.tbl (j++more)):=by rw[ah t,ag]
 have E:∀ b o,s.heap.get? b=some o->b≠c':=λb o e z=>by rw[z]at e;exact absurd (Ox (Oh e) c0) (O0 _)
 have p:∀ b,H b=none->b≠P:=λb n z=>by rw[z,i]at n;cases n
 have F:=p _ I.free;have f:∀ b u,H b=some u->b≠c':=λb u e z=>by rw[z,C]at e;cases e
 refine I.step (g':=s.gens) (d':=s.drawn) (ch:=[]) (λ_ z=>nomatch z) (λb o _ _ _ e n=>ext b o (p b n) e) (λb o _ _ _ e n=>⟨o.slots,ext b o (p b n) e⟩) (λb o _ e n=>by rw[a b (p b n) (E b o e)];exact n)
  (λb o _ e=>?_) (λb xs e=>?_) (λb o u e=>?_) (λb J e=>?_) (λm ⟨o,G,D,e,r⟩=>⟨o,G,D,ext _ _ F e,r⟩) (λb u e=>?_) I.bare
 . by_cases z:b=P
   . rw[z];exact⟨_,A⟩
   . exact⟨o,ext b o z e⟩
 . rw[a b (λz=>by rw[z,i]at e;cases e) (f b _ e)];exact e
 . rw[a b (λz=>by rw[z,i]at e;cases e) (f b _ e)];exact e
 . by_cases z:b=P
   . rw[z,i]at e;cases e;rw[z];exact⟨more,l⟩
   . rw[a b z (f b _ e)];exact⟨#[],by rw[e];simp⟩
 . by_cases z:b=c'
   . rw[z,ag]at e;cases e;rw[z];refine⟨B,?_,λh1 h2 x k=>ij x k⟩;obtain⟨_,o,_,_,e,g,_⟩:=B;cases e;exact⟨o,g⟩
   . by_cases y:b=P
     . rw[y,l]at e;cases e;rw[y];exact A
     . rw[a b y z]at e;refine(I.hok b u e).stay (λd v c g=>ext d v ?_ g) (λd c=>?_) λd xs c=>?_
       . rcases c with rfl | c
         . exact y
         . intro w;rw[w,i]at c;cases c
       . rw[a d (λw=>by rw[w,i]at c;cases c) (f d _ c)];exact c
       . rw[a d (λw=>by rw[w,i]at c;cases c) (f d _ c)];exact c
theorem Inv.pin1{o:Obj}(I:Inv X NB σ H s)(f:∀ v,o.data≠.cell v)(d:o.isFreed=false:=by rfl):Inv X ((s.heap.objs.size,o)::NB) σ H {s with heap:=s.heap.push o}:=by
 have c:Inv X NB σ H {s with heap:=s.heap.push o}:=I.kept (t':=s.toks) λb u e=>N0 _ e;refine c.pins_of λp a=>?_;rcases N4.mp a with rfl | a
 . exact⟨Oq _ d,I.hok.fresh (NZ _),(OF I.lt).symm,I.nofs (NZ _),f⟩
 . exact c.pin p (OG _ a)
theorem Co{l c:Nat}{a:Addr}:TriplesOk (tbE l c a).toList:=by
 simp[tbE,TriplesOk,rawInt]
theorem FE{pos:Pos}{a:Addr}:codeAmong pos (tbE pos.line pos.col a).toList=↑a:=by
 simp[tbE,codeAmong,rawInt]
theorem GM {E:Value->Shared->Prop} {Q:Value->Shared->Prop} {N:Arguments} {i:Expr} {sc:Scope} {pos:Pos} {c P:Addr} (I:Inv X NB σ H s) (g:X.env.code=.ref c) (u:PySem.W.CodeHd X.base c P) (t:X.base.BuiltinsAt X.mg P) (K:mainGlobals≠P) (Z:TbOk pos.line pos.col (X.env.qual++"<lambda>") H P) (D:defaultsOf N X.env=([],[])) (L:∀ x,(x,NameKind.free)∈sc.names->∃ c,X.env.cells.lookup x=some c)
  (h:∀(f c':Addr) (cl:List (Str × Addr)) (pm d:Value) (H':Hp) (s':Shared),Inv X ((f,PySem.W.kla_obj "<lambda>" (X.env.qual++"<lambda>") N i sc cl pm c' d)::NB) σ H' s'->(∀ x c,cl.lookup x=some c->X.env.cells.lookup x=some c)->(∀ x,(x,NameKind.free)∈sc.names->∃ c,cl.lookup x=some c)->s'.heap.CodeRec (.ref c') (X.env.qual++"<lambda>")->SameX P H H'->TbOk pos.line pos.col (X.env.qual++"<lambda>") H' P->(∀ a,H' a=none->H a=none)->Q (.ref f) s'):
  wpAny (model X.prog X.w) X.A (eval (.Lambda N i sc pos) X.env) Q E s:=by
 obtain⟨cl,k,S,U⟩:=vJ L
 have n:s.heap.Ns mainGlobals X.mg:=by
  obtain⟨o,es,ep,e,r⟩:=I.mod.glob;exact⟨o,es,ep,I.bk _ _ e,r⟩
 have p:s.heap.BuiltinsAt X.mg P:=by
  obtain⟨Y,o,h1,h2,h3,h4,h5,h6⟩:=t;exact⟨Y,o,h1,h2,h3,h4,I.bk _ _ h5,h6⟩
 have j:=u.keeps I.bk;refine PySem.W.kla_eval D ?_;rcases Z with e | ⟨a,e,R⟩
 . have F:s.heap.get? P=some (PySem.W.tabObj #[]):=I.hok P _ e;refine PySem.W.kla_makeFunction k I.ok.glob n g j F ?_ ?_ K p λc' d J M ext T aa q B=>?_
   . simp[TriplesOk]
   . rfl
   . have C:=I.grow (t':=M) (more:=tbE pos.line pos.col c') e ext T q (by simpa [tbE] using B);have O:H c'=none:=I.hok.fresh T;have G:P≠c':=λz=>by rw[z,O]at e;cases e
     refine h _ c' cl _ d _ _ (C.pin1 (λv z=>by cases z)) S U (ij q λo e=>N0 _ e) (λb o nb l=>?_) (.inr ⟨c',?_,?_⟩) (λb nb=>?_)
     . rw[ah (λz=>by rw[z,O]at l;cases l),ah nb];exact l
     . rw[ah G,ag];simp[tbE]
     . rw[ag]
     . by_cases z:b=c'
       . rw[z];exact O
       . rw[ah z]at nb;by_cases y:b=P
         . rw[y,ag]at nb;cases nb
         . rw[ah y]at nb;exact nb
 . have F:s.heap.get? P=some (PySem.W.tabObj (tbE pos.line pos.col a)):=I.hok P _ e;refine PySem.W.kla_makeFunctionHit k I.ok.glob n g j F ?_ (cv:=.ref a) ?_ p λd J M m sz=>?_
   . exact Co
   . exact FE
   . have C:Inv X NB σ H {s with heap:=J,toks:=M}:=I.kept m;have q:J.CodeRec (.ref a) (X.env.qual++"<lambda>"):=ij (I.hok a _ R).1 λo e=>m _ _ e;exact h _ a cl _ d H _ (C.pin1 (λv z=>by cases z)) S U (ij q λo e=>N0 _ e) (λb o _ l=>l) (.inr ⟨a,e,R⟩) (λb nb=>nb)
def intOf:Value->Int
 | .int x _=>x
 | _=>0
theorem yf:∀{xs:∅} {NF:List Value},Vals (xs.map V.int) NF->NF.map intOf=xs/\∀ v∈NF,∃ t,v=.int (intOf v) t
 | [],_,r=>by cases r;exact⟨rfl,λ_ h=>nomatch h⟩
 | x::xs,_,r=>by
  cases r with
  | cons h t=>
   obtain⟨c,rfl⟩:=h;have b:=yf t;refine⟨by rw[OD,b.1];rfl,λv a=>?_⟩;rcases N4.mp a with rfl | a
   . exact⟨c,rfl⟩
   . exact b.2 v a
theorem C7:∀{NF:List Value},(∀ v∈NF,∃ t,v=.int (intOf v) t)->Vals ((NF.map intOf).map V.int) NF
 | [],_=>.nil
 | v::NF,h=>.cons (h v (.head _)) (C7 λy a=>h y (.tail _ a))
theorem C9{g:Int->Int}:∀{NF:List Value} {p:Int × Value},p∈((NF.map intOf).map g).zip NF->p.1=g (intOf p.2)/\p.2∈NF
 | [],_,h=>nomatch h
 | v::NF,p,h=>by
  rcases N4.mp (show p∈(g (intOf v),v)::((NF.map intOf).map g).zip NF from h) with rfl | h
  . exact⟨rfl,.head _⟩
  . have:=C9 (NF:=NF) h;exact⟨this.1,.tail _ this.2⟩
theorem Da{g:Int->Int}:∀{NF:List Value},(((NF.map intOf).map g).zip NF).map (λp=>intOf p.2)=NF.map intOf
 | []=>rfl
 | v::NF=>by
  show intOf v::(((NF.map intOf).map g).zip NF).map (λp=>intOf p.2)=intOf v::NF.map intOf;rw[Da (NF:=NF)]
theorem JJ{h:Heap}{L:Addr}{m m':Str->Option Value}(a:h.Ns L m)(b:h.Ns L m'):m=m':=by
 obtain⟨o,n,k,e,d,_,r⟩:=a;obtain⟨l,i,g,f,c,_,j⟩:=b;rw[e]at f;cases f;rw[d]at c;cases c
 funext x
 rw[← r x,← j x]
theorem Ki{n:Nat}{x:Int}(h:n<=sizeLine)(a:x<n):x<2^63:=by
 have:(sizeLine:Int)<2^63:=by decide
 lia
theorem ObjOk.obj{P:Program}{w:World}{H:Hp}{h:Heap}{a:Addr}{o:HO}(x:ObjOk P w H h a o):∃ u,h.get? a=some u:=by
 cases o with
 | lst xs=>obtain⟨_,_,_,_,e⟩:=x;exact⟨_,e⟩
 | tup xs=>obtain⟨_,_,_,_,e,_⟩:=x;exact⟨_,e⟩
 | dK c=>obtain⟨_,_,_,_,o,_,_,e,_⟩:=x;exact⟨_,e⟩
 | dT c=>obtain⟨_,_,_,_,o,_,_,e,_⟩:=x;exact⟨_,e⟩
 | set S n=>obtain⟨o,_,_,_,e,_⟩:=x;exact⟨_,e⟩
 | ins C j b=>obtain⟨_,_,_,e,_⟩:=x;exact⟨_,e⟩
 | own y=>exact x
 | xd b=>obtain⟨_,⟨_,_,_,e,_⟩,_⟩:=x;exact⟨_,e⟩
 | rng d g=>obtain⟨_,_,_,e⟩:=x;exact⟨_,e⟩
 | frz k u=>obtain⟨e,_⟩:=x;exact⟨_,e⟩
 | tbl i=>exact⟨_,x⟩
 | met f y=>exact⟨_,x⟩
 | ext φ=>exact x.2.1
theorem GN {E:Value->Shared->Prop} {Q:Value->Shared->Prop} {l f c' cc Fl:Addr} {cl:List (Str × Addr)} {ps:Arguments} {sc:Scope} {F v q:Str} {p1 p2 p3:Pos} {pm ai:Value} {xs L:∅} (I:Inv X NB σ H s) (hr:X.A.depth<recursionLimit)
  (pf:(f,PySem.W.kla_obj "<lambda>" q ps (.Subscript (.Name F p1) (.Name v p2) p3) sc cl pm c' ai)∈NB) (al:s.heap.CodeRec (.ref c') q) (ao:cl.lookup F=some cc) (S:s.heap.IsCell cc ↑Fl) (aq:cc≠X.env.locals) (hl:H l=↥(xs.map V.int)) (hF:H Fl=↥(L.map V.int)) (hb:∀ x∈xs,0<=x/\x<L.length) (av:xs.length<64)
  (ap:∀ x t,bindArgs (PySem.W.kla_fn "<lambda>" q ps (.Subscript (.Name F p1) (.Name v p2) p3) sc cl pm (.ref c') ai) ⟨[.int x t],[]⟩=pure [(v,.int x t)])
  (hk:sc.kind=.function) (aD:sc.isCoroutine=false) (au:sc.isGenerator=false) (hf:∀ y∈sc.names,y.2≠.cell) (hv:sc.names.lookup v=some .local) (ay:sc.names.lookup F=some .free)
  (as:(F==("__debug__":Str))=false) (aC:(F==("__classdict__":Str))=false) (ar:(v==("__debug__":Str))=false)
  (h:∀(zs:∅) (D:Addr) (s':Shared),Inv X NB σ (upd H D (.lst (zs.map V.int))) s'->H D=none->zs.Perm xs->zs.Pairwise (λx y=>L.getD x.toNat 0<=L.getD y.toNat 0)->Q (.ref D) s'):
  wpAny (model X.prog X.w) X.A (call (.builtin "sorted") [.ref l] [("key",.ref f)]) Q E s:=by
 obtain⟨m,fr⟩:=I.fr;obtain⟨NF,n,rv,ho,hz⟩:=I.lst hl;obtain⟨C,nf,rf,ax,ac⟩:=I.lst hF;have iv:=yf rv;have U:=yf rf;have xl:NF.length=xs.length:=by rw[← iv.1,NM]
 have aI:C.length=L.length:=by rw[← U.1,NM]
 obtain⟨pg,pn,pL,_⟩:=I.pin _ (OG _ pf)
 have c:∀{h:Heap} {ak:List (Addr × Obj)},Fr X.base X.env.locals h m->News X.base X.env.locals h (o0 X.base s.heap X.env.locals++ak)->∀ b o,b≠X.env.locals->s.heap.get? b=some o->h.get? b=some o:=λF N b o nb e=>by
  cases q:X.base.get? b with
  | some o'=>
   have:=I.bk b o' q;rw[e]at this;cases this;exact F.keep b o q
  | none=>exact(N _ (Py _ (uh nb q e))).1
 have T:∀ b u,H b=some u->b≠X.env.locals:=λb u e z=>by rw[z,I.free]at e;cases e
 refine ksk_sorted (b:=false) (kz:=(NF.map intOf).map λx=>L.getD x.toNat 0) fr Ga ⟨_,ho,rfl,n,rfl⟩ (by simp) #[4] (by ksk_a1) (λx=>by ksk_a2) (λx=>by ksk_a3) (λi u k hu ad h tk ak F N=>?_) (λD h' tk B cn F N lt ko=>?_)
 . have am:=NS hu;obtain⟨t,ht⟩:=iv.2 u am;have xm:intOf u∈xs:=by rw[← iv.1];exact List.mem_map_of_mem am
   have xb:=hb _ xm
   have ek:k=L.getD (intOf u).toNat 0:=by
    rw[NR,NR,hu]at ad;exact(Pi ad).symm
   have R:(intOf u).toNat<C.length:=by lia
   have wf:C[(intOf u).toNat]? =some (C[(intOf u).toNat]'R):=NN R;obtain⟨t',ab⟩:=U.2 _ (NS wf)
   have ew:intOf (C[(intOf u).toNat]'R)=k:=by
    rw[ek,← U.1,List.getD,NR,wf];rfl
   rw[ew]at ab
   have cL:c'≠X.env.locals:=λz=>by
    obtain⟨_,o,vs,_,e1,g1,d1,_⟩:=al;cases e1;obtain⟨o2,es,ep,g2,d2,_⟩:=fr.ns;rw[z,g2]at g1;cases g1;rw[d2]at d1;cases d1
   have P:h.IsCell cc ↑Fl:=by
    obtain⟨o,e,d⟩:=S;exact⟨o,c F N _ _ aq e,d⟩
   rw[ht];refine Im (NF:=C.toArray) (u:=.int k t') (s:={heap:=h,gens:=s.gens,drawn:=s.drawn,toks:=tk,os:=s.os}) hr (c F N _ _ pL pg) ao (ij al λo e=>c F N _ _ cL e) P ⟨_,c F N _ _ (T _ _ hF) ax,rfl,nf,rfl⟩ xb.1 (Ki (by rw[NM]at ac;exact ac) xb.2) (by rw[← ab];simpa using wf) (I.mod.nolimit.keeps F.keep) (ap _ _) hk aD au hf hv ay as aC ar λh2 aA O=>?_;obtain⟨o,es,ep,g,r⟩:=F.ns;exact⟨h2,aA,t',rfl,rfl,⟨⟨o,es,ep,O _ _ g,r⟩,λb o e=>O _ _ (F.keep b o e),F.above⟩,λp M=>⟨O _ _ (N p M).1,(N p M).2⟩⟩
 . obtain⟨Z,af,eo,pw⟩:=ko;have N2:News X.base X.env.locals h' (o0 X.base s.heap X.env.locals++[]):=λp M=>N p (N5 _ (by simpa using M));have kp:=c F N2;have nd:=N _ (.head _);have aa:∀ b o,b≠X.env.locals->X.base.get? b=none->s.heap.get? b=some o->b<D:=λb o nb q e=>lt _ (uh nb q e)
   have hD:H D=none:=by
    cases q:H D with
    | none=>rfl
    | some u=>
     obtain⟨o,e⟩:=(I.hok D u q).obj;exact absurd (aa D o nd.2.1 nd.2.2 e) (O0 _)
   have az:∀ b o,s.heap.get? b=some o->b≠D:=λb o e z=>by
    rw[z]at e;exact absurd (aa D o nd.2.1 nd.2.2 e) (O0 _)
   have G:∀ b u,H b=some u->b≠D:=λb u e z=>by rw[z,hD]at e;cases e
   have j:∀{o:HO} b,b≠D->upd H D o b=H b:=λb z=>ah z
   have aH:∀ m',s.heap.Ns X.env.locals m'->h'.Ns X.env.locals m':=λm' hm=>by
    rw[JJ hm fr.ns];exact F.ns
   have J:(Z.map λp=>intOf p.2).Perm xs:=by
    have:=af.map λp=>intOf p.2;rw[Da,iv.1]at this;exact this
   have Y:∀ p∈Z,p.1=L.getD (intOf p.2).toNat 0/\p.2∈NF:=λp M=>C9 (g:=λx=>L.getD x.toNat 0) (af.mem_iff.mp M);have eq:B.toList.map intOf=Z.map λp=>intOf p.2:=by rw[eo,Op];rfl
   have aE:Vals ((B.toList.map intOf).map V.int) B.toList:=C7 λy hy=>by
    rw[eo]at hy;obtain⟨p,M,rfl⟩:=N9.mp hy;exact iv.2 _ (Y p M).2
   have NJ:((B.toList.map intOf).map V.int).length<=sizeLine:=by
    rw[NM,eq,J.length_eq];exact OH (Nat.lt_trans av #[1])
   refine h (B.toList.map intOf) D _ (I.step (g':=s.gens) (d':=s.drawn) (t':=tk) (ch:=[]) (λ_ z=>nomatch z) (λb o nL _ _ e _=>kp b o nL e) (λb o nL _ _ e _=>⟨o.slots,kp b o nL e⟩) (λb o _ e n=>by rw[j b (az b o e)];exact n) (λb o _ e=>?_) (λb ys e=>by rw[j b (G b _ e)];exact e) (λb o u e=>by rw[j b (G b _ e)];exact e) (λb qs e=>⟨#[],by rw[j b (G b _ e),e];simp⟩) aH (λb u e=>?_) I.bare) hD ?_ ?_
   . by_cases z:b=X.env.locals
     . obtain⟨o2,_,_,g,_⟩:=F.ns;rw[z];exact⟨o2,g⟩
     . exact⟨o,kp b o z e⟩
   . by_cases z:b=D
     . rw[z,ag]at e;cases e;rw[z];exact⟨NJ,B.toList,cn,aE,nd.1⟩
     . rw[j b z]at e;refine(I.hok b u e).stay (λd w K g=>kp d w ?_ g) (λd K=>by rw[j d (G d _ K)];exact K) λd ys K=>by rw[j d (G d _ K)];exact K
       rcases K with rfl | K
       . exact T _ _ e
       . exact T _ _ K
   . rw[eq];exact J
   . rw[eq,List.pairwise_map];refine List.Pairwise.imp_of_mem (λ{a b} ha aG r=>?_) pw;rw[← (Y a ha).1,← (Y b aG).1]
     simpa using r
theorem TbOk.put{l c:Nat}{q:Str}{P D:Addr}{o:HO}(x:TbOk l c q H P)(d:H D=none):TbOk l c q (upd H D o) P:=by
 rcases x with e | ⟨a,e,b⟩
 . exact .inl (by rw[ah (λz=>by rw[z,d]at e;cases e)];exact e)
 . exact .inr ⟨a,by rw[ah (λz=>by rw[z,d]at e;cases e)];exact e,by rw[ah (λz=>by rw[z,d]at b;cases b)];exact b⟩
def qH(P:Addr)(l c:Nat)(q:Str)(te:TE)(i:Nat):TE:=λσ H Q=>te σ H λv H1=>∃(a F:Addr) (xs b:∅),v=.ref a/\H1 a=↥(xs.map V.int)/\σ[i]? =some ↑F/\H1 F=↥(b.map V.int)/\(∀ x∈xs,0<=x/\x<b.length)/\xs.length<64/\TbOk l c q H1 P/\
 ∀(e:∅) (r:Addr) (d:Hp),H1 r=none->e.Perm xs->e.Pairwise (λx y=>b.getD x.toNat 0<=b.getD y.toNat 0)->SameX P H1 d->TbOk l c q d P->d r=↥(e.map V.int)->Q (.ref r) d
theorem DN {e:Expr} {te:TE} {p pos E kp p1 O p3:Pos} {F v q:Str} {i:Nat} {G:Arguments} {sc:Scope} {c P:Addr} (al:Gl X "sorted") (hl:X.mg "sorted"=none) (hr:X.A.depth<recursionLimit) (k:X.env.code=.ref c) (L:PySem.W.CodeHd X.base c P) (K:X.base.BuiltinsAt X.mg P) (ac:mainGlobals≠P) (he:PE X e te) (hN:X.N[i]? =some F) (d:X.env.scope.names.lookup F=some .cell) (hq:X.env.qual++"<lambda>"=q)
  (S:defaultsOf G X.env=([],[])) (ad:∀ x,(x,NameKind.free)∈sc.names->x=F) (ab:(F,NameKind.free)∈sc.names)
  (M:∀ cl U c' g x t,bindArgs (PySem.W.kla_fn "<lambda>" q G (.Subscript (.Name F p1) (.Name v O) p3) sc cl U (.ref c') g) ⟨[.int x t],[]⟩=pure [(v,.int x t)])
  (hk:sc.kind=.function) (af:sc.isCoroutine=false) (ao:sc.isGenerator=false) (hf:∀ y∈sc.names,y.2≠.cell) (hv:sc.names.lookup v=some .local) (J:sc.names.lookup F=some .free)
  (Z:(F==("__debug__":Str))=false:=by decide) (aa:(F==("__classdict__":Str))=false:=by decide) (T:(v==("__debug__":Str))=false:=by decide)
  (j:starEach [e] X.env=[(false,eval e X.env)]:=by rfl):
  PE X (.Call (.Name "sorted" p) [e] [⟨some "key",.Lambda G (.Subscript (.Name F p1) (.Name v O) p3) sc E,kp⟩] pos) (qH P E.line E.col q te i):=by
 subst hq;intro NB s σ H Q I h;refine OW (fm I al hl kP ?_ #[1] #[1]);refine callWith_builtin_kwB (by rw[j];rfl) rfl ?_;refine evalArgs_kw2 rfl ?_ j;rw[j];show wpAny _ _ (spliced [(false,eval e X.env)]) _ _ s;refine Pt (thn (he NB s σ H _ I h) λu s1 ⟨x,H1,I1,r1,q1⟩=>?_);refine Pz ?_;obtain⟨a,Fl,xs,fs,rfl,ea,eσ,eF,hb,ap,tb,q⟩:=q1;cases r1;show wpAny _ _ (evalAll [eval (.Lambda G (.Subscript (.Name F p1) (.Name v O) p3) sc E) X.env >>= λv=>standAt pos >>= λ_=>pure v]) _ _ s1;refine wpAny_evalAll_cons ?_;refine N7 ?_;obtain⟨cc,ai⟩:=I.ok.has F (.inl d);refine GM I1 k L K ac tb S (λx hx=>by rw[ad x hx];exact⟨cc,ai⟩) λf c' cl U g H2 s2 I2 c1 c2 cr C R am=>?_;refine N7 (RD ?_);refine OC ?_;refine wpAny_evalAll_nil ?_;show wpAny _ _ (call (.builtin "sorted") [.ref a] [("key",.ref f)]) _ _ s2;obtain⟨cf,n⟩:=c2 F ab;have w:=c1 F cf n
 have l:s2.heap.IsCell cf ↑Fl:=by
  obtain⟨m,_,ak⟩:=I2.loc;obtain⟨u,r,lk⟩:=ak i F (.ref Fl) hN eσ (.inr (.inl d));cases r;rcases lk with ⟨k1,_⟩ | ⟨_,c3,e3,z⟩
  . have k2:X.env.scope.names.lookup F=some .local:=k1;rw[d]at k2;cases k2
  . rw[w]at e3;cases e3;exact z
 have nP:∀{b:Addr} {ys:List V},H1 b=↥ys->b≠P:=λB z=>by
  rcases tb with e | ⟨_,e,_⟩ <;> (rw[z,e]at B;cases B)
 refine GN I2 hr (.head _) cr n l (I2.cne F cf w) (C _ _ (nP ea) ea) (C _ _ (nP eF) eF) hb ap (M cl U c' g) hk af ao hf hv J Z aa T λzs D s' I3 hD Y pw=>?_;refine⟨.ref D,_,I3.pins_of λp hp=>I3.pin p (OG _ (.tail _ hp)),rfl,q zs D _ (am D hD) Y pw (λb o nb B=>?_) (R.put hD) ag⟩;rw[ah (λz=>by have:=C b o nb B;rw[z,hD]at this;cases this)];exact C b o nb B
end
theorem FF {P:Program} {w:World} {K:Frag} {A mb:Str->Option Value} {CX:CXT} {k:Nat} {fa a:Addr} {fd:FuncData} {x:Str} {sp:Sp} {c:Shared} {vs:List Value} {ns:∅}
  {j:Addr} (KX:K.In c.heap) (E:c.heap.get? j=some (PySem.W.tabObj #[])) (R:K.lookup j=none) (ak:isCodeTable c.heap j) (ab:c.heap.BuiltinsAt A j) (O:c.heap.Ns mainGlobals A) (f:c.heap.Ns builtinsNs mb) (ai:∀ x:Str,x≠"__name__"->mb x=bootBuiltins x) (N:c.heap.NoLimit) (hg:c.gens=#[])
  (J:c.heap.get? a=some {cls:=.type "list",data:=.seq vs.toArray}) (hi:IntsAre vs ns) (hl:ns.length<=sizeLine) (hr:Room k callerA)
  (F:∀ l:Heap,K.In l->l.Ns mainGlobals A->l.BuiltinsAt A j->FnOk P w K A l CX k fa fd [x] sp) (D:∀(s:Shared) (u:Value),BindsTo s fd ⟨[u],[]⟩ [(x,u)])
  (aa:∀ H:Hp,H j=some (.tbl #[])->SqL K H a (ns.map V.int)->sp [.ref a] H (λv _=>v=.bl true) λ_ _ _=>False)
  (ah:∀ H e s',CX [] H c (λ_ _ _=>False) e s'->False):
  codeAny (model P w) callerA (.call (.ref fa) ⟨[.ref a],[]⟩) (λr s'=>r=.ok (.ret (.bool true))/\OldK c.heap s'.heap/\s'.os=c.os/\AllBare s'.gens) c:=by
 have rv:=rM hi;have U:=hi.length
 have C:∀ H:Hp,(∀ b,H b=none\/(∃ o xs,H b=some (.frz o (.lst xs)))\/b=j)->H j=some (.tbl #[])->SqL K H a (ns.map V.int)->HOk P w H c.heap->(∀ b,H b≠none->b=a\/b=j)->(H a≠none->K.lookup a=none)->
   codeAny (model P w) callerA (.call (.ref fa) ⟨[.ref a],[]⟩) (λr s'=>r=.ok (.ret (.bool true))/\OldK c.heap s'.heap/\s'.os=c.os/\AllBare s'.gens) c:=by
  intro H hO hT hS L hA hK;have i:∀{b:Addr} {o:Obj},c.heap.get? b=some o->H b=none->(hidT c.heap H).get? b=some o:=λe n=>F9 e n
  have af:∀{b:Addr} {o:Obj} {G:Array DictEntry} {I:Nat},c.heap.get? b=some o->o.data=.dict G I->H b=none:=λ{b o G I} e d=>by
   cases q:H b with
   | none=>rfl
   | some u=>
    rcases hA b (by rw[q];simp) with e' | e'
    . subst e';rw[J]at e;cases e;have d':Data.seq vs.toArray _=Data.dict G I:=d;cases d'
    . subst e';rw[E]at e;cases e;have d':Data.fields #[]=Data.dict G I:=d;cases d'
  have y:∀{b:Addr} {m:Str->Option Value},c.heap.Ns b m->(hidT c.heap H).Ns b m:=λ{b m} ⟨o,G,I,e,d,r⟩=>⟨o,G,I,i e (af e d),d,r⟩
  have Q:K.In (hidT c.heap H):=λb o e=>i (KX b o e) (by
   cases q:H b with
   | none=>rfl
   | some u=>
    rcases hA b (by rw[q];simp) with e' | e'
    . subst e';rw[hK (by rw[q];simp)]at e;cases e
    . subst e';rw[R]at e;cases e)
  have ad:(hidT c.heap H).BuiltinsAt A j:=by
   obtain⟨Z,o,h1,h2,h3,h4,h5,h6,h7,h8⟩:=ab;refine⟨Z,o,h1,h2,h3,h4,i h5 ?_,h6,h7,h8⟩
   cases q:H Z with
   | none=>rfl
   | some u=>
    rcases hA Z (by rw[q];simp) with e' | e'
    . subst e';rw[J]at h5;cases h5;cases h8
    . exact absurd e' h4
  have hM:Mod K A (hidT c.heap H):=⟨Q,y O,⟨mb,y f,ai⟩,let ⟨mc,h1,h2⟩:=N;⟨mc,y h1,h2⟩⟩;have e0:Env0 P w K A (hidT c.heap H) callerA [] c H:=⟨rfl,hM,λb o e=>Hh e,Nat.le_of_eq (Eo _ _),trivial,λb f=>absurd (show b∈([]:List Addr) from f) (by simp),L,.of_eq hg⟩;refine RI ((F _ Q (y O) ad).run callerA [] c H ⟨[.ref a],[]⟩ [.ref a] [.ref a] _ _ hr e0 (D c (.ref a)) (.cons rfl .nil) (aa H hT hS)) λr s' h=>?_
  cases r with
  | error e=>exact(ah H e s' h).elim
  | ok fl=>
   cases fl with
   | next=>exact False.elim h
   | brk=>exact False.elim h
   | cont=>exact False.elim h
   | ret u=>
    obtain⟨v,H',os,S,X,B,r',q⟩:=h;have q':v=.bl true:=q;subst q';obtain rfl:u=Value.bool true:=r'
    have ac:∀ b o,c.heap.get? b=some o->asItWas c.heap s'.heap b o:=λb o e=>by
     cases q:H b with
     | none=>exact .inl (X.keep b o e q (by intro z;exact absurd (show b∈([]:List Addr) from z) (by simp)) (by simp))
     | some u=>
      rcases hO b with z | ⟨ob,xs,z⟩ | z
      . rw[q]at z;cases z
      . have z2:=X.frzs b ob _ z;obtain⟨e1,_⟩:=L b _ z;obtain⟨e2,_⟩:=B b _ z2;rw[e]at e1;cases e1;exact .inl e2
      . subst z;obtain⟨T,em⟩:=X.tbls b _ hT;have g:=B b _ em;rw[E]at e;cases e;exact .inr (.inl ⟨ak,rfl,#[],T,rfl,g⟩)
    exact⟨rfl,⟨ac,λb o e=>X.there b o e (by simp)⟩,os,S⟩
 cases M:K.lookup a with
 | some o=>
  have e:=KX a o M;rw[J]at e;cases e;refine C (λb=>if b=j then some (.tbl #[]) else none) (λb=>?_) (Os rfl) (.inr ⟨_,vs.toArray,_,M,rfl,rfl,rfl,by rw[N8,U];exact hl,by simpa using rv⟩) (λb u z=>?_) (λb z=>?_) (λz=>?_)
  . by_cases f:b=j
    . exact .inr (.inr f)
    . exact .inl (Og f)
  . by_cases f:b=j
    . have p:=(Os f).symm.trans z;cases p;rw[f];exact E
    . have p:=(Og f).symm.trans z;cases p
  . by_cases f:b=j
    . exact .inr f
    . exact absurd (Og f) z
  . have Y:a≠j:=λe=>by rw[e,R]at M;cases M
    exact absurd (Og Y) z
 | none=>
  refine C (λb=>if b=a then some (.frz {cls:=.type "list",data:=.seq vs.toArray} (.lst (ns.map V.int))) else if b=j then some (.tbl #[]) else none) (λb=>?_) ?_ (.inl (.inr ⟨{cls:=.type "list",data:=.seq vs.toArray},Os rfl⟩)) (λb u z=>?_) (λb z=>?_) λ_=>M
  . by_cases f:b=a
    . exact .inr (.inl ⟨_,_,Os f⟩)
    . by_cases t:b=j
      . exact .inr (.inr t)
      . exact .inl ((Og f).trans (Og t))
  . have Y:j≠a:=λe=>by rw[e,J]at E;cases E
    exact(Og Y).trans (Os rfl)
  . by_cases f:b=a
    . have p:=(Os f).symm.trans z;cases p;subst f;exact⟨J,by rw[NM];exact hl,vs,_,rv,J⟩
    . by_cases t:b=j
      . have p:=((Og f).trans (Os t)).symm.trans z;cases p;rw[t];exact E
      . have p:=((Og f).trans (Og t)).symm.trans z;cases p
  . by_cases f:b=a
    . exact .inl f
    . by_cases t:b=j
      . exact .inr t
      . exact absurd ((Og f).trans (Og t)) z
def GO {l:PySem.W.OpenLaw} {n k:Nat} {q:Program} {j:List Str} {Z:(Str->Option Value)->Heap->Prop} {O:World->Heap->Prop} {d:DefRec} {K:Params->Frag} {CX:World->CXT} {sp:World->Sp} {x:Str}
  (hn:l.most=some n) (A:n<=sizeLine) (C:d.params.defaults=[]) (hr:Room k callerA)
  {p c':Addr} (M:∀(w:World) (h:Heap),O w h->(K w.params).In h/\h.get? p=some (PySem.W.tabObj #[])) (E:∀ w:World,(K w.params).lookup p=none) (J:∀(w:World) (h:Heap),(K w.params).In h->isCodeTable h p)
  (F:∀(w:World) (i:Str->Option Value) (t:Addr) (h:Heap),(K w.params).In h->h.Ns mainGlobals i->i d.name=↑t->
   ∃ L:FuncData,(∀(s:Shared) (u:Value),BindsTo s L ⟨[u],[]⟩ [(x,u)])/\
    ∀ c:Heap,(K w.params).In c->c.Ns mainGlobals i->c.BuiltinsAt i p->FnOk l.prog w (K w.params) i c (CX w) k t L [x] (sp w))
  (y:∀(w:World) (H:Hp) (a:Addr) (ns:∅),ns.length<=n->H p=some (.tbl #[])->SqL (K w.params) H a (ns.map V.int)->sp w [.ref a] H (λv _=>v=.bl true) λ_ _ _=>False)
  (I:∀(w:World) (H:Hp) (s:Shared) (e:Value) (s':Shared),CX w [] H s (λ_ _ _=>False) e s'->False):
  PySem.W.WalkO q j Z O l.row.toRowW d [] (λf vs=>PySem.call f vs):=by
 refine Att.attach_call hn C λw s₀ N i mb t o pm cd U a vs ns G Y ho hd S B r m P hg=>?_;have D:=(M w _ Y).1;have Q:=(M w _ Y).2;obtain⟨L,hb,hF⟩:=F w i t _ D G.T.g B
 have z:N.heap.BuiltinsAt i p:=by
  obtain⟨X,ob,h1,h2,h3,h4,h5,h6⟩:=G.T.bmain;refine⟨X,ob,h1,h2,λe=>?_,λe=>?_,h3,h4,h5,h6⟩
  . obtain⟨o,es,ep,g,d,_⟩:=G.T.g;rw[e,g]at h3;cases h3;rw[h6]at d;cases d
  . rw[e,Q]at h3;cases h3;cases h6
 exact FF D Q (E w) (J w _ D) z G.T.g G.T.b G.T.builtins G.T.nolimit hg r m (NY P A) hr hF hb (λH hO R=>y w H a ns P hO R) λH e s'=>I w H N e s'
structure Z5 where
 P:Program
 w:World
 K:Frag
 mg:Str->Option Value
 base:Heap
structure Bt3(Z:Z5):Prop extends Bt2 Z.mg where
 ns:∀{x:Str} {v:Value},nsIn Z.K mainGlobals x=some (some v)->Z.mg x=some v
def Nn(K:Frag)(b:Str):Prop:=nsIn K mainGlobals b=some none
def Zn(K:Frag):Prop:=Nn K "len"/\Nn K "abs"/\Nn K "min"/\Nn K "max"/\Nn K "sorted"/\Nn K "any"/\Nn K "isinstance"/\Nn K "list"/\Nn K "int"/\Nn K "bool"/\Nn K "str"/\Nn K "tuple"/\Nn K "reversed"/\Nn K "set"/\Nn K "range"/\Nn K "zip"/\Nn K "all"/\Nn K "sum"/\Nn K "enumerate"
theorem JK{Z:Z5}{h:Heap}(X:Z.K.In h)(G:h.Ns mainGlobals Z.mg)(z:Zn Z.K):Bt3 Z:=by
 obtain⟨a,b,c,d,e,f,g,i,j,k,l,m,n,o,p,q,r,s,t⟩:=z;have N:∀{b:Str},Nn Z.K b->Z.mg b=none:=λh=>PySem.W.mg_none_of X G h;exact⟨⟨⟨N a,N b,N c,N d,N e,N f,N g,N i,N j,N k,N l,N m,N n,N o,N p,N q⟩,N r,N s,N t⟩,λh=>PySem.W.mg_of X G h⟩
structure De(K:Frag)(x:Str)(st:Stmt):Prop where
 ex:∃(f:Addr) (fd:FuncData),nsIn K mainGlobals x=some ↑f/\Fun K x x st f fd
structure Me(K:Frag)(x qual:Str)(st:Stmt)(f:Addr):Prop where
 ex:∃ fd:FuncData,Fun K x qual st f fd/\isFn K (.ref f)=true
structure ClsP(K:Frag)(x:Str)(A f:Addr):Prop where
 q:nsIn K mainGlobals x=some ↑A
 m1:PySem.W.makesIn K A=true
 m2:findIn K (.ref A) "__init__"=some ↑f
 m4:keepIn K (.ref A)=true
 cl:Cls K A
def mkC(a d c b e f h g:Addr):RO:=⟨λk=>match k with | .Rule=>a | .Unlike=>a | .Sum=>d | .Rising=>c | .Seen=>b | .Count=>e | .Joined=>f | .NoSquare=>h | .Ring=>g,λk=>match k with | .Rule=>false | _=>true⟩
def mk1(c:RO)(k:RK):RO:=⟨c.A,match k with | .Joined=>(λi=>match i with | .Joined=>true | _=>false) | .Ring=>(λi=>match i with | .Ring=>true | _=>false) | _=>λ_=>false⟩
def mkD(y:Addr):RP:=⟨λ_=>y,λ_=>true⟩
theorem pp{c:RO}{k i:RK}(h:(mk1 c k).ok i=true):i=k:=by cases k <;> cases i <;> first | rfl | cases h
def At8(K:Frag)(m:Str)(v:Option Value)(e c b a d f h g:Addr):Prop:=findIn K (.ref e) m=some v/\findIn K (.ref c) m=some v/\findIn K (.ref b) m=some v/\findIn K (.ref a) m=some v/\findIn K (.ref d) m=some v/\findIn K (.ref f) m=some v/\findIn K (.ref h) m=some v/\findIn K (.ref g) m=some v
def C8(K:Frag)(e c b a d f h g:Addr):Prop:=Cls K e/\Cls K c/\Cls K b/\Cls K a/\Cls K d/\Cls K f/\Cls K h/\Cls K g
section
variable{Z:Z5}{K:Frag}{x1 x2 x3 x4 x5 x6 x7 x8 f:Addr}{m:Str}{v:Option Value}
theorem at8(h:At8 K m v x1 x2 x3 x4 x5 x6 x7 x8)(k:RK):findIn K (.ref ((mkC x1 x2 x3 x4 x5 x6 x7 x8).A k)) m=some v:=by
 obtain⟨a,b,c,d,e,f,g,i⟩:=h;cases k <;> assumption
theorem c8(h:C8 K x1 x2 x3 x4 x5 x6 x7 x8)(k:RK):Cls K ((mkC x1 x2 x3 x4 x5 x6 x7 x8).A k):=by
 obtain⟨a,b,c,d,e,f,g,i⟩:=h;cases k <;> assumption
def fk8(C:C8 K x1 x2 x3 x4 x5 x6 x7 x8)(h:At8 K m none x1 x2 x3 x4 x5 x6 x7 x8):FldK K (mkC x1 x2 x3 x4 x5 x6 x7 x8) m:=⟨λk _=>⟨c8 C k,at8 h k⟩⟩
def fk1{c:RO}{k:RK}(b:c.ok k=true)(F:FldK K c m):FldK K (mk1 c k) m:=⟨λi a=>by cases pp a;exact F.ex k b⟩
variable{N ps:List Str}{k k':Nat}{sp sp':Sp}{t:TS}{x qual:Str}{st:Stmt}
abbrev Hb(Z:Z5)(N:List Str)(qual:Str)(st:Stmt)(f:Addr)(k:Nat)(t:TS):Prop:=∀{b:Value} {A:Around} {a:List Env} {s:Shared} {H:Hp} {E:XK},Room k (A.deeper (envOfC qual (aN st) s.heap.objs.size f b))->(A.deeper (envOfC qual (aN st) s.heap.objs.size f b)).units+64<cLine->N.Nodup->PSs (cxOf CX0 Z.P Z.w Z.K Z.mg Z.base N qual (aN st) f b A a s H E).nox (bZ st) t
abbrev Rk(N:List Str)(sp:Sp)(t:TS):Prop:=∀{vs H Q E},sp vs H Q E->t (eD9 Q) (start N vs) H
abbrev Ln(ps:List Str)(sp:Sp):Prop:=∀{vs H Q E},sp vs H Q E->vs.length=ps.length
abbrev Bd(x qual:Str)(st:Stmt)(ps:List Str):Prop:=∀(g a f:Value) (e:Option Addr) (d c:Value) (b:List Value),b.length=ps.length->bindArgs (fnOf x qual (c6 st) (bZ st) (aN st) .none g a f e d c) ⟨b,[]⟩=pure (ps.zip b)
def okf{f:Addr}{c:FuncData}(F:Fun Z.K x qual st f c)(S:iY N ps (aN st))(g:Rk N sp t)(e:Hb Z N qual st f k t)(a:Ln ps sp):FnOk Z.P Z.w Z.K Z.mg Z.base CX0 (k+1) f c ps sp:=F.ok S (λ_ _ _ _ h=>a h) λi A b s H vs Q E d h=>⟨t,e d d.units S.nd,g h⟩
local macro_rules | `(tactic| walk_at "l")=>`(tactic| (intro vs H Q E h; (repeat obtain ⟨_,h⟩:=h); subst_vars; rfl))
theorem yg{α:Type}{us:List α}{n:Nat}(e:us.length=n+1):∃ u t,t.length=n/\us=u::t:=by
 cases us with
 | nil=>cases e
 | cons u t=>exact⟨u,t,Nat.succ.inj e,rfl⟩
theorem bd1{b:Str}(h:∀ j a i g d ct c,bindArgs (fnOf x qual (c6 st) (bZ st) (aN st) .none j a i g d ct) ⟨[c],[]⟩=pure ([b].zip [c]):=by intros;rfl):Bd x qual st [b]:=by
 intro _ _ _ _ _ _ _ e;(iterate 1 (obtain⟨_,_,f,rfl⟩:=yg e;clear e;have e:=f;clear f));cases OV e;exact h ..
theorem bd2{b d:Str}(h:∀ l a k j i ct g c,bindArgs (fnOf x qual (c6 st) (bZ st) (aN st) .none l a k j i ct) ⟨[g,c],[]⟩=pure ([b,d].zip [g,c]):=by intros;rfl):Bd x qual st [b,d]:=by
 intro _ _ _ _ _ _ _ e;(iterate 2 (obtain⟨_,_,f,rfl⟩:=yg e;clear e;have e:=f;clear f));cases OV e;exact h ..
theorem bd3{b i d:Str}(h:∀ n a m l k ct j c g,bindArgs (fnOf x qual (c6 st) (bZ st) (aN st) .none n a m l k ct) ⟨[j,c,g],[]⟩=pure ([b,i,d].zip [j,c,g]):=by intros;rfl):Bd x qual st [b,i,d]:=by
 intro _ _ _ _ _ _ _ e;(iterate 3 (obtain⟨_,_,f,rfl⟩:=yg e;clear e;have e:=f;clear f));cases OV e;exact h ..
theorem bd4{b k g i:Str}(h:∀ p a o n m ct l d j c,bindArgs (fnOf x qual (c6 st) (bZ st) (aN st) .none p a o n m ct) ⟨[l,d,j,c],[]⟩=pure ([b,k,g,i].zip [l,d,j,c]):=by intros;rfl):Bd x qual st [b,k,g,i]:=by
 intro _ _ _ _ _ _ _ e;(iterate 4 (obtain⟨_,_,f,rfl⟩:=yg e;clear e;have e:=f;clear f));cases OV e;exact h ..
theorem bd5{b l i j m:Str}(h:∀ r a q p o ct n g k d c,bindArgs (fnOf x qual (c6 st) (bZ st) (aN st) .none r a q p o ct) ⟨[n,g,k,d,c],[]⟩=pure ([b,l,i,j,m].zip [n,g,k,d,c]):=by intros;rfl):Bd x qual st [b,l,i,j,m]:=by
 intro _ _ _ _ _ _ _ e;(iterate 5 (obtain⟨_,_,f,rfl⟩:=yg e;clear e;have e:=f;clear f));cases OV e;exact h ..
theorem bd6{b n i j o k:Str}(h:∀ t a s r q ct p g m d c l,bindArgs (fnOf x qual (c6 st) (bZ st) (aN st) .none t a s r q ct) ⟨[p,g,m,d,c,l],[]⟩=pure ([b,n,i,j,o,k].zip [p,g,m,d,c,l]):=by intros;rfl):Bd x qual st [b,n,i,j,o,k]:=by
 intro _ _ _ _ _ _ _ e;(iterate 6 (obtain⟨_,_,f,rfl⟩:=yg e;clear e;have e:=f;clear f));cases OV e;exact h ..
local macro_rules | `(tactic| ac_rfl)=>`(tactic| exact ⟨rfl,rfl,rfl,by decide+kernel,rfl,by decide+kernel,by decide+kernel⟩)
def okc(B:Bt3 Z)(D:De Z.K x st)(e:Rk N sp t)(b:Bd x x st ps)(g:∀{f},Hb Z N x st f k t)(S:iY N ps (aN st):=by ac_rfl)(c:Ln ps sp:=by walk_at "l"):Cal Z.P Z.w Z.K Z.mg Z.base (k+1) x ps sp:=
 let ⟨f,d,a,F⟩:=D.ex
 ⟨f,d,okf F S e g c,B.ns a,F.kp,F.binds b⟩
structure Mo(Z:Z5)(k:Nat)(f:Addr)(ps:List Str)(sp:Sp):Prop where
 ex:∃ fd:FuncData,FnOk Z.P Z.w Z.K Z.mg Z.base CX0 k f fd ps sp/\Binds Z.K fd ps []/\isFn Z.K (.ref f)=true/\keepIn Z.K (.ref f)=true
def okm(D:Me Z.K x qual st f)(d:Rk N sp t)(b:Bd x qual st ps)(e:Hb Z N qual st f k t)(S:iY N ps (aN st):=by ac_rfl)(a:Ln ps sp:=by walk_at "l"):Mo Z (k+1) f ps sp:=
 let ⟨c,F,n⟩:=D.ex
 ⟨c,okf F S d e a,F.binds b,n,F.kp⟩
theorem Mo.at{C:Addr}(T:Mo Z k f ps sp)(cl:Cls Z.K C)(a:findIn Z.K (.ref C) m=some ↑f)(d:∀ vs H Q E,sp' vs H Q E->sp vs H Q E)(g:k<=k':=by decide):∃(f:Addr) (c:FuncData),Cls Z.K C/\Meth Z.K C m f/\FnOk Z.P Z.w Z.K Z.mg Z.base CX0 k' f c ps sp'/\Binds Z.K c ps []:=
 let ⟨c,F,b,n,e⟩:=T.ex
 ⟨f,c,cl,⟨a,n,e⟩,(F.mono g).imp d,b⟩
def Mo.mke{C:Addr}(T:Mo Z k f ps sp)(B:Bt3 Z)(c:ClsP Z.K x C f):KCal Z.P Z.w Z.K Z.mg Z.base k x C ps sp:=
 let ⟨a,F,b,n,_⟩:=T.ex
 ⟨f,a,⟨c.m1,c.m2,n,c.m4⟩,F,B.ns c.q,b⟩
def De.of{K:Frag}{f:Addr}{b:FuncData}(a:nsIn K mainGlobals x=some ↑f)(F:Fun K x x st f b):De K x st:=⟨f,b,a,F⟩
def Me.of{K:Frag}{f:Addr}{a:FuncData}(F:Fun K x qual st f a)(n:isFn K (.ref f)=true):Me K x qual st f:=⟨a,F,n⟩
structure GT0(K:Frag)(x:Str)(ws:List Str):Prop where
 ex:∃(p:Addr) (o:Obj) (NF:Array Value) (n:Nat),nsIn K mainGlobals x=some ↑p/\K.lookup p=some o/\o.cls=.type "tuple"/\o.data=.seq NF n/\NF.size<=sizeLine/\Vals (ws.map V.str) NF.toList
def GT0.mk'{K:Frag}{f:List Str}{p:Addr}{o:Obj}{NF:Array Value}{n:Nat}(a:nsIn K mainGlobals x=some ↑p)(b:K.lookup p=some o)(c:o.cls=.type "tuple")(d:o.data=.seq NF n)(e:NF.size<=sizeLine)(v:Vals (f.map V.str) NF.toList):GT0 K x f:=⟨p,o,NF,n,a,b,c,d,e,v⟩
def GT0.of{b:List Str}(g:GT0 Z.K x b)(B:Bt3 Z):GTup Z.K Z.mg x b:=let ⟨p,o,i,n,a,r⟩:=g.ex;⟨p,o,i,n,B.ns a,r⟩
structure GD0(w:World)(K:Frag)(x:Str)(D:List (Str × List Str)):Prop where
 ex:∃(p:Addr) (o:Obj) (es:Array DictEntry) (ep:Nat),nsIn K mainGlobals x=some ↑p/\K.lookup p=some o/\o.ExactDict/\o.data=.dict es ep/\DRows w K es.toList D/\(D.map λx=>x.1).Nodup
def GD0.of{D:List (Str × List Str)}(g:GD0 Z.w Z.K x D)(B:Bt3 Z):GDict Z.w Z.K Z.mg x D:=let ⟨p,o,i,n,a,r⟩:=g.ex;⟨p,o,i,n,B.ns a,r⟩
end
section
variable{X:Cx}{a b e:Expr}{ta tb te:TE}{pos pos' p:Pos}{x:Str}{es:List Expr}{t:TA}{ps:List Str}{sp:Sp}{k n:Nat}
theorem kcal(C:Cal X.prog X.w X.K X.mg X.base k x ps sp)(g:Room n X.A)(c:PA X (e::es) t)(d:k<=n:=by decide)(f:Gl X x:=by exact rfl)(b:(x==("__debug__":Str))=false:=by decide)(he:starEach (e::es) X.env=(false,eval e X.env)::starEach es X.env:=by rfl)(a:(backTo pos (starEach es X.env)).any (·.1)=false:=by rfl):PE X (.Call (.Name x p) (e::es) [] pos) (tCall sp [] E0 t):=IZ C g d f c b he a
theorem kix(c:X.A.units+64<cLine)(f:PE X a ta)(e:PE X b tb)(d:xH b:=by exact λ_ _=>rfl):PE X (.Subscript a b pos) (tOp cIx ta tb):=z8 (IX c) f e d
theorem kset(i:Nat)(b:X.N.Nodup)(he:PE X e te)(c:X.N[i]? =some x:=by exact rfl)(a:Loc X.env.scope x:=by exact Or.inl rfl)(d:swapsWith e (some (.Name x pos')) pos.line X.env=pure false:=by rfl)(f:X.fn x=true\/X.env.scope.names.lookup x=some .local:=by first | exact .inl rfl | exact .inr rfl | assumption):PS X (.Assign [.Name x pos'] e pos) (tAsg te (gName i)):=dX b c a he d f
end
def tabP(K:Frag)(x:Str):Addr:=match PySem.W.tabIn K x with | some (_,P)=>P | none=>0
variable{K:Frag}{c P:Addr}
theorem Db{x:Str}(h:PySem.W.tabIn K x=some (c,P)):tabP K x=P:=by unfold tabP;rw[h]
structure CdP(K:Frag)(c P:Addr):Prop where
 ex:∃(o:Obj) (vs:Array Value) (file:Str) (tf:Tok) (flags:Int) (tg:Tok) (inF:Bool) (text:Int) (tt:Tok),K.lookup c=some o/\o.cls=.type "code"/\o.data=.fields vs/\vs[11]? =↑P/\vs.getD 11 .none=.ref P/\vs.getD 18 .none=.str file tf/\vs.getD 7 .none=.int flags tg/\vs.getD 9 .none=.bool inF/\vs.getD 10 .none=.int text tt/\c≠P
variable{vs:Array Value}
def CdP.mk'{o:Obj}{m:Str}{s r q:Tok}{h n:Int}{p:Bool}(a:K.lookup c=some o)(b:o.cls=.type "code")(d:o.data=.fields vs)(e:vs[11]? =↑P)(f:vs.getD 11 .none=.ref P)(g:vs.getD 18 .none=.str m s)(i:vs.getD 7 .none=.int h r)(j:vs.getD 9 .none=.bool p)(k:vs.getD 10 .none=.int n q)(l:c≠P):CdP K c P:=⟨o,vs,m,s,h,r,p,n,q,a,b,d,e,f,g,i,j,k,l⟩
theorem CdP.hd{h:Heap}(x:CdP K c P)(X:K.In h):PySem.W.CodeHd h c P:=by
 obtain⟨o,vs,d,j,b,i,f,e,g,a,r⟩:=x.ex;exact⟨o,vs,d,j,b,i,f,e,g,X _ _ a,r⟩
theorem CdP.tab{h:Heap}(x:CdP K c P)(X:K.In h):isCodeTable h P:=by
 obtain⟨o,vs,g,m,f,l,j,i,k,a,b,d,e,_⟩:=x.ex;exact⟨c,o,vs,X _ _ a,b,d,e⟩
theorem Bq{x:Str}{f:Addr}{cl d:Value}{k h:Option Addr}{i:FuncData}{j g:Array (Option Value)}(a:nsIn K mainGlobals x=some ↑f)(b:K.lookup f=some ⟨cl,k,.func i,j⟩)(e:i.code=.ref c)(l:K.lookup c=some ⟨d,h,.fields vs,g⟩)(v:vs[11]? =↑P):PySem.W.tabIn K x=some (c,P):=by
 have n:List.lookup f K=some ⟨cl,k,.func i,j⟩:=b;have m:List.lookup c K=some ⟨d,h,.fields vs,g⟩:=l;unfold PySem.W.tabIn;rw[a];simp only[n,e,m,v]
section
variable{Z:Z5}{N ps:List Str}{k:Nat}{sp:Sp}{t:TS}{x qual:Str}{st:Stmt}{c P:Addr}
abbrev Ca9(Z:Z5)(k:Nat)(x:Str)(ps:List Str)(sp:Sp):Prop:=Cal Z.P Z.w Z.K Z.mg Z.base k x ps sp
abbrev HbT(Z:Z5)(N:List Str)(qual:Str)(st:Stmt)(f c:Addr)(k:Nat)(t:TS):Prop:=∀{A:Around} {a:List Env} {s:Shared} {H:Hp} {E:XK},Room k (A.deeper (envOfC qual (aN st) s.heap.objs.size f (.ref c)))->(A.deeper (envOfC qual (aN st) s.heap.objs.size f (.ref c))).units+64<cLine->N.Nodup->PSs (cxOf CX0 Z.P Z.w Z.K Z.mg Z.base N qual (aN st) f (.ref c) A a s H E).nox (bZ st) t
theorem sC:∀{l:List (Str × NameKind)} {x:Str} {k:NameKind},l.lookup x=some k->(x,k)∈l
 | (y,j)::l,x,k,h=>by
  rw[OM]at h
  split at h
  . rename_i e
    have a:x=y:=by simpa using e
    cases h;rw[a];exact .head _
  . exact .tail _ (sC h)
theorem okfT{f:Addr}{r:FuncData}(F:Fun Z.K x x st f r)(a:nsIn Z.K mainGlobals x=some ↑f)(S:iY N ps (aN st))(I:Rk N sp t)(T:PySem.W.tabIn Z.K x=some (c,P))(C:HbT Z N x st f c k t)(i:Ln ps sp):FnOk Z.P Z.w Z.K Z.mg Z.base CX0 (k+1) f r ps sp:=by
 obtain⟨z,u,D,g,y,B,l,G,d,rfl,n,b⟩:=F.ex;have m:List.lookup f Z.K=some ⟨z,u,.func (fnOf x x (c6 st) (bZ st) (aN st) .none D g y B l G),d⟩:=n
 have e:l=.ref c:=by
  unfold PySem.W.tabIn at T;rw[a]at T;simp only[m]at T
  clear n b
  cases l with
  | ref v=>
   dsimp only[fnOf]at T
   cases q:List.lookup v Z.K with
   | none=>rw[q]at T;cases T
   | some o=>
    rw[q]at T;obtain⟨cl,M,J,L⟩:=o
    cases J with
    | fields vs=>
     dsimp only at T
     split at T
     . cases T;rfl
     . cases T
    | _=>cases T
  | _=>cases T
 subst e;refine G2 n b S (λ_ _ _ _ h=>i h) λA j s H vs Q E p h=>⟨t,(C p p.units S.nd).nox,I h⟩
local macro_rules | `(tactic| walk_at "l")=>`(tactic| (intro vs H Q E h; (repeat obtain ⟨_,h⟩:=h); subst_vars; rfl))
local macro_rules | `(tactic| ac_rfl)=>`(tactic| exact ⟨rfl,rfl,rfl,by decide+kernel,rfl,by decide+kernel,by decide+kernel⟩)
def okcT(B:Bt3 Z)(D:De Z.K x st)(h:Rk N sp t)(b:Bd x x st ps)(T:PySem.W.tabIn Z.K x=some (c,P))(e:∀{f},HbT Z N x st f c k t)(S:iY N ps (aN st):=by ac_rfl)(d:Ln ps sp:=by walk_at "l"):Ca9 Z (k+1) x ps sp:=
 let ⟨f,g,a,F⟩:=D.ex
 ⟨f,g,okfT F a S h T e d,B.ns a,F.kp,F.binds b⟩
theorem Cp {X:Cx} {e:Expr} {te:TE} {p pos z Q E D G:Pos} {F v q:Str} {i:Nat} {ps:Arguments} {sc:Scope} (S:PySem.W.tabIn X.K x=some (c,P)) (u:Gl X "sorted") (R:X.mg "sorted"=none) (O:X.A.depth<recursionLimit) (a:X.env.code=.ref c) (g:PySem.W.CodeHd X.base c P) (f:X.base.BuiltinsAt X.mg P) (r:mainGlobals≠P) (he:PE X e te) (I:X.N[i]? =some F) (h:X.env.scope.names.lookup F=some .cell) (J:X.env.qual++"<lambda>"=q)
  (k:defaultsOf ps X.env=([],[])) (b:(sc.names.all λy=>!(y.2==.free)||y.1==F)=true) (H:(sc.names.all λy=>!(y.2==.cell))=true)
  (j:∀ cl M c' w x t,bindArgs (PySem.W.kla_fn "<lambda>" q ps (.Subscript (.Name F E) (.Name v D) G) sc cl M (.ref c') w) ⟨[.int x t],[]⟩=pure [(v,.int x t)])
  (L:sc.kind=.function) (s:sc.isCoroutine=false) (B:sc.isGenerator=false) (T:sc.names.lookup v=some .local) (d:sc.names.lookup F=some .free)
  (m:(F==("__debug__":Str))=false:=by decide) (o:(F==("__classdict__":Str))=false:=by decide) (l:(v==("__debug__":Str))=false:=by decide)
  (C:starEach [e] X.env=[(false,eval e X.env)]:=by rfl):
  PE X (.Call (.Name "sorted" p) [e] [⟨some "key",.Lambda ps (.Subscript (.Name F E) (.Name v D) G) sc z,Q⟩] pos) (qH (tabP X.K x) z.line z.col q te i):=by
 rw[Db S];rw[Od]at b H;refine DN u R O a g f r he I h J k (λy n=>?_) (sC d) j L s B (λy n e=>?_) T d m o l C
 . have:=b _ n
   simpa using this
 . have:=H _ n;rw[e]at this;cases this
end
def FG(K:Frag):List V->Hp->VK->Prop:=λxs H Q=>∃ p a,xs=[.ref p]/\(SqL K H p a\/SqT K H p a)/\∀ l,H l=none->Q (.ref l) (upd H l (.lst a))
def Cq{X:Cx}:CallR X (.type "list") (FG X.K):=rL
def mR(K:Frag):Sp:=#[3,∃ a h w g,vs=[.ref a]/\IsFl H a h w g/\1<=g/\g<=6/\Q (.int (2^g.toNat-1)) H]
def mS(K:Frag):TS:=#[":jdU,'obadCdk0ef#2 ef#1 cef#1 "]
theorem Br{K:Frag}{vs:List V}{H:Hp}{Q:VK}{E:XK}(h:mR K vs H Q E):mS K (eD9 Q) (start ["floor"] vs) H:=by
 obtain⟨a,h,w,g,rfl,b,c,d,q⟩:=h;exists mS;refine ixT b (v:=V.int g) rfl ?_;exists⟨g+1,rfl,by lia,by lia,?_⟩;symm;rw[Int.add_sub_cancel];exact q
theorem GP(n:Nat)(m:Int):(List.replicate n [V.int m]).flatten=(List.replicate n m).map V.int:=by
 induction n with
 | zero=>rfl
 | succ n a=>rw[O4,PB,a];rfl
def yh(K:Frag):Sp:=#[3,∃ a h w g,vs=[.ref a]/\IsFl H a h w g/\FlOk h w g/\∀ l H',Same H H'->H l=none->H' l=↥((List.replicate (h*w).toNat (2^g.toNat-1)).map V.int)->Q (.ref l) H']
def yj(K:Frag):TS:=#[":jd~Tta,}uba0cc,~hba0c"]
variable{K:Frag}{vs:List V}{H:Hp}{Q:VK}{E:XK}
theorem Io(h:yh K vs H Q E):yj K (eD9 Q) (start ["floor"] vs) H:=by
 obtain⟨a,h,w,g,rfl,c,F,k⟩:=h;obtain⟨h0,h1,n,m,i,f,e⟩:=F;have b:0<=h*w:=Pm #[4] #[4];exists yj;refine⟨a,h,w,g,rfl,c,f,e,lnR rfl,λp j=>?_⟩;have s1:Same H (upd H p (.lst [V.int (2^g.toNat-1)])):=(NP H).laid j;refine⟨a,h,w,g,rfl,s1 _ _ c,h0,h1,?_⟩;refine vT ag b #[4] (by show(1:Nat)<=1;decide) λl d=>?_;rw[GP];exact k l _ (s1.laid d) (s1.free d) ag
def setB(ms:∅):Bool:=ms.all λm=>decide (((sgL m).length:Int)=1)
def lB(K:Frag):Sp:=#[3,∃ p ms,vs=[.ref p]/\H p=↥(ms.map V.int)/\ms.length<=900/\(∀ m∈ms,Builtin.Int.intBits m<=900)/\∀ H',Same H H'->Q (.bl (setB ms)) H']
def lC(K:Frag):TS:=#[":jq*aw&-- sb0h#1 DdrbqAa,/ba1ccef#1 c"]
theorem zF(h:lB K vs H Q E):lC K (eD9 Q) (start ["masks"] vs) H:=by
 obtain⟨p,ms,rfl,d,g,o,k⟩:=h;exists lC;refine⟨⟨_,NW d⟩,?_⟩;refine bE (xs:=ms.map V.int) (λ_=>true) (λi=>.bl (decide (((sgL (ms.getD i 0)).length:Int)=1))) (by rw[NM];exact g) (NW d) ?_ ?_ ?_
 . intro i x H1 R b s1 k1;exact k1 _ (NP _)
 . intro i x H1 r b j s1 k1;obtain⟨m,c,rfl⟩:=aK b;show tOp (cEq K) _ _ [none,⇑m] H1 r;exists⟨m,rfl,o m (NS c),λl s n f a=>?_⟩;symm;rw[bh a];symm;have q:=k1 _ n;rw[dU c]at q;rw[NM];exact q
 . intro l H1 f s1 a;rw[aZ,NM,kY ms (λm=>V.bl (decide (((sgL m).length:Int)=1)))]at a;refine jh (bs:=ms.map λm=>decide (((sgL m).length:Int)=1)) (by rw[a,Op];rfl) ?_
   have e:(ms.map λm=>decide (((sgL m).length:Int)=1)).all id=setB ms:=by
    unfold setB;rw[Pl];rfl
   rw[e];exact k _ s1
def sbI(m:Int):Int:=if ((sgL m).length:Int)=1 then(sgL m).getD 0 0 else 0
def qI(K:Frag):Sp:=#[3,∃ m:Int,vs=[.int m]/\Builtin.Int.intBits m<=900/\∀ H',Same H H'->Q (.int (sbI m)) H']
def qJ(K:Frag):TS:=#[":gl,/ba0ch#1 j~mmdrbqAa1cef#1 dk1ef#0 ef#0 "]
theorem DO(h:qI K vs H Q E):qJ K (eD9 Q) (start ["mask","signs"] vs) H:=by
 obtain⟨m,rfl,c,k⟩:=h;exists qJ;refine⟨m,rfl,c,λl H1 s1 d b=>?_⟩;symm;rw[bh b];symm;rw[NM];have q:=k _ s1;unfold sbI at q;by_cases a:((sgL m).length:Int)=1
 . rw[Os a]at q;rw[NT a];refine iteT ?_;exact ixI b #[1] #[4] q
 . rw[Og a]at q;rw[NQ a];exact iteF q
def lD(K:Frag):Sp:=#[3,∃(p:Addr) (ms:∅),vs=[.ref p]/\H p=↥(ms.map V.int)/\ms.length<=900/\(∀ m∈ms,Builtin.Int.intBits m<=900)/\∀ l H',Same H H'->H l=none->H' l=↥((ms.map sbI).map V.int)->Q (.ref l) H']
def lE(K:Frag):TS:=#[":jw&-- sb0h#1 D,}vba1c"]
theorem zG(h:lD K vs H Q E):lE K (eD9 Q) (start ["masks"] vs) H:=by
 obtain⟨p,ms,rfl,b,e,g,k⟩:=h;exists lE;refine⟨⟨_,NW b⟩,?_⟩;refine aY (xs:=ms) (λ_=>true) sbI e (NW b) ?_ ?_ ?_
 . intro x H1 R a s1 k1;exact k1 _ (NP _)
 . intro x H1 i a f s1 k1;show tCall _ _ _ _ [none,⇑x] H1 i;exists⟨x,rfl,g x a,k1⟩
 . intro l H1 d s1 c;rw[aZ]at c;exact k l H1 s1 d c
abbrev fuL(h w g:Int):∅:=List.replicate (h*w).toNat (2^g.toNat-1)
def DP{h w g:Int}(b:1<=g)(c:g<=6):MkP g (h*w).toNat (fuL h w g):=⟨Rr,λm a=>by
 rw[(QI.mp a).2];have e:g=1\/g=2\/g=3\/g=4\/g=5\/g=6:=by omega
 rcases e with rfl | rfl | rfl | rfl | rfl | rfl <;> decide⟩
def StP(Q:VK)(H:Hp)(h w g:Int)(NC:List RR)(cl:∅)(ks:List TK):Prop:=∀(N:Addr) (a:∅) (NI:List Tho) (H':Hp),Same H H'->H N=none->H' N=↥(a.map V.int)->Wlk h w g NC cl ks (fuL h w g) NI a->(0∈a\/ffF h w g NC cl a ks=[])->ThR h w g NC cl ks (fuL h w g) NI a->Q (.ref N) H'
def iu(K:Frag)(c:RO)(d:RP):Sp:=#[3,∃ P L G a h w g NC cl ks,vs=[.ref P,.ref a]/\IsPz H c d P L G h w g NC cl/\KdK K H a ks/\StP Q H h w g NC cl ks]
def lF(K:Frag)(c:RO)(d:RP):TS:=#[":jdk,'bbipa0a,}wbaypR~C~Dbip0cca1cef#0 "]
variable{c:RO}{d:RP}
theorem zH(h:iu K c d vs H Q E):lF K c d (eD9 Q) (start ["puzzle","kinds"] vs) H:=by
 obtain⟨P,L,G,o,h,w,g,NC,cl,ks,rfl,a,e,q⟩:=h;obtain⟨y,p,rs,h1,h2,h3⟩:=a.ex;have F:=a.R.F;exists lF;refine methE (k:=.Puzzle) rfl a.ok h1 (by rfl) ?_;exists⟨P,L,G,h,w,g,NC,cl,rfl,a,λp r=>?_⟩;exists⟨p,h,w,g,rfl,r,F,λA H1 s1 C n=>?_⟩;have X:=DP (h:=h) (w:=w) F.g0 F.g1;exists⟨P,L,G,A,o,h,w,g,NC,cl,_,ks,rfl,⟨a.same s1,n,X.len,X.mm⟩,e.same s1,λT N B J Ms b NI t s u f D z x l m I i W j R=>?_⟩;exists ixT l (v:=V.ref N) rfl ?_;exact q N b NI t (s1.trans s) (s1.free f) m W j R
noncomputable def stlB (h w g:Int) (NC:List RR) (cl a:∅):Bool:=setB a&&metB h w g NC cl (a.map sbI)
def jP(K:Frag)(c:RO)(d:RP):Sp:=#[3,∃ P L G b h w g NC cl ks,vs=[.ref P,.ref b]/\IsPz H c d P L G h w g NC cl/\KdK K H b ks/\∀(a:∅) (NI:List Tho) (H':Hp),Same H H'->Wlk h w g NC cl ks (fuL h w g) NI a->(0∈a\/ffF h w g NC cl a ks=[])->ThR h w g NC cl ks (fuL h w g) NI a->Q (.bl (stlB h w g NC cl a)) H']
def qK(K:Frag)(c:RO)(d:RP):TS:=#[":gl,'zbipa0a1ch#2 jL,}xba2cypR'A'Bbip0a,}yba2cc"]
theorem DQ(h:jP K c d vs H Q E):qK K c d (eD9 Q) (start ["puzzle","kinds","masks"] vs) H:=by
 obtain⟨P,L,G,I,h,w,g,NC,cl,ks,rfl,l,x,q⟩:=h;have F:=l.R.F;have o:=F.g0;have n:=F.g1;have D:=F.m;exists qK;refine⟨P,L,G,I,h,w,g,NC,cl,ks,rfl,l,x,λN a NI H1 s1 S s W B R=>?_⟩;have X:=(W.okM o n (DP (h:=h) (w:=w) o n)).1;have M:=lX o n;have T:=X.len
 have e:∀ m∈a,Builtin.Int.intBits m<=900:=λm z=>by
  have b:=X.mm m z;have:=(gE (m:=m) b.1 #[4]).1;lia
 exists⟨N,a,rfl,s,by lia,e,λJ t=>?_⟩;have f:=s1.trans t;have i:=λH' O=>q a NI H' O W B R;unfold stlB at i
 cases u:setB a with
 | false=>
  rw[u]at i;refine⟨false,rfl,iteF ?_⟩;exact i J f
 | true=>
  rw[u]at i;refine⟨true,rfl,iteT ?_⟩;have j:=l.same f;obtain⟨Y,p,rs,h1,h2,h3⟩:=j.ex;refine methE (k:=.Puzzle) rfl l.ok h1 (by rfl) ?_;exists⟨N,a,rfl,t _ _ s,by lia,e,λC Z r U v=>?_⟩;refine⟨P,L,G,C,h,w,g,NC,cl,a.map sbI,rfl,j.same r,v,by rw[NM];lia,λy A=>?_⟩;exact i y ((f.trans r).trans A)
theorem JL{p:Addr}{s:Str}{a:List Str}(h:H p=some (.tup (a.map V.str))):cIn K false (.str s) (.ref p) H Q=Q (.bl (decide (s∈a))) H:=by
 unfold cIn;dsimp only;rw[h];dsimp only[unD,unS,bnd];rw[ke,i7];simp[flatV]
def unrK(k:RK):Bool:=decide (k=.Unlike)||decide (k=.Rising)
theorem J9(k:RK):decide (tx (nmC k)∈[tx s!"unlike",tx s!"rising"])=unrK k:=by cases k <;> decide+kernel
theorem Ka(k:RK):decide (tx (nmC k)=tx s!"sum")=decide (k=.Sum):=by cases k <;> decide+kernel
theorem Bs(k:RK):decide (tx (nmC k)=tx s!"seen")=decide (k=.Seen):=by cases k <;> decide+kernel
theorem Hd(k:RK):decide (tx (nmC k)=tx s!"count")=decide (k=.Count):=by cases k <;> decide+kernel
theorem Ip(k:RK):(nmC k).length<=20:=by cases k <;> decide
theorem Bu(cs:List Nat)(k:Nat):(nsV cs).take k=nsV (cs.take k):=by unfold nsV;rw[PH,PH]
section
variable{c:RO}{h w g:Int}{NC:List RR}{cl cl':∅}{ks:List TK}
open Classical in
noncomputable def stF (h w g:Int) (NC:List RR) (cl:∅) (ks:List TK):∅:=if q:∃ x,∃ NI,ThR h w g NC cl ks (fuL h w g) NI x then q.choose else []
theorem sD{NI:List Tho}{x:∅}(t:ThR h w g NC cl ks (fuL h w g) NI x):x=stF h w g NC cl ks:=by
 have q:∃ x,∃ NI,ThR h w g NC cl ks (fuL h w g) NI x:=⟨x,NI,t⟩;unfold stF;rw[dif_pos q];obtain⟨a,b⟩:=q.choose_spec;exact(t.det b).2
noncomputable def setF (h w g:Int) (NC:List RR) (ks:List TK) (cl:∅):Bool:=stlB h w g NC cl (stF h w g NC cl ks)
end
theorem FH{b:Bool}{A B:Prop}(e:b=true)(h:A):if b=true then A else B:=by rw[e];exact iteT h
theorem sE{b:Bool}{A B:Prop}(e:b=false)(h:B):if b=true then A else B:=by rw[e];exact iteF h
section
variable{Z:Z5}{N ps:List Str}{k:Nat}{sp:Sp}{t:TS}{b x:Str}{st:Stmt}
local macro_rules | `(tactic| walk_at "l")=>`(tactic| (intro vs H Q E h; (repeat obtain ⟨_,h⟩:=h); subst_vars; rfl))
local macro_rules | `(tactic| ac_rfl)=>`(tactic| exact ⟨rfl,rfl,rfl,by decide+kernel,rfl,by decide+kernel,by decide+kernel⟩)
end
section
variable{K:Frag}{c:RO}{d:RP}{h w g:Int}{NC:List RR}{cl:∅}{ks:List TK}
open Classical in
end
variable{l:∅}
theorem FI{k:Nat}(h:k<l.length):l.getD k 0∈l:=by
 rw[List.getD,NN h];exact On h
theorem FJ(xs cs:∅)(m:Int):(((sgAt xs cs).filter λy=>decide (y=m)).length:Int)=((mkAt xs cs m).length:Int):=by
 unfold sgAt mkAt;rw[PN,NM];rfl
def tX(l:∅)(i:Nat):Bool:=decide ((i:Int)=0)||decide (maxI (l.take i)<l.getD i 0)
theorem Bv(c:Nat->Int):∀ k,argBest (λi j=>decide (c i>c j)) k<=k/\∀ j,j<=k->c j<=c (argBest (λi j=>decide (c i>c j)) k)
 | 0=>⟨NZ _,λj d=>by rw[show j=0 by lia];exact Int.le_refl _⟩
 | k+1=>by
  obtain⟨a,b⟩:=Bv c k;rw[argBest];by_cases h:c (k+1)>c (argBest (λi j=>decide (c i>c j)) k)
  . rw[Os (NT h)];refine⟨NZ _,λj d=>?_⟩;by_cases e:j=k+1
    . rw[e];exact Int.le_refl _
    . have:=b j #[4];lia
  . rw[Og (by simpa using h)];refine⟨by lia,λj d=>?_⟩;by_cases e:j=k+1
    . rw[e];lia
    . exact b j #[4]
theorem Kb(h:l≠[])(x:Int):maxI l<x↔∀ y∈l,y<x:=by
 have g:0<l.length:=Qx.mpr h;obtain⟨a,b⟩:=Bv (λi=>l.getD i 0) (l.length-1);unfold maxI;generalize argBest (λi j=>decide (l.getD i 0>l.getD j 0)) (l.length-1)=k at*;constructor
 . intro c y d;obtain⟨j,f,rfl⟩:=Pe.mp d;have:=b j #[4];have e:l.getD j 0=l[j]:=by rw[List.getD,NN f];rfl
   simp only[e]at this;lia
 . intro c;exact c _ (FI #[4])
theorem GQ{i:Nat}{x:Int}(a:l[i]? =some x):tX l i=decide (∀ y∈l.take i,y<x):=by
 have e:l.getD i 0=x:=by rw[List.getD,a];rfl
 unfold tX;rw[e];by_cases h:i=0
 . subst h;simp
 . have b:=(NO.mp a).1;rw[NQ #[4],O3,Om,Qa,Qa];exact Kb (by intro e;have:=congrArg List.length e;rw[OL,List.length_nil]at this;lia) x
theorem FK{l:∅}(h1:∀ y∈l,1<=y):∀ i,i<=l.length->(((List.range i).filter (tX l)).length:Int)=(seenN (l.take i)).2
 | 0,_=>rfl
 | i+1,hi=>by
  have c:=FK h1 i #[4];have a:l[i]? =some l[i]:=NN #[4];have b:l.take (i+1)=l.take i++[l[i]]:=by rw[Pn,a];rfl
  rw[b,Fi (h1 _ (On _)),OS,Oz,Oy,Int.natCast_add,c,OI,GQ a];by_cases h:∀ y∈l.take i,y<l[i]
  . rw[Os h,NT h];rfl
  . rw[Og h,NQ h];rfl
abbrev Kj:Str:="_law_row.<locals>.<lambda>"
abbrev mT(K:Frag)(H:Hp):Prop:=TbOk 608 54 Kj H (tabP K "_law_row")
abbrev GR(K:Frag)(H H':Hp):Prop:=SameX (tabP K "_law_row") H H'
variable{H:Hp}{P:Addr}
theorem TbOk.same{l c:Nat}{q:Str}{H':Hp}(x:TbOk l c q H P)(s:Same H H'):TbOk l c q H' P:=by
 rcases x with e | ⟨a,e,b⟩
 . exact .inl (s _ _ e)
 . exact .inr ⟨a,s _ _ e,s _ _ b⟩
def TbOk.ne{l c:Nat}{q:Str}{b:Addr}{xs:List V}(x:TbOk l c q H P)(e:H b=↥xs):b≠P:=λz=>by
 rcases x with a | ⟨_,a,_⟩ <;> (rw[z,a]at e;cases e)
def SameX.of{H':Hp}(s:Same H H'):SameX P H H':=λa o _ e=>s a o e
def SameX.trans{H1 c:Hp}(a:SameX P H H1)(b:SameX P H1 c):SameX P H c:=λx o n e=>b x o n (a x o n e)
theorem Bw:∀{xs:∅},xs.Pairwise (· <=·)->xs.Nodup->risB xs=true
 | [],_,_=>rfl
 | [_],_,_=>rfl
 | x::y::r,p,n=>by
  have a:=P9.mp p;have b:=OR.mp n
  have c:x<y:=by
   have:=a.1 y (.head _);have d:x≠y:=λe=>b.1 (by rw[e];exact .head _);lia
  show(decide (x<y)&&risB (y::r))=true;rw[NT c,Ob];exact Bw a.2 b.2
structure Rw53(H:Hp)(f:Addr)(h w g:Int)(fl:∅):Prop where
 F:FlOk h w g
 f:H f=↥(fl.map V.int)
 fll:fl.length=(h*w).toNat
 sg:∀ x∈fl,1<=x/\x<=g
 m1:1<=h*w
def Rw53.same{H':Hp}{f:Addr}{h w g:Int}{fl:∅}(X:Rw53 H f h w g fl)(s:Same H H'):Rw53 H' f h w g fl:=⟨X.F,s _ _ X.f,X.fll,X.sg,X.m1⟩
theorem yn:typeLookup (.type "tuple") "__reversed__"=pure none:=by rw[Px,O8];kernel_rfl
def slot_rev_init:Slot "reversed" "__init__" "object.__init__":=
 .of (owner:="object") (n:="__init__") (by rw[Px,O8];kernel_rfl) (by decide+kernel) (by decide+kernel) (by decide+kernel)
  (by first | exact .inl (by decide+kernel) | exact .inr (by decide+kernel)) (by rw[QJ];kernel_rfl)
def slot_rev_next:Slot "reversed" "__next__" "reversed.__next__":=
 .of (owner:="reversed") (n:="__next__") (by rw[Px,O8];kernel_rfl) (by decide+kernel) (by decide+kernel) (by decide+kernel)
  (by first | exact .inl (by decide+kernel) | exact .inr (by decide+kernel)) (by rw[QJ];kernel_rfl)
def qW:Slot "reversed" "__iter__" "reversed.__iter__":=
 .of (owner:="reversed") (n:="__iter__") (by rw[Px,O8];kernel_rfl) (by decide+kernel) (by decide+kernel) (by decide+kernel)
  (by first | exact .inl (by decide+kernel) | exact .inr (by decide+kernel)) (by rw[QJ];kernel_rfl)
def pq:entryFor table "reversed.__next__"=some Builtin.«reversed.__next__»:=entryFor_of_tree (by kernel_rfl)
def yW:Manifest.owners.lookup (String.ofList ['d','e','s','r','e','v','e','r'].reverse)=some Manifest.sig_reversed:=by kernel_rfl
theorem qX(a:Value):argsOk "reversed.__next__" ⟨[a],[]⟩:=by
 unfold argsOk;rw[signature?_of (id:="reversed.__next__") (n:=['_','_','t','x','e','n','_','_']) (o:=['d','e','s','r','e','v','e','r']) (by kernel_rfl) yW];kernel_rfl
theorem zI(a:Value):argsOk "reversed.__iter__" ⟨[a],[]⟩:=by
 unfold argsOk;rw[signature?_of (id:="reversed.__iter__") (n:=['_','_','r','e','t','i','_','_']) (o:=['d','e','s','r','e','v','e','r']) (by kernel_rfl) yW];kernel_rfl
def yo:entryFor table "reversed.__iter__"=some Builtin.«dict_keyiterator.__iter__»:=
 entryFor_alias (id':="dict_keyiterator.__iter__") (by kernel_rfl) (by first | rfl | decide+kernel | (unfold String.splitOn;simp+decide [String.splitOnAux])) (by decide+kernel) (by kernel_rfl)
def DR:TypeCalled "reversed" "reversed.__new__" "object.__init__":=⟨by decide+kernel,by decide+kernel,⟨_,_,F.mro_reversed⟩,F.made_reversed,by decide+kernel,F.sub_reversed_self,slot_rev_init⟩
theorem Bx:isSubtype (.type "tuple") (.type "dict")=pure false:=by rw[QJ];kernel_rfl
def rvT(t:Addr)(i:Int):Obj:={cls:=.type "reversed",data:=.fields #[.ref t,rawInt i]}
def IsRvT(h:Heap)(a t:Addr)(i:Int):Prop:=∃ o,h.get? a=some o/\o.cls=.type "reversed"/\o.data=.fields #[.ref t,rawInt i]
def IsRvT.at{h h':Heap}{a t:Addr}{i:Int}(x:IsRvT h a t i)(e:∀ o,h.get? a=some o->h'.get? a=some o):IsRvT h' a t i:=let ⟨o,b,r⟩:=x;⟨o,e _ b,r⟩
section
variable{prog:Program}{w:World}{A:Around}{E:Value->Shared->Prop}{s:Shared}
def IsRvT.typeIs{a l:Addr}{i:Int}(x:IsRvT s.heap a l i):s.TypeIs (.ref a) "reversed":=let ⟨o,c,b,_⟩:=x;⟨o,c,b⟩
theorem By {t:Addr} {c:Array Value} {Q₁:Value->Shared->Prop} (d:IsTup s.heap t c) (e:(c.size:Int)<2^63)
  (h:Q₁ (.ref s.heap.objs.size) {s with heap:=s.heap.push (rvT t ((c.size:Int)-1)),toks:=s.toks+1+1}):
  codeAny (model prog w) A (.call (.builtin "reversed.__new__") ⟨[.type "reversed",.ref t],[]⟩) (wants Q₁ E) s:=by
 refine codeAny_of_tree ?_;show wpAny _ A.in1 (do checkBuiltinCall "reversed.__new__" ⟨[.type "reversed",.ref t],[]⟩;again (.builtin "reversed.__new__" ⟨[.type "reversed",.ref t],[]⟩)) _ _ s;refine N7 (PM (F.newCall_reversed_1 _) (OC ⟨plainId_quiet F.plain_reversed_new _,codeAny_builtin F.entry_reversed_new ?_⟩));rw[Around.under_plainId F.plain_reversed_new _];unfold Builtin.«reversed.__new__»;refine N7 (PM (newClass_reversed _) ?_)
 try dsimp only
 refine N7 (PM (a:=()) (by first | rfl | kernel_rfl) ?_);refine N7 (PM (a:=()) (by first | rfl | kernel_rfl) ?_)
 try dsimp only
 refine N7 (Rp d.typeIs yn ?_)
 try dsimp only
 refine N7 ?_;show wpAny _ _ (isInstance (.ref t) (.type "dict") >>= _) _ _ s;refine N7 (wpAny_isInstance (T:="tuple") (b:=false) d.typeIs Bx ?_);show wpAny _ _ (specialOf (.ref t) "__getitem__" >>= _) _ _ s;refine N7 (Rp d.typeIs Qf.lookup ?_);show wpAny _ _ (if (["tuple.__getitem__","str.__getitem__","bytes.__getitem__","bytearray.__getitem__","memoryview.__getitem__","numpy.ndarray.__getitem__","sqlite3.Row.__getitem__"]:List String).contains "tuple.__getitem__"=true then pure true else _) _ _ s;rw[Os (by decide+kernel)];refine OC ?_;show wpAny _ _ (call (.builtin "len") [.ref t] >>= _) _ _ s;refine N7 (len_tuple d e ?_);show wpAny _ _ (Builtin.SmallTypes.newRecord (.type "reversed") [.ref t,rawInt ((c.size:Int)-1)] >>= _) _ _ _;refine N7 (show wpAny _ _ (newObj (.type "reversed") (.fields #[.ref t,rawInt ((c.size:Int)-1)])) _ _ _ from QN ?_);exact OC h
theorem BA {t:Addr} {a:Array Value} {Q:Value->Shared->Prop} (f:IsTup s.heap t a) (e:(a.size:Int)<2^63)
  (h:Q (.ref s.heap.objs.size) {s with heap:=s.heap.push (rvT t ((a.size:Int)-1)),toks:=s.toks+1+1}):wpAny (model prog w) A (call (.type "reversed") [.ref t]) Q E s:=by
 refine callType_codes (Q₁:=λb d=>b=.ref s.heap.objs.size/\d={s with heap:=s.heap.push (rvT t ((a.size:Int)-1)),toks:=s.toks+1+1}) DR (F.typeCall_reversed_1 _) F.entry_object_init (By f e ⟨rfl,rfl⟩) ?_;rintro b d ⟨rfl,rfl⟩;have c:Shared.TypeIs {s with heap:=s.heap.push (rvT t ((a.size:Int)-1)),toks:=s.toks+1+1} (.ref s.heap.objs.size) "reversed":=⟨_,Oq _ rfl,rfl⟩;refine⟨c,F.args_object_init_2 _ _,?_⟩;exact object_init_meets (T:="reversed") (newId:="reversed.__new__") slot_rev_init.lookup F.made_reversed #[1] prog w A.in1 _ _ ⟨c,rfl,h⟩
theorem zJ {it t:Addr} {i:Nat} {b:Array Value} {x:Value} {Q:Option Value->Shared->Prop} (e:IsRvT s.heap it t (i:Int)) (h:IsTup s.heap t b) (m:(b.size:Int)<2^63) (f:b[i]? =some x)
  (g:∀ h',IsRvT h' it t ((i:Int)-1)->Heap.SameBut it s.heap h'->Q (some x) {s with heap:=h',toks:=s.toks+1}):wpAny (model prog w) A (pyNext (.ref it)) Q E s:=by
 obtain⟨o,d,k,c⟩:=id e;unfold pyNext
 refine N7 (RF (Q0 (name:=Str.ofString "__next__") e.typeIs slot_rev_next
  (Q6 slot_rev_next e.typeIs pq ?_ (qX _))))
 unfold Builtin.«reversed.__next__»;refine N7 (PM (a:=(Value.ref it,[])) rfl ?_)
 try dsimp only
 refine N7 (QO d c (x:=.ref t) rfl ?_);refine N7 (QO d c (x:=rawInt (i:Int)) rfl ?_);show wpAny _ _ (if (i:Int)<0 then _ else _) _ _ s;rw[Og #[4]];refine N7 (Rp h.typeIs Qf.lookup ?_);show wpAny _ _ (mkInt (i:Int) >>= _) _ _ s;refine N7 (wpAny_mkInt ?_);have l:i<b.size:=(Array.getElem?_eq_some_iff.mp f).1;refine N7 (RF (PyProof.Rows.getItem_tuple (s:={s with toks:=s.toks+1}) (j:=i) (x:=x) h #[4] #[4] (by unfold seqIndex?;simp;lia) f ?_));show wpAny _ _ (field (.ref it) 1 >>= _) _ _ _;refine N7 (QO (s:={s with toks:=s.toks+1}) d c (x:=rawInt (i:Int)) rfl ?_);show wpAny _ _ (setField (.ref it) 1 (rawInt ((i:Int)-1)) >>= _) _ _ _;refine N7 (RB (s:={s with toks:=s.toks+1}) d c (by simp) ?_)
 first
 | refine OC ⟨x,rfl,OC (g _ ?_ (P5 ..))⟩
 | refine N7 (OC (OC ⟨x,rfl,OC (g _ ?_ (P5 ..))⟩))
 exact⟨_,Rw _ d (Rx (Qb c _)),(Obj.cls_mapFields ..).trans k,by
  rw[Qb c];simp⟩
theorem BB {it t:Addr} {Q:Option Value->Shared->Prop} (j:A.handled=none) (h:IsRvT s.heap it t (-1))
  (l:∀ h',Heap.ExtBut it s.heap h'->Q none {s with heap:=h'}):wpAny (model prog w) A (pyNext (.ref it)) Q E s:=by
 obtain⟨o,d,p,c⟩:=id h;unfold pyNext
 refine N7 (RF (Q0 (name:=Str.ofString "__next__") h.typeIs slot_rev_next
  (Q6 slot_rev_next h.typeIs pq ?_ (qX _))))
 unfold Builtin.«reversed.__next__»;refine N7 (PM (a:=(Value.ref it,[])) rfl ?_)
 try dsimp only
 refine N7 (QO d c (x:=.ref t) rfl ?_);refine N7 (QO d c (x:=rawInt (-1)) rfl ?_);show wpAny _ _ (if (-1:Int)<0 then _ else _) _ _ s;rw[Os #[1]];refine N7 (wpAny_rule ?_);refine N7 ?_;show wpAny _ _ (setField (.ref it) 1 (rawInt (-1)) >>= _) _ _ s;refine N7 (RB d c (by simp) ?_);have g:=Rw (Obj.mapFields λx=>x.setIfInBounds 1 (rawInt (-1))) d (Rx (Qb c _));have f:(Obj.mapFields (λx=>x.setIfInBounds 1 (rawInt (-1))) o).data=.fields #[.ref t,rawInt (-1)]:=by rw[Qb c];simp
 refine RB (s:={s with heap:=s.heap.update it (Obj.mapFields λx=>x.setIfInBounds 1 (rawInt (-1)))}) g f (by simp) ?_;have k:Heap.ExtBut it s.heap ((s.heap.update it (Obj.mapFields λx=>x.setIfInBounds 1 (rawInt (-1)))).update it (Obj.mapFields λx=>x.setIfInBounds 0 .none)):=λb n i e=>(P5 ..).2 b i |>.trans ((P5 ..).2 b i |>.trans e);refine N7 ?_;show wpAny _ _ (newExc (.type "StopIteration") [] >>= _) _ _ _;refine N7 ?_;simp only[newExc,newTuple];refine N7 (QN ?_ (by size_fits));refine N7 (m:=firstArgMember _ _) (PM (a:=Value.none) (by first | rfl | (simp only[firstArgMember];rfl)) ?_);refine QN ?_ (by size_fits);simp only[raiseNew];refine N7 (wpAny_handled ?_)
 first | rw[show A.in1.handled=none from j] | rw[j]
 refine N7 (OC (wpAny_throw ?_));refine N7 (wpAny_isInstance (T:="StopIteration") (b:=true) ⟨_,Oq _ rfl,rfl⟩ isSubtype_stop ?_);exact OC (l _ ((k.push _).push _))
theorem BC{it t:Addr}{i:Int}{Q:Value->Shared->Prop}(a:IsRvT s.heap it t i)(h:Q (.ref it) s):wpAny (model prog w) A (pyIter (.ref it)) Q E s:=by
 refine wpAny_pyIter_slot a.typeIs qW (Q6 qW a.typeIs yo ?_ (zI _));show wpAny _ _ (ret (.ref it)) _ _ s;exact OC ⟨_,rfl,"reversed",_,a.typeIs,slot_rev_next.lookup,h⟩
end
def Itw(K:Frag)(a:Addr)(n:Nat):It:=
 ⟨λi H=>i<n/\∃ xs,SqT K H a xs/\xs.length=n,λi H x H'=>H'=H/\∀ xs,SqT K H a xs->xs[n-1-i]? =some x,λi _=>n<=i⟩
variable{K:Frag}
def FL{P:Program}{w:World}{Y:Expr}(a it:Addr)(n:Nat):Turn P w K Y (Itw K a n) [it] it (λi h=>i<=n/\IsRvT h it a ((n:Int)-1 - (i:Int))) where
 mem:=by simp
 obj:=λi h f b j=>by
  have e:b=it:=by simpa using j
  subst e;obtain⟨_,o,e,c,d⟩:=f;exact⟨o,e,λv z=>by rw[d]at z;cases z⟩
 keep:=λi h m f k=>⟨f.1,f.2.at λo e=>k it (by simp) o e⟩
 item:=by
  intro X A hw r O i M s σ H E I q f F;subst A hw r;obtain⟨N,xs,G,hn⟩:=F;obtain⟨NF,J,p,hz⟩:=I.tuple G;have L:xs[n-1-i]? =some (xs[n-1-i]'#[0]):=NN #[0];obtain⟨u,S,U⟩:=J.get L;obtain⟨t,B,T,y,C,D⟩:=q it (by simp);have l:=f.2;have NJ:=J.length;have ln:=me;have e1:(n:Int)-1 - (i:Int)=((n-1-i:Nat):Int):=by omega
  rw[e1]at l;refine zJ l p (by rw[N8];omega) (x:=u) (by simpa using S) λm g Z=>?_;have e2:((n-1-i:Nat):Int)-1=(n:Int)-1 - ((i+1:Nat):Int):=by omega
  rw[e2]at g;have Q:Inv X M σ H {s with heap:=m,toks:=s.toks+1}:=I.turned (t':=s.toks+1) (λb o j e=>(Z.2 b j).trans e) t B y C D;obtain⟨o,e,c,d⟩:=id g;exact⟨u,rfl,vC (s:={s with heap:=m,toks:=s.toks+1}) e c d #[1] ⟨_,H,Q,U,⟨rfl,λys W=>by rw[I.tuple_inj W G];exact L⟩,⟨N,g⟩,λb j=>(q b j).1⟩⟩
 done:=by
  intro X A hw r O i M s σ H E I q f F;subst A hw r;obtain⟨t,B,T,y,C,D⟩:=q it (by simp);have N:n<=i:=F;have l:=f.2;have e1:(n:Int)-1 - (i:Int)= -1:=by have:=f.1;omega
  rw[e1]at l;exact BB (I.ok.hd O) l λm R=>⟨rfl,I.turned (t':=s.toks) (λb o j e=>R b o j e) t B y C D⟩
 self:=λ_ _ _ _ _ f h=>BC f.2 h
section
variable{X:Cx}{tg:Expr}
def iRevT(K:Frag)(b:TE):TI:=λσ H R=>b σ H λx H1=>∃ a xs,x=.ref a/\SqT K H1 a xs/\R (Itw K a xs.length) H1
theorem Iq{e:Expr}{te:TE}{o d:Pos}(j:Gl X "reversed")(t:X.mg "reversed"=none)(he:PE X e te)(c:starEach [e] X.env=[(false,eval e X.env)]:=by rfl):PI X tg (.Call (.Name "reversed" o) [e] [] d) (iRevT X.K te):=by
 intro m s σ H R I h;refine OW (fm I j t Ca ?_ #[1] #[1]);refine OJ ?_ c rfl;rw[c];show wpAny _ _ (spliced [(false,eval e X.env)]) _ _ s;refine Pt (thn (he m s σ H _ I h) λu s1 ⟨x,H1,f,r1,y⟩=>?_);refine Pz ?_;obtain⟨l,k,rfl,i,q⟩:=y;cases r1;obtain⟨g,p,n,A⟩:=f.tuple i;have w:=p.length;have B:=me;refine BA n (by rw[N8];lia) ?_;have r:g.toArray.size=k.length:=by rw[N8];exact w.symm
 have a:IsRvT (s1.heap.push (rvT l ((g.toArray.size:Int)-1))) s1.heap.objs.size l ((k.length:Int)-1 - ((0:Nat):Int)):=⟨_,Oq _ rfl,rfl,by simp[rvT,r]⟩;have z:Inv X m σ H1 {s1 with heap:=s1.heap.push (rvT l ((g.toArray.size:Int)-1)),toks:=s1.toks+1+1}:=f.kept λb u e=>N0 _ e;refine BC (s:={s1 with heap:=s1.heap.push (rvT l ((g.toArray.size:Int)-1)),toks:=s1.toks+1+1}) a ?_;refine⟨s1.heap.objs.size,[s1.heap.objs.size],_,_,H1,rfl,z,FL l _ k.length,⟨OP _,a⟩,λb v=>?_,q⟩;have e:b=s1.heap.objs.size:=by simpa using v
 subst e;exact f.fpOk (NZ _) (f.hok.fresh (NZ _))
end
def Ir{c:TE}{g:TG}{b:TS}{D:Ends}{σ:St}{H:Hp}:tFor (iRevT K c) g b D σ H=c σ H λx H1=>∃ a xs,x=.ref a/\SqT K H1 a xs/\LoopR (Itw K a xs.length) g b D σ H1:=rfl
theorem GS {a:Addr} {xs:List V} {g:TG} {d:TS} {D:Ends} {σ:St} {H:Hp} (b:Nat->St->Hp->Prop) (h0:b 0 σ H) (k:∀ i σ H,i<=xs.length->b i σ H->SqT K H a xs)
  (n:∀ i x σ H,xs.reverse[i]? =some x->b i σ H->g x σ H λf h=>d {D with nx:=b (i+1),ct:=b (i+1),bk:=D.nx} f h) (o:∀ σ H,b xs.length σ H->D.nx σ H):LoopR (Itw K a xs.length) g d D σ H:=by
 refine⟨λi m σ H=>m=xs.length-i/\i<=xs.length/\b i σ H,⟨xs.length,by simp,OP _,h0⟩,?_⟩;rintro i m σ H ⟨rfl,j,p⟩;have q:=k i σ H j p;by_cases c:i<xs.length
 . refine .inr ⟨⟨c,xs,q,rfl⟩,b (i+1),λr H' l=>⟨xs.length - (i+1),by lia,rfl,c,l⟩,λx H' y=>?_⟩;obtain⟨e,y⟩:=y;subst e;exact n i x σ _ (by rw[List.getElem?_reverse c];exact y xs q) p
 . have e:i=xs.length:=by lia
   subst e;exact .inl ⟨NZ _,o σ H p⟩
def gt(K:Frag):Sp:=#[3,∃ b a,vs=[.int b,.int a]/\0<=a/\a<=16/\
 ∀(l:Addr) (H':Hp) (cs:List Nat),Same H H'->H l=none->H' l=↥(nsV cs)->cs.Nodup->(∀ c∈cs,(c:Int)<a)->(cs.length:Int)=a->Q (.ref l) H']
def jQ(K:Frag):TS:=#[":gl~Ya1ch#2 gltch#3 gI~ga1ch#4 PHbFT3aHbF}z2adSd;0dC4ef#1 qAa2cccj3"]
variable{K:Frag}{vs:List V}{H:Hp}{Q:VK}{E:XK}
theorem wF(h:gt K vs H Q E):jQ K (eD9 Q) (start ["_law_number","_law_many","_law_left","_law_found","_law_k"] vs) H:=by
 obtain⟨k,a,rfl,N,O,q⟩:=h;exists jQ;refine⟨a,rfl,by lia,by lia,λL w=>?_⟩;obtain⟨H1,D,s1,z⟩:=aP (.lst ((rngL 0 a).map V.int)) w;rw[D];exists⟨aT #[1],λR l=>?_⟩;have g:R≠L:=λe=>by rw[e,z]at l;cases l
 refine⟨a,rfl,by lia,by lia,?_⟩
 refine no (λi σ H'=>∃(v:Option V) (b d:∅),σ=[⇑k,⇑a,↑L,↑R,v]/\Same H H'/\H' L=↥(d.map V.int)/\H' R=↥(b.map V.int)/\(b++d).Perm (rngL 0 a)/\b.length=i)
  ⟨none,[],rngL 0 a,rfl,s1.laid l,by rw[ah g.symm];exact z,by rw[ag];rfl,List.Perm.refl _,rfl⟩ ?_ ?_
 . rintro i σ t S ⟨v,b,d,rfl,s,e1,e2,m,p⟩;have G:=m.length_eq;rw[Oy,iy]at G;exists⟨a7 e2,a7 e1,⟨by lia,by lia⟩,?_⟩;rw[bh e1,NM];have f:0 < (d.length:Int):=by lia
   generalize k / (0+(i:Int)+1)=y at*;have M:=Pc y (Int.ne_of_gt f);have P:=OX y f;refine⟨f,?_⟩;generalize y % (d.length:Int)=j at*;have C:j.toNat<d.length:=by lia
   refine HC e1 M (by rw[NM];lia) (y:=V.int d[j.toNat]) (by rw[NR,NN C];rfl) ?_;have u:(upd t L (.lst ((d.map V.int).eraseIdx j.toNat))) R=↥(b.map V.int):=by rw[ah g];exact e2
   symm;rw[db u];refine⟨by rw[NM];exact aC #[4],_,b++[d[j.toNat]],d.eraseIdx j.toNat,rfl,(s.own w).own (s1.free l),?_,?_,?_,by simp[p]⟩
   . rw[ah g.symm,ag,yQ]
   . rw[ag];simp
   . have I:=wd d j.toNat C;have F:=List.Perm.append_left b I;refine List.Perm.trans ?_ m;rw[O5];exact F
 . rintro σ t ⟨v,b,d,rfl,s,e1,e2,m,p⟩;symm;have r:(b++d).Nodup:=m.nodup_iff.mpr (Fa a);have A:∀ x∈b,0<=x/\x<a:=λx o=>tU (m.mem_iff.mp (Of.mpr (.inl o)))
   have B:(b.map Int.toNat).map (λ(n:Nat)=>(n:Int))=b:=by
    rw[Op]
    conv=>rhs;rw[← Rz b]
    exact PJ λx o=>by have:=A x o;show((x.toNat:Nat):Int)=x;lia
   refine q R t (b.map Int.toNat) s (s1.free l) (by unfold nsV;rw[B];exact e2) ?_ ?_ ?_
   . have h1:=(PC.mp r).1;rw[← B]at h1;exact rV _ h1
   . intro c J;obtain⟨x,o,rfl⟩:=N9.mp J;have:=A x o;lia
   . rw[NM,p];lia
def lG(K:Frag):Sp:=#[3,∃ f h w g y fl,vs=[.int g,.ref f,.int y]/\Rw53 H f h w g fl/\mT K H/\∀(r:RR) (H':Hp),GR K H H'->mT K H'->nU h w g fl r->Q (.str r.txt) H']
def DS(K:Frag):TS:=#[":nmdNbQdk16w&--1 sb5h#1 Ddk21PHbFT5a6co"]
def d4(K:Frag):TS:=#[":jHb~Z}Aeuv`0adCta4cw&-- sbdC83h#1 Dq}Ba1cc",[32]]
def d5(K:Frag):TS:=#[":gnmdrb4euv`0ltaqAaw&--7 ~gaqAa7cch#1 Jmdrb1ef#0 md>dk21q}Ca^~a2~j+1c1cch#8 o}Db",s!"seen"]
def fT(K:Frag):TS:=#[":gnmdrb4euv`0gldCef#1 dSd;2ef#6 0h#9 ltaqAaw&--9 sb7h#1 mdrb121ca9ch#8 o}Eb",s!"count"]
def fU(K:Frag):TS:=#[":gnmdrb4euv`0ltaq~Oa7cch#8 o}Fb",s!"sum"]
def fV(K:Frag):TS:=#[":glw&--1 sb3h#1 Ddk21h#7 gltch#8 }Gb"]
def fW(K:Frag):TS:=#[":gnmdrb4euv`0l}H}Ib}J#608 #54 `13#1 h#3 o}Kb",s!"rising","_law_row.<locals>.<lambda>"]
def fX(K:Frag):TS:=#[":gnmdNbz4Oaeuv`0aeuv`1cgltch#5 gIsb3h#6 }Lbl5h#3 o}Mb",s!"unlike",s!"rising"]
def lH(K:Frag):TS:=#[":gl^~a,'Cbad;2ef#18 aqAa1cc~j+dCef#1 dSd;2ef#90 qAa1ch#3 gldktaeuv`0aeuv`1aeuv`2aeuv`3aeuv`4aeuv`0cdS2ef#6 h#4 }Nb",s!"unlike",s!"sum",s!"rising",s!"count",s!"seen"]
section
variable{K:Frag}{H:Hp}{Q:VK}{f C S:Addr}{k:RK}{h w g m y:Int}{fl:∅}{cs:List Nat}
theorem Cr{e:Addr}{a:List Nat}{w v1 v2 B F v m:Option V}(y:H C=↥((iN cs).map V.int))(u:H e=↥((iN a).map V.int))(I:∀ c∈cs,c<100)(r:∀ c∈a,c<100)(cl:cs.length<=16)(J:a.length<=2)(q:∀ H',Same H H'->Q (.str (tx (catL 32 (nmC k::(a++cs).map numC)))) H'):
  d4 K (eD9 Q) [w,v1,v2,↑C,some (.str (tx (nmC k))),B,F,v,↑e,m] H:=by
 unfold d4;exists⟨G5,lnR rfl,λj A=>?_⟩;obtain⟨H1,z9,s1,eW⟩:∃ z,upd H j (.lst [V.str (tx (nmC k))])=z/\Same H z/\z j=↥((([nmC k]:List (List Nat)).map tx).map V.str):=aP _ A;rw[z9];refine pc (s1 _ _ u) (s1 _ _ y) (by unfold iN;simp;lia) λY p=>?_;have i:Same H1 (upd H1 Y (.lst ((iN a).map V.int++(iN cs).map V.int))):=(NP H1).laid p;have g:(upd H1 Y (.lst ((iN a).map V.int++(iN cs).map V.int))) Y=↥(((a++cs).map λ(n:Nat)=>(n:Int)).map V.int):=by rw[ag];unfold iN;simp
 generalize upd H1 Y (.lst ((iN a).map V.int++(iN cs).map V.int))=H2 at*;refine⟨Y,rfl,⟨_,NW g⟩,?_⟩;refine Fc g (by simp;lia) (λc h=>(Of.mp h).elim (r c) (I c)) λl b L f D=>?_;exists pc ((i.trans f) _ _ eW) D (by simp;lia) λZ o=>?_;have s:Same b (upd b Z (.lst ((([nmC k]:List (List Nat)).map tx).map V.str++(((a++cs).map numC).map tx).map V.str))):=(NP b).laid o;have G:(upd b Z (.lst ((([nmC k]:List (List Nat)).map tx).map V.str++(((a++cs).map numC).map tx).map V.str))) Z=↥(((nmC k::(a++cs).map numC).map tx).map V.str):=by rw[ag];rfl
 generalize upd b Z (.lst ((([nmC k]:List (List Nat)).map tx).map V.str++(((a++cs).map numC).map tx).map V.str))=H4 at*;have M:=Ip k
 refine HF G (AF (by simp;lia) (λt E=>by
  obtain⟨z,d,rfl⟩:=N9.mp E;rw[mt];rcases N4.mp d with rfl | d
  . lia
  . obtain⟨x,_,rfl⟩:=N9.mp d;exact NY xP #[1]) (by rw[mt];decide)) ?_
 rw[Gu,xN];exact q _ (((s1.trans i).trans f).trans s)
theorem Af{d:Addr}{a:List Nat}{n mm:Nat}{f v1 v2 t j A p:Option V}(F:FlOk h w g)(Y:Cs58 h w cs)(m:allK k=false)(k0:k≠.Rule)(o:H C=↥((iN cs).map V.int))(v:H d=↥((iN a).map V.int))(s:∀ c∈a,c<100)(u:a.length<=2)(i:n<=99)(x:numK k=false->n=0)(m0:sgnK k=true->1<=(mm:Int)/\(mm:Int)<=g)(l:sgnK k=false->mm=0)(b:a.map numC=(if numK k then [numC n] else [])++(if sgnK k then [numC mm] else []))(y:hoB k h w (iN cs) n mm fl=true)(q:∀(r:RR) (H':Hp),Same H H'->nU h w g fl r->Q (.str r.txt) H'):
  d4 K (eD9 Q) [f,v1,v2,↑C,some (.str (tx (nmC k))),t,j,A,↑d,p] H:=by
 refine Cr o v (Y.lt100 F) s Y.len u λH' z=>?_
 have e:tx (catL 32 (nmC k::(a++cs).map numC))=RR.txt ⟨k,n,mm,cs,iN cs⟩:=by
  show _=tx (catL 32 (rowW k n mm cs));unfold rowW;rw[Pb,b]
 rw[e];exact q _ H' z (J8 F Y m k0 i x m0 l y)
theorem Cs{Nu:Addr}{v5 v6 v9:Option V}(X:Rw53 H f h w g fl)(Y:Cs58 h w cs)(u:allK k=false)(k0:k≠.Rule)(L:H C=↥((iN cs).map V.int))(B:H S=↥((sgAt fl (iN cs)).map V.int))(eN:H Nu=↥((iN []).map V.int))(T:k=.Unlike->(sgAt fl (iN cs)).Nodup)(ri:k=.Rising->risB (sgAt fl (iN cs))=true)(q:∀(r:RR) (H':Hp),Same H H'->nU h w g fl r->Q (.str r.txt) H'):
  fU K (eD9 Q) [⇑g,↑f,⇑y,↑C,some (.str (tx (nmC k))),v5,v6,↑S,↑Nu,v9] H:=by
 have F:=X.F;have g6:=F.g1;have cl:=Y.len;have sl:(sgAt fl (iN cs)).length=cs.length:=by unfold sgAt iN;rw[NM,NM]
 have U:∀ x∈sgAt fl (iN cs),1<=x/\x<=6:=λx s=>by
  unfold sgAt at s;obtain⟨c,d,rfl⟩:=N9.mp s;have:=GL Y X.fll X.sg d;lia
 unfold fU;rw[aB,az];generalize p:fT K=W at*;symm;rw[Ka];by_cases e1:k=.Sum
 . rw[NT e1];refine iteT ?_;symm;have sm:=Bn (sgAt fl (iN cs)) λx s=>by have:=U x s;lia
   refine Ac B (λx s=>by have:=U x s;lia) #[4] ?_;refine⟨lnR rfl,λN hN=>?_⟩;have s1:Same H (upd H N (.lst [V.int (sgAt fl (iN cs)).sum])):=(NP H).laid hN
   have a:(upd H N (.lst [V.int (sgAt fl (iN cs)).sum])) N=↥((iN [(sgAt fl (iN cs)).sum.toNat]).map V.int):=by
    rw[ag];show _=some (HO.lst [V.int (((sgAt fl (iN cs)).sum.toNat:Nat):Int)]);rw[show(((sgAt fl (iN cs)).sum.toNat:Nat):Int)=(sgAt fl (iN cs)).sum by lia]
   generalize upd H N (.lst [V.int (sgAt fl (iN cs)).sum])=H1 at*;subst p;unfold fT;rw[aB,az];symm;rw[Hd,e1,NQ (show ¬ RK.Sum=RK.Count by decide)];refine iteF ?_;unfold d5;rw[aB,az];symm;rw[Bs,NQ (show ¬ RK.Sum=RK.Seen by decide)];refine iteF ?_;refine Af (k:=.Sum) (n:=(sgAt fl (iN cs)).sum.toNat) (mm:=0) F Y rfl #[1] (s1 _ _ L) a (λc d=>by rw[NX.mp d];lia) (by simp) #[4] (λe=>by cases e) (λe=>by cases e) (λ_=>rfl) rfl ?_ λr H' J O=>q r H' (s1.trans J) O;show decide ((sgAt fl (iN cs)).sum=(((sgAt fl (iN cs)).sum.toNat:Nat):Int))=true;exact NT #[4]
 . rw[NQ e1];refine iteF ?_;subst p;unfold fT;rw[aB,az];generalize p:d5 K=W at*;symm;rw[Hd];by_cases e2:k=.Count
   . rw[NT e2];refine iteT ?_;symm;have g0:=F.g0;have b0:=Pc (y/6) (show g≠0 by lia);have b1:=OX (y/6) (show 0<g by lia);refine⟨⟨by decide,by decide⟩,by lia,?_⟩;generalize hm:1+y/6%g=m at*;exists⟨⟨_,NW B⟩,?_⟩;refine aY (λx=>decide (x=m)) (λx=>x) #[4] (NW B) ?_ ?_ ?_
     . intro x G R4 s I k4;show tTest _ [none,⇑x,⇑m] G R4;exists k4 _ (NP _)
     . intro x G Q4 s ac I k4;show tVar 1 [none,⇑x,⇑m] G Q4;exists k4 _ (NP _)
     . intro A j hA R D;have D:j A=↥(((sgAt fl (iN cs)).filter λy=>decide (y=m)).map V.int):=by rw[Pa]at D;exact D
       have ab:((sgAt fl (iN cs)).filter λy=>decide (y=m)).length<=cs.length:=by rw[← sl];exact N1 _ _
       have ct:=FJ fl (iN cs) m;symm;rw[bh D,NM];generalize ((sgAt fl (iN cs)).filter λy=>decide (y=m)).length=N at*;exists⟨lnR rfl,λt v=>?_⟩;have I:Same j (upd j t (.lst [V.int (N:Int),V.int m])):=(NP j).laid v
       have a:(upd j t (.lst [V.int (N:Int),V.int m])) t=↥((iN [N,m.toNat]).map V.int):=by
        rw[ag];show _=some (HO.lst [V.int (N:Int),V.int ((m.toNat:Nat):Int)]);rw[show((m.toNat:Nat):Int)=m by lia]
       generalize upd j t (.lst [V.int (N:Int),V.int m])=G at*;have b:=R.trans I;subst p;unfold d5;rw[aB,az];symm;rw[Bs,e2,NQ (show ¬ RK.Count=RK.Seen by decide)];refine iteF ?_
       refine Af (k:=.Count) (n:=N) (mm:=m.toNat) F Y rfl #[1] (b _ _ L) a (λc d=>by
        simp only[N4,OE,Pr]at d;rcases d with rfl | rfl <;> lia) (by simp) #[4] (λe=>by cases e) (λ_=>by lia) (λe=>by cases e) rfl ?_ λr H' J O=>q r H' (b.trans J) O
       show decide (((mkAt fl (iN cs) ((m.toNat:Nat):Int)).length:Int)=(N:Int))=true;rw[show((m.toNat:Nat):Int)=m by lia];exact NT ct.symm
   . rw[NQ e2];refine iteF ?_;subst p;unfold d5;rw[aB,az];generalize p:d4 K=W at*;symm;rw[Bs];by_cases o:k=.Seen
     . rw[NT o];refine iteT ?_;symm;rw[bh B,NM];refine⟨_,rfl,by lia,by lia,?_⟩;rw[Pq];refine uo (λi=>tX (sgAt fl (iN cs)) i) (λ(i:Nat)=>(0:Int)+(i:Int)) #[4] ?_ ?_ ?_
       . intro i H5 R5 hi s5 k5;show tOr _ _ [none,⇑(0+(i:Int)),↑S] H5 R5;rw[Qd];symm;unfold tX at k5;by_cases M:(i:Int)=0
         . refine FH (NT M) ?_;rw[NT M,P1]at k5;exact k5 _ (NP _)
         . refine sE (NQ M) ?_;rw[NQ M,O3]at k5;refine ixI (s5 _ _ B) #[4] #[4] ?_;rw[Pq];exists qh (s5 _ _ B) λZ hZ=>?_;rw[Jz V.int];obtain⟨H6,P,s6,eZ⟩:=aP (.lst (((sgAt fl (iN cs)).take i).map V.int)) hZ;rw[P];refine Jv eZ (by rw[OL];lia) ?_;exists k5 _ s6
       . intro i H5 Q5 hi ad s5 k5;exact kJ rfl (k5 _ (NP _))
       . intro A j hA R D;have sn:=FK (l:=sgAt fl (iN cs)) (λy hy=>(U y hy).1) (sgAt fl (iN cs)).length (NZ _);rw[ON]at sn;have bd:=FD (sgAt fl (iN cs));rw[bh D,NM,NM];generalize ((List.range (sgAt fl (iN cs)).length).filter (tX (sgAt fl (iN cs)))).length=N at*;exists⟨lnR rfl,λt v=>?_⟩;obtain⟨G,P,I,a⟩:∃ z,upd j t (.lst [V.int (N:Int)])=z/\Same j z/\z t=↥((iN [N]).map V.int):=aP _ v;rw[P];have b:=R.trans I;subst p;rw[o];refine Af (k:=.Seen) (n:=N) (mm:=0) F Y rfl #[1] (b _ _ L) a (λc d=>by rw[NX.mp d];lia) (by simp) #[4] (λe=>by cases e) (λe=>by cases e) (λ_=>rfl) rfl ?_ λr H' J O=>q r H' (b.trans J) O;show decide ((seenN (sgAt fl (iN cs))).2=(N:Int))=true;exact NT sn.symm
     . rw[NQ o];refine iteF ?_;subst p;have aa:numK k=false:=by revert e1 e2 o;cases k <;> intro e1 e2 o <;> first | rfl | exact absurd rfl e1 | exact absurd rfl e2 | exact absurd rfl o
       have E:sgnK k=false:=by revert u e2;cases k <;> intro u e2 <;> first | rfl | exact absurd rfl e2 | (cases u;done)
       refine Af (n:=0) (mm:=0) F Y u k0 L eN (λc d=>by cases d) (by simp) #[1] (λ_=>rfl) (λe=>by rw[E]at e;cases e) (λ_=>rfl) (by rw[aa,E];rfl) ?_ q
       revert e1 e2 o u k0 T ri
       cases k <;> intro u k0 T ri e1 e2 o <;> first
        | exact absurd rfl k0
        | exact absurd rfl e1
        | exact absurd rfl e2
        | exact absurd rfl o
        | (cases u;done)
        | exact NT ((AQ _).mpr (T rfl))
        | exact ri rfl
end
section
variable{K:Frag}{H:Hp}{Q:VK}{f C:Addr}{k:RK}{h w g m y:Int}{fl:∅}{cs:List Nat}
theorem uu{E F v t n:Option V}(X:Rw53 H f h w g fl)(Y:Cs58 h w cs)(B:allK k=false)(k0:k≠.Rule)(i:H C=↥((iN cs).map V.int))(A:k=.Unlike->(sgAt fl (iN cs)).Nodup)(G:k=.Rising->risB (sgAt fl (iN cs))=true)(q:∀(r:RR) (H':Hp),Same H H'->nU h w g fl r->Q (.str r.txt) H'):
  fV K (eD9 Q) [⇑g,↑f,⇑y,↑C,some (.str (tx (nmC k))),E,F,v,t,n] H:=by
 have cl:=Y.len;unfold fV;generalize D:fU K=W at*;exists⟨⟨_,NW i⟩,?_⟩;refine aY (λ_=>true) (λx=>fl.getD x.toNat 0) (by unfold iN;rw[NM];lia) (NW i) ?_ ?_ ?_
 . intro x e L m c k4;exact k4 _ (NP _)
 . intro x e u m p c k4;show tOp cIx _ _ [none,⇑x,↑f] e u;symm;have b:=GL Y X.fll X.sg m;exact ixI (c _ _ X.f) b.1 b.2.1 (k4 _ (NP _))
 . intro S j J s d;have d:j S=↥((sgAt fl (iN cs)).map V.int):=by rw[P4.mpr (λ_ _=>rfl)]at d;exact d
   exists⟨aT #[1],λl o=>?_⟩;obtain⟨e,z9,c,eN⟩:∃ z,upd j l (.lst [])=z/\Same j z/\z l=↥((iN []).map V.int):=aP _ o;rw[z9];have a:=s.trans c;subst D;exact Cs (X.same a) Y B k0 (a _ _ i) (c _ _ d) eN A G λr H' I O=>q r H' (a.trans I) O
theorem JM(k:RK):decide (tx (nmC k)=tx s!"rising")=decide (k=.Rising):=by cases k <;> decide+kernel
theorem uv{S Z P J G:Option V}(X:Rw53 H f h w g fl)(Y:Cs58 h w cs)(T:mT K H)(A:allK k=false)(k0:k≠.Rule)(B:H C=↥((iN cs).map V.int))(u:k=.Unlike\/k=.Rising->(sgAt fl (iN cs)).Nodup)(q:∀(r:RR) (H':Hp),GR K H H'->mT K H'->nU h w g fl r->Q (.str r.txt) H'):
  fW K (eD9 Q) [⇑g,↑f,⇑y,↑C,some (.str (tx (nmC k))),S,Z,P,J,G] H:=by
 have cl:=Y.len;have il:(iN cs).length=cs.length:=by unfold iN;rw[NM]
 unfold fW;rw[aB,az];generalize D:fV K=W at*;symm;rw[JM];by_cases e:k=.Rising
 . rw[NT e];refine iteT ?_;unfold qH;refine kJ (v:=V.ref C) rfl ?_;refine⟨C,f,iN cs,fl,rfl,B,rfl,X.f,λx s=>?_,by lia,T,λa r U hr o E t N I=>?_⟩
   . have b:=GL Y X.fll X.sg s;exact⟨b.1,b.2.1⟩
   . have M:∀ z∈a,0<=z:=λz L=>(Bm (o.mem_iff.mp L)).1
     have l:iN (a.map Int.toNat)=a:=by
      unfold iN;rw[Op]
      conv=>rhs;rw[← Rz a]
      exact PJ λx s=>by have:=M x s;show((x.toNat:Nat):Int)=x;lia
     have j:(a.map Int.toNat).Perm cs:=by
      have:=o.map Int.toNat;unfold iN at this;rw[Op]at this
      have e2:cs.map (Int.toNat ∘ λ(n:Nat)=>(n:Int))=cs:=by
       conv=>rhs;rw[← Rz cs]
       exact PJ λx _=>by show((x:Int)).toNat=x;lia
      rw[e2]at this;exact this
     have R:Cs58 h w (a.map Int.toNat):=⟨λe=>Y.ne (List.Perm.nil_eq (e ▸ j)).symm,j.nodup_iff.mpr Y.nd,λc hc=>Y.lt c (j.mem_iff.mp hc),by rw[j.length_eq];exact Y.len⟩
     have p:(sgAt fl (iN (a.map Int.toNat))).Nodup:=by
      rw[l];unfold sgAt;exact(o.map _).nodup_iff.mpr (u (.inr e))
     have m:(sgAt fl (iN (a.map Int.toNat))).Pairwise (· <=·):=by
      rw[l];unfold sgAt;rw[List.pairwise_map];exact E
     subst D;have X2:Rw53 U f h w g fl:=⟨X.F,t _ _ (T.ne X.f) X.f,X.fll,X.sg,X.m1⟩;exact uu X2 R A k0 (by rw[l];exact I) (λd=>by rw[e]at d;cases d) (λ_=>Bw m p) λr H' i O=>q r H' (t.trans (.of i)) (N.same i) O
 . rw[NQ e];refine iteF ?_;subst D;exact uu X Y A k0 B (λd=>u (.inl d)) (λd=>absurd d e) λr H' i O=>q r H' (.of i) (T.same i) O
theorem Iu {D:Ends} {R:Addr} {a:List Nat} {n:Nat} {k v2 l h j i g:Option V} (r:H f=↥(fl.map V.int)) (d:H R=↥((iN a).map V.int)) (A:a.length<=16) (v:∀ x∈a,x<fl.length) (y:n<fl.length)
  (k1:fl.getD n 0∉sgAt fl (iN a)->∀ H',Same H H'->D.nx [k,↑f,v2,l,h,↑R,⇑(n:Int),j,i,g] (upd H' R (.lst ((iN (a++[n])).map V.int))))
  (k2:a≠[]->∀ H',Same H H'->D.nx [k,↑f,v2,l,h,↑R,⇑(n:Int),j,i,g] H'):
  DS K D [k,↑f,v2,l,h,↑R,⇑(n:Int),j,i,g] H:=by
 unfold DS;rw[az];exists ixI r #[4] #[4] ?_;refine⟨⟨_,NW d⟩,?_⟩;refine aY (λ_=>true) (λx=>fl.getD x.toNat 0) (by unfold iN;rw[NM];lia) (NW d) ?_ ?_ ?_
 . intro x p z s q k4;exact k4 _ (NP _)
 . intro x p u s t q k4;show tOp cIx _ _ [none,⇑x,↑f] p u;symm;have m:=Bm s;have:=v _ m.2;exact ixI (q _ _ r) m.1 #[4] (k4 _ (NP _))
 . intro S o w c b;have b:o S=↥((sgAt fl (iN a)).map V.int):=by rw[P4.mpr (λ_ _=>rfl)]at b;exact b
   rw[lS b,Pq];by_cases h1:fl.getD n 0∈sgAt fl (iN a)
   . rw[NT h1];exists k2 (λe=>?_) o c;rw[e]at h1;cases h1
   . rw[NQ h1];exists⟨a7 (c _ _ d),?_⟩;rw[db (c _ _ d)];refine⟨by rw[NM];unfold iN;rw[NM];exact aC #[4],?_⟩;have:=k1 h1 o c;unfold iN at this ⊢;rw[Pb,Pb]at this;exact this
theorem Ct(X:Rw53 H f h w g fl)(Y:Cs58 h w cs)(T:mT K H)(E:allK k=false)(k0:k≠.Rule)(F:H C=↥((iN cs).map V.int))(q:∀(r:RR) (H':Hp),GR K H H'->mT K H'->nU h w g fl r->Q (.str r.txt) H'):
  fX K (eD9 Q) [⇑g,↑f,⇑y,↑C,some (.str (tx (nmC k))),none,none,none,none,none] H:=by
 have cl:=Y.len;have il:(iN cs).length=cs.length:=by unfold iN;rw[NM]
 unfold fX;rw[aB,az];generalize hW:fW K=W at*;generalize hU:DS K=U at*;exists⟨lnR rfl,λp N=>?_⟩;have t:Same H (upd H p (.tup ([tx s!"unlike",tx s!"rising"].map V.str))):=(NP H).laid N;have M:(upd H p (.tup ([tx s!"unlike",tx s!"rising"].map V.str))) p=some (.tup ([tx s!"unlike",tx s!"rising"].map V.str)):=ag;show cIn K false (V.str (tx (nmC k))) (V.ref p) (upd H p (.tup ([tx s!"unlike",tx s!"rising"].map V.str))) _;generalize upd H p (.tup ([tx s!"unlike",tx s!"rising"].map V.str))=H1 at*;rw[JL M,J9]
 cases hu:unrK k with
 | false=>
  refine⟨false,rfl,iteF ?_⟩;subst hW;exact uv (X.same t) Y (T.same t) E k0 (t _ _ F) (λe=>by rcases e with rfl | rfl <;> cases hu) λr H' Z S O=>q r H' ((SameX.of t).trans Z) S O
 | true=>
  refine⟨true,rfl,iteT ?_⟩;exists⟨aT #[1],λR hR=>?_⟩;have s6:Same H1 (upd H1 R (.lst [])):=(NP H1).laid hR;have eR:(upd H1 R (.lst [])) R=↥((iN []).map V.int):=ag;have G:H R=none:=t.free hR;generalize upd H1 R (.lst [])=H2 at*;have u:=t.trans s6;have aa:R≠C:=λe=>by rw[e,F]at G;cases G
  refine⟨⟨_,NW (u _ _ F)⟩,?_⟩;subst hU;have lt:=λc z=>Y.lt c z;have ab:=X.fll;refine bc (K:=K) (xs:=(iN cs).map V.int) (λi σ H'=>∃(o:Option V) (j:List Nat),σ=[⇑g,↑f,⇑y,↑C,some (.str (tx (nmC k))),↑R,o,none,none,none]/\Same H H'/\H' R=↥((iN j).map V.int)/\j.Sublist (cs.take i)/\(0<i->j≠[])/\(sgAt fl (iN j)).Nodup) ⟨_,[],rfl,u,eR,List.nil_sublist _,(λh=>absurd h (O0 _)),PU⟩ (λi σ H' _ ⟨_,_,_,s,_⟩=>NW (s _ _ F)) ?_ ?_
  . rintro i v σ H3 hv ⟨o,j,rfl,m,l,d,L,D⟩;obtain⟨c,z,rfl⟩:=aK hv
    have P:∃ n,cs[i]? =some n/\c=(n:Int):=by
     unfold iN at z;rw[NR]at z;obtain⟨n,A,rfl⟩:=OT.mp z;exact⟨n,A,rfl⟩
    obtain⟨n,A,rfl⟩:=P;have dl:j.length<=16:=NY d.length_le (by rw[OL];lia);have I:∀ x∈j,x<fl.length:=λx hx=>by have:=lt x (PR (d.subset hx));lia
    have tk:cs.take (i+1)=cs.take i++[n]:=by rw[Pn,A];rfl
    rw[aL];refine Iu (m _ _ X.f) l dl I (by have:=lt n (NS A);lia) (λJ H4 B=>?_) (λh0 H4 B=>?_)
    . exact⟨_,j++[n],rfl,(m.trans B).own G,ag,by rw[tk];exact d.append (List.Sublist.refl _),(λ_=>by simp),by rw[FC];exact PC.mpr ⟨D,by simp,λa E b hb e=>J (by rw[← NX.mp hb,← e];exact E)⟩⟩
    . exact⟨_,j,rfl,m.trans B,B _ _ l,d.trans (by rw[tk];exact List.sublist_append_left _ _),(λ_=>h0),D⟩
  . rintro σ H3 ⟨o,j,rfl,m,l,d,L,D⟩;rw[NM,il]at d L;rw[ON]at d;have cp:=Qx.mpr Y.ne;symm;subst hW;exact uv (X.same m) (Y.sub d (L cp)) (T.same m) E k0 l (λ_=>D) λr H' Z S O=>q r H' ((SameX.of m).trans Z) S O
end
def lin54:List RK:=[.Unlike,.Sum,.Rising,.Count,.Seen,.Unlike]
theorem GT{j:Int}(a:0<=j)(b:j<6):∃ k:RK,allK k=false/\k≠.Rule/\atI (lin54.map λk=>V.str (tx (nmC k))) j=some (V.str (tx (nmC k))):=by
 have e:j=0\/j=1\/j=2\/j=3\/j=4\/j=5:=by lia
 rcases e with rfl | rfl | rfl | rfl | rfl | rfl
 . exact⟨.Unlike,rfl,by decide,rfl⟩
 . exact⟨.Sum,rfl,by decide,rfl⟩
 . exact⟨.Rising,rfl,by decide,rfl⟩
 . exact⟨.Count,rfl,by decide,rfl⟩
 . exact⟨.Seen,rfl,by decide,rfl⟩
 . exact⟨.Unlike,rfl,by decide,rfl⟩
theorem zK(h:lG K vs H Q E):lH K (eD9 Q) (start ["_law_signs","_law_filling","_law_cell","_law_order_here","_law_word","_law_some","_law_spot","_law_told","_law_numbers","_law_sign"] vs) H:=by
 obtain⟨f,h,w,g,y,fl,rfl,X,T,q⟩:=h;have G:=X.fll;have A:=X.F.m;have P:=X.m1;ac_nf;unfold lH;generalize D:fX K=W at*;symm;rw[bh X.f,NM];refine⟨⟨by decide,by decide⟩,?_⟩;refine⟨_,_,rfl,by lia,by lia,λO n cs i R B L v s=>?_⟩;have S:=Pc (y/90) (show(fl.length:Int)≠0 by lia);have N:=OX (y/90) (show 0 < (fl.length:Int) by lia);symm;rw[bh (i _ _ X.f),NM];refine⟨⟨by decide,by decide⟩,?_⟩;exists⟨by lia,?_⟩;generalize y/90 % (fl.length:Int)=x at*;refine qh B λd b=>?_;rw[u6 _ #[4],Bu];obtain⟨H4,z9,s4,e4⟩:∃ z,upd n d (.lst (nsV (cs.take (1+x).toNat)))=z/\Same n z/\z d=↥((iN (cs.take (1+x).toNat)).map V.int):=aP _ b;rw[z9];have l:(cs.take (1+x).toNat).length=(1+x).toNat:=by rw[OL];lia
 have Y:Cs58 h w (cs.take (1+x).toNat):=⟨λe=>by rw[e]at l;simp at l;lia,L.sublist (List.take_sublist _ _),λc J=>by have:=v c (PR J);lia,by lia⟩;generalize cs.take (1+x).toNat=ds at*;exists⟨lnR rfl,λU p=>?_⟩;have o:Same H4 (upd H4 U (.lst (lin54.map λk=>V.str (tx (nmC k))))):=(NP H4).laid p;have t:(upd H4 U (.lst (lin54.map λk=>V.str (tx (nmC k))))) U=↥(lin54.map λk=>V.str (tx (nmC k))):=ag;refine⟨by decide,?_⟩;show cIx (V.ref U) (V.int (y%6)) (upd H4 U (.lst (lin54.map λk=>V.str (tx (nmC k))))) _;generalize upd H4 U (.lst (lin54.map λk=>V.str (tx (nmC k))))=H5 at*;obtain⟨k,C,k0,u⟩:=GT (j:=y%6) (Pc _ #[1]) (OX _ #[1]);refine ixL t u ?_;have a:=(i.trans s4).trans o;subst D;exact Ct (X.same a) Y (T.same a) C k0 (o _ _ e4) λr H' M I O=>q r H' ((SameX.of a).trans M) I O
def cH(K:Frag):Sp:=#[3,vs=[]/\∀(l:Addr) (H':Hp),Same H H'->H l=none->KdL H' l allT->Q (.ref l) H']
def jR(K:Frag):TS:=#[":gltaeuv`0aeuv`1aeuv`2aeuv`3aeuv`4aeuv`5aeuv`6aeuv`7aeuv`8aeuv`9aeuv`:ch#0 j0",s!"clue",s!"only",s!"place",s!"count",s!"step",s!"sum",s!"square",s!"reach",s!"turn",s!"pair",s!"ways"]
theorem wG(h:cH K vs H Q E):jR K (eD9 Q) (start ["_law_some"] vs) H:=by
 obtain⟨rfl,q⟩:=h;exists jR;refine⟨lnR rfl,λl a=>?_⟩;exact q l _ ((NP H).laid a) a ag
def kbF(ks:List TK)(t:TK):List TK:=ks.filter λx=>!decide (x=t)
def yp(ks:List TK)(t:TK):(kbF ks t).length<=ks.length:=N1 _ _
variable{ks:List TK}
theorem yq{d:Addr->Hp->Prop}{k:Addr}{t:TK}(p:KdL H k ks)(r:ks.length<=900)(u:∀ l H',H l=none->Same H H'->KdL H' l (kbF ks t)->d l H'):
  CompR (Itl K k) (gName 1) (tTest (tOp (cNe K) (tVar 1) (tVar 2))) (tVar 1) d [none,none,some (.str (txk t))] H:=by
 have m:((ks.map txk).map V.str).length=ks.length:=by rw[NM,NM]
 refine bE (xs:=(ks.map txk).map V.str) (λi=>!decide (ks.getD i .clue=t)) (λi=>V.str (txk (ks.getD i .clue))) (by rw[m];exact r) (NW p) ?_ ?_ ?_
 . intro i x j o b s k4;rw[NR,NR]at b
   cases c:ks[i]? with
   | none=>rw[c]at b;cases b
   | some a=>
    rw[c]at b;cases b;have f:ks.getD i .clue=a:=by rw[List.getD,c];rfl
    rw[f]at k4;show tTest _ [none,some (.str (txk a)),some (.str (txk t))] j o;symm;rw[C6];exact k4 _ (NP _)
 . intro i x j y b v s k4;rw[NR,NR]at b
   cases c:ks[i]? with
   | none=>rw[c]at b;cases b
   | some a=>
    rw[c]at b;cases b;have f:ks.getD i .clue=a:=by rw[List.getD,c];rfl
    rw[f]at k4;exact kJ rfl (k4 _ (NP _))
 . intro l q g n w;refine u l q g n ?_;unfold KdL kbF;rw[w,m,Op]
   have e:ks=(List.range ks.length).map λi=>ks.getD i .clue:=by
    refine O6 λi=>?_;rw[NR];by_cases h:i<ks.length
    . rw[OQ h,NN h];simp[List.getD,h]
    . rw[Oi #[4],Oi (by rw[OU];lia)];rfl
   conv=>rhs;rw[e,PN,Op]
   rfl
def jS(K:Frag):Sp:=#[3,∃ a ks t,vs=[.ref a,.str (txk t)]/\KdL H a ks/\ks.length<=900/\∀(l:Addr) (H':Hp),Same H H'->H l=none->KdL H' l (kbF ks t)->Q (.ref l) H']
def qL(K:Frag):TS:=#[":jw&--1 sb0h#1 mdBb121"]
theorem DT(h:jS K vs H Q E):qL K (eD9 Q) (start ["kinds","kind"] vs) H:=by
 obtain⟨f,ks,t,rfl,a,c,q⟩:=h;exists qL;refine⟨⟨_,NW a⟩,?_⟩;exact yq a c λl H' b d e=>q l H' d b e
theorem Kc:∀ m∈List.range 8,((((sgL (m:Int)).length:Int)=1)↔(m:Int)∈([1,2,4]:∅))/\((m:Int)∈([1,2,4]:∅)->sbI (m:Int)=([1,2,0,3]:∅).getD (m-1) 0):=by decide+kernel
theorem GU{m:Int}(m0:0<=m)(a:m<8):decide (((sgL m).length:Int)=1)=decide (m∈([1,2,4]:∅))/\(m∈([1,2,4]:∅)->sbI m=([1,2,0,3]:∅).getD (m-1).toNat 0):=by
 have e:((m.toNat:Nat):Int)=m:=by lia
 have:=Kc m.toNat (Oe.mpr #[4]);rw[e]at this;refine⟨by rw[decide_eq_decide];exact this.1,λh=>?_⟩;rw[this.2 h]
 congr 1
 lia
def dq(K:Frag)(c:RO)(d:RP):Sp:=#[3,∃ P L G a h w g NC cl ks,vs=[.ref P,.ref a,.int (h*w),.int (2^g.toNat-1)]/\IsPz H c d P L G h w g NC cl/\g<=3/\KdL H a ks/\∀ H',Same H H'->Q (.bl (setF h w g NC ks cl)) H']
def fY(K:Frag)(c:RO)(d:RP):TS:=#[":jypR'A'Bbip0a5c"]
def dO(K:Frag)(c:RO)(d:RP):TS:=#[":gltch#5 gIsb4h#6 gnmdNbQ6Oaef#1 aef#2 aef#4 cjeGzoPHbFT5adktaef#1 aef#2 aef#0 aef#3 cdU6ef#1 c}Obip"]
def ia(K:Frag)(c:RO)(d:RP):TS:=#[":gldk,'bbipa0ad~Tta3c2a1cef#0 h#4 }Pbip"]
variable{c:RO}{d:RP}{NC:List RR}{cl:∅}
theorem He{P L G A a:Addr}{h w g:Int}(b:IsPz H c d P L G h w g NC cl)(o:H A=↥((fuL h w g).map V.int))(j:KdL H a ks)(q:∀(T N:Addr) (H':Hp),Same H H'->H N=none->(∃ B,H' T=some (.tup [.ref N,.ref B]))->H' N=↥((stF h w g NC cl ks).map V.int)->MkP g (h*w).toNat (stF h w g NC cl ks)->Q (.ref T) H'):kB K c d [.ref P,.ref A,.ref a] H Q E:=by
 have F:=b.R.F;have X:=DP (h:=h) (w:=w) F.g0 F.g1;refine⟨P,L,G,A,a,h,w,g,NC,cl,_,ks,rfl,⟨b,o,X.len,X.mm⟩,.inl j,λT N B t Ms i NI k n u l r y x m f s p W v R=>?_⟩;have M:=(W.okM F.g0 F.g1 X).1;have e:=sD R;rw[e]at f M;exact q T N k n l ⟨_,m⟩ f M
variable{ns:∅}
theorem GV{p:Addr}{i:Int}(h:H p=some (.tup (ns.map V.int))):cIn K true (.int i) (.ref p) H Q=Q (.bl (!decide (i∈ns))) H:=by
 unfold cIn;dsimp only;rw[h];dsimp only[unD,unS,bnd];rw[qg,nq];simp[flatV]
theorem Hf{h w g:Int}:(List.replicate (h*w).toNat [V.int (2^g.toNat-1)]).flatten=(fuL h w g).map V.int:=by
 unfold fuL;rw[QH];generalize (h*w).toNat=n
 induction n with
 | zero=>rfl
 | succ n a=>rw[O4,PB,a,O4];rfl
theorem qM{P L G N:Addr}{h w g:Int}{a:∅}{v1 v2 S v5 u:Option V}(B:IsPz H c d P L G h w g NC cl)(g3:g<=3)(E:H N=↥(a.map V.int))(M:MkP g (h*w).toNat a)(q:∀ H',Same H H'->Q (.bl (stlB h w g NC cl a)) H'):
  dO K c d (eD9 Q) [↑P,v1,v2,S,↑N,v5,u] H:=by
 have F:=B.R.F;have g0:=F.g0;have X:=F.m;have nl:=M.len
 have p8:(2:Int)^g.toNat<=8:=by
  have e:g=1\/g=2\/g=3:=by lia
  rcases e with rfl | rfl | rfl <;> decide
 have mb:∀ m∈a,0<=m/\m<8:=λm r=>by have:=M.mm m r;lia
 unfold dO;generalize Y:fY K c d=W at*;exists⟨aT #[1],λR J=>?_⟩;obtain⟨H1,z9,s1,eR⟩:∃ z,upd H R (.lst [])=z/\Same H z/\z R=↥(([]:∅).map V.int):=aP _ J;rw[z9];refine⟨⟨_,NW (s1 _ _ E)⟩,?_⟩;refine bc (K:=K) (xs:=a.map V.int) (λi σ H'=>∃(u:Option V),σ=[↑P,v1,v2,S,↑N,↑R,u]/\Same H H'/\H' R=↥(((a.take i).map sbI).map V.int)/\setB (a.take i)=true) ⟨_,rfl,s1,eR,rfl⟩ (λi σ H' _ ⟨_,_,s,_⟩=>NW (s _ _ E)) ?_ ?_
 . rintro i v σ D hv ⟨u,rfl,l,y,A⟩;obtain⟨m,r,rfl⟩:=aK hv;have x:=NS r;have b:=mb m x;have o:=GU b.1 b.2;have hi:=(NO.mp r).1;have O:a.take (i+1)=a.take i++[m]:=by rw[Pn,r];rfl
   have tl:(a.take i).length=i:=by rw[OL];lia
   rw[aL];symm;rw[az];exists⟨lnR rfl,λU T=>?_⟩;obtain⟨n,z9,j,eU⟩:∃ z,upd D U (.tup [V.int 1,V.int 2,V.int 4])=z/\Same D z/\z U=some (.tup (([1,2,4]:∅).map V.int)):=aP _ T;rw[z9];rw[GV eU];by_cases f:m∈([1,2,4]:∅)
   . rw[NT f];refine⟨false,rfl,iteF ?_⟩;exists⟨a7 (j _ _ y),lnR rfl,λI C=>?_⟩;obtain⟨H5,z9,s5,eU2⟩:∃ z,upd n I (.lst [V.int 1,V.int 2,V.int 0,V.int 3])=z/\Same n z/\z I=↥(([1,2,0,3]:∅).map V.int):=aP _ C;rw[z9];have Z:1<=m/\m<=4:=by simp at f;lia
     refine ixI eU2 #[4] (by show _ < (4:Int);lia) ?_;rw[← o.2 f];rw[db ((j.trans s5) _ _ y)];refine⟨by rw[NM,NM];exact aC #[4],_,rfl,((l.trans j).trans s5).own J,?_,?_⟩
     . rw[ag,O];simp
     . rw[O];unfold setB at A ⊢;rw[List.all_append,A,Ob,P6,o.1,NT f];rfl
   . rw[NQ f];refine⟨true,rfl,iteT ?_⟩
     have e:stlB h w g NC cl a=false:=by
      unfold stlB
      have:setB a=false:=by
       unfold setB;rw[List.all_eq_false];exact⟨m,x,by rw[o.1,NQ f];simp⟩
      rw[this];rfl
     have:=q n (l.trans j);rw[e]at this;exact this
 . rintro σ D ⟨u,rfl,l,y,A⟩;rw[NM,ON]at A y;subst Y;unfold fY;have t:=B.same l;obtain⟨dx,p,rs,h1,h2,h3⟩:=t.ex;dsimp only;rw[b7];refine methE (k:=.Puzzle) rfl B.ok h1 (by rfl) ?_;exists⟨P,L,G,R,h,w,g,NC,cl,a.map sbI,rfl,t,y,by rw[NM];lia,λn j=>?_⟩;have:=q n (l.trans j);unfold stlB at this;rw[A,Ob]at this;exact this
theorem ua(h:dq K c d vs H Q E):ia K c d (eD9 Q) (start ["_law_puzzle","_law_kinds_here","_law_many","_law_whole","_law_masks","_law_filling","_law_mask"] vs) H:=by
 obtain⟨P,L,G,D,h,w,g,NC,cl,ks,rfl,e,x,k,q⟩:=h;have F:=e.R.F;have s:0<=h*w:=Pm (by have:=F.h0;lia) (by have:=F.w0;lia);have r:=F.m;ac_nf;unfold ia;generalize t:dO K c d=W at*;exists⟨lnR rfl,λU i=>?_⟩;obtain⟨H1,f,s1,l⟩:=aP (.lst [V.int (2^g.toNat-1)]) i;rw[f];refine vT l s #[4] (by simp) λA y=>?_;rw[Hf];obtain⟨I,f,u,p⟩:=aP (.lst ((fuL h w g).map V.int)) y;rw[f];have a:=s1.trans u;exists He (e.same a) p (a _ _ k) λT N J j C ⟨B,n⟩ o M=>?_;refine ixT n (v:=V.ref N) rfl ?_;subst t;have b:=a.trans j;exact qM (e.same b) x o M λH' z=>q H' (b.trans z)
structure IsNd(H:Hp)(T A B:Addr)(ts Ms:List Addr)(ks:List TK)(rs:List (TK × ∅)):Prop where
 ne:A≠B
 top:H T=some (.tup [.ref A,.ref B])
 A:KdL H A ks
 R:H B=↥(ts.map V.ref)
 l1:ts.length=rs.length
 l2:Ms.length=rs.length
 at_:∀(i:Nat) (t M:Addr) (r:TK × ∅),ts[i]? =some t->Ms[i]? =some M->rs[i]? =some r->H t=some (.tup [.str (txk r.1),.ref M])/\H M=↥(r.2.map V.int)
variable{ts Ms:List Addr}{rs:List (TK × ∅)}
def IsNd.same{H':Hp}{T A B:Addr}(x:IsNd H T A B ts Ms ks rs)(s:Same H H'):IsNd H' T A B ts Ms ks rs:=
 ⟨x.ne,s _ _ x.top,s _ _ x.A,s _ _ x.R,x.l1,x.l2,λi t M r a b e=>let q:=x.at_ i t M r a b e;⟨s _ _ q.1,s _ _ q.2⟩⟩
noncomputable def nkS (h w g:Int) (NC:List RR) (cl:∅) (ks:List TK) (t:TK):List TK:=if setF h w g NC (kbF ks t) cl=true then kbF ks t else ks
noncomputable def nkL (h w g:Int) (NC:List RR) (cl:∅):List TK:=allT.reverse.foldl (nkS h w g NC cl) allT
noncomputable def nkR (h w g:Int) (NC:List RR) (cl:∅) (ks:List TK):List (TK × ∅):=ks.map λt=>(t,stF h w g NC cl (kbF ks t))
theorem Iv{h w g:Int}(ks:List TK)(t:TK):(nkS h w g NC cl ks t).length<=ks.length:=by
 unfold nkS
 split
 . exact yp _ _
 . exact NZ _
def NdP(Q:VK)(H:Hp)(ks:List TK)(rs:List (TK × ∅)):Prop:=∀(T A B:Addr) (ts Ms:List Addr) (H':Hp),Same H H'->H T=none->H A=none->H B=none->(∀ t∈ts,H t=none)->(∀ M∈Ms,H M=none)->IsNd H' T A B ts Ms ks rs->Q (.ref T) H'
theorem wH{i:Nat}{x:V}(h:((ks.map txk).map V.str)[i]? =some x):∃ t,ks[i]? =some t/\x=V.str (txk t):=by
 rw[NR,NR]at h
 cases b:ks[i]? with
 | none=>rw[b]at h;cases h
 | some a=>rw[b]at h;cases h;exact⟨a,rfl,rfl⟩
def nV(K:Frag)(c:RO)(d:RP):Sp:=#[3,∃ P L G h w g NC cl,vs=[.ref P]/\IsPz H c d P L G h w g NC cl/\
 (setF h w g NC allT cl=false->∀ H',Same H H'->Q .non H')/\(setF h w g NC allT cl=true->NdP Q H (nkL h w g NC cl) (nkR h w g NC cl (nkL h w g NC cl)))]
def jT(K:Frag)(c:RO)(d:RP):TS:=#[":jOa1aw&--10 sb1h#1 DOa1a,'zbipa3a,'cba2a1cccc"]
def jU(K:Frag)(c:RO)(d:RP):TS:=#[":gI}Qb~^b'ah#2 nx,'dbipa0a,'cba1a2ccl,'cba1a2ch#1 o}Rbip"]
def sF(K:Frag)(c:RO)(d:RP):TS:=#[":glq}Sba~^b'ach#1 gnKx,'dbipa0a1cjeZo}Tbip"]
section
variable{K:Frag}{c:RO}{d:RP}{H0 H:Hp}{Q:VK}{P L G:Addr}{h w g:Int}{NC:List RR}{cl:∅}{ks:List TK}
theorem BD{m:Addr}{v2:Option V}(s0:Same H0 H)(pz:IsPz H c d P L G h w g NC cl)(o:KdL H m ks)(fK:H0 m=none)(kn:ks.length<=11)(q:NdP Q H0 ks (nkR h w g NC cl ks)):
  jT K c d (eD9 Q) [↑P,↑m,v2] H:=by
 have kl:((ks.map txk).map V.str).length=ks.length:=by rw[NM,NM]
 unfold jT;exists⟨⟨_,NW o⟩,?_⟩
 refine nr (xs:=(ks.map txk).map V.str) (λl i σ H'=>(σ=[none,none,↑m,↑P]\/∃ cv,σ=[none,cv,↑m,↑P])/\Same H H'/\∃ ts Ms:List Addr,H' l=↥(ts.map V.ref)/\ts.length=i/\Ms.length=i/\(∀ t∈ts,H t=none/\t≠l)/\(∀ M∈Ms,H M=none/\M≠l)/\∀(j:Nat) (t M:Addr) (z:TK),ts[j]? =some t->Ms[j]? =some M->ks[j]? =some z->H' t=some (.tup [.str (txk z),.ref M])/\H' M=↥((stF h w g NC cl (kbF ks z)).map V.int))
  (λl B=>⟨.inl rfl,(NP H).laid B,[],[],by rw[ag];rfl,rfl,rfl,(λ_ h=>nomatch h),(λ_ h=>nomatch h),λj t M z e=>by simp at e⟩) (λl i σ H' _ _ p=>NW (p.2.1 _ _ o)) ?_ ?_
 . rintro l i x σ S B hx ⟨hσ,f,ts,Ms,D,C,E,I,O,n⟩;obtain⟨z,J,rfl⟩:=wH hx;have hi:i<ks.length:=(NO.mp J).1
   have eσ:σ.set 1 (some (.str (txk z)))=[none,some (.str (txk z)),↑m,↑P]:=by
    rcases hσ with rfl | ⟨cv,rfl⟩ <;> rfl
   rw[aL,eσ];show tTrue _ _ _;rw[bU];rw[Os rfl];exists⟨m,ks,z,rfl,f _ _ o,by lia,λF H4 b hF eF=>?_⟩;exists⟨P,L,G,F,h,w,g,NC,cl,kbF ks z,rfl,pz.same (f.trans b),.inl eF,λN aa NI H5 Y U Z W en R=>?_⟩;rw[sD R]at Z;exists⟨lnR rfl,λT s=>?_⟩;obtain⟨H6,z9,s6,eT⟩:=aP (.tup [V.str (txk z),V.ref N]) s;rw[z9];have k:=b.trans (Y.trans s6);have X:=k _ _ D;have nT:T≠l:=λe=>by rw[e,(b.trans Y) _ _ D]at s;cases s
   have nN:N≠l:=λe=>by rw[e,b _ _ D]at U;cases U
   refine⟨_,X,by rw[NM];exact aC #[4],.inr ⟨_,rfl⟩,(f.trans k).own B,ts++[T],Ms++[N],by rw[ag,Pb];rfl,by simp[C],by simp[E],λt v=>?_,λM u=>?_,λj t M y e1 e2 A=>?_⟩
   . rcases Of.mp v with v | v
     . exact I t v
     . rw[NX.mp v];exact⟨(f.trans (b.trans Y)).free s,nT⟩
   . rcases Of.mp u with u | u
     . exact O M u
     . rw[NX.mp u];exact⟨(f.trans b).free U,nN⟩
   . rcases Nat.lt_or_ge j i with qj | qj
     . rw[Ow #[4]]at e1 e2;have a:=n j t M y e1 e2 A;refine⟨by rw[ah (I t (NS e1)).2];exact k _ _ a.1,by rw[ah (O M (NS e2)).2];exact k _ _ a.2⟩
     . have hj:j<ts.length+1:=by have:=(NO.mp e1).1;simpa using this
       obtain rfl:j=i:=by lia
       rw[Ot #[4],C,Qz]at e1;rw[Ot #[4],E,Qz]at e2;rw[J]at A;cases e1;cases e2;cases A;exact⟨by rw[ah nT];exact eT,by rw[ah nN];exact s6 _ _ Z⟩
 . rintro l σ S B ⟨_,f,ts,Ms,D,C,E,I,O,n⟩;rw[kl]at C E;exists⟨lnR rfl,λT s=>?_⟩;have b:Same S (upd S T (.tup [V.ref m,V.ref l])):=(NP S).laid s;refine q T m l ts Ms _ ((s0.trans f).trans b) ((s0.trans f).free s) fK (s0.free B) (λt v=>s0.free (I t v).1) (λM u=>s0.free (O M u).1) ⟨λe=>(by unfold KdL at o;rw[e,B]at o;cases o),ag,(f.trans b) _ _ o,b _ _ D,by unfold nkR;rw[NM];exact C,by unfold nkR;rw[NM];exact E,λj t M r e1 e2 A=>?_⟩;unfold nkR at A;rw[NR]at A;obtain⟨z,J,rfl⟩:=OT.mp A;have a:=n j t M z e1 e2 J;exact⟨b _ _ a.1,b _ _ a.2⟩
theorem BE{o:Addr}(s0:Same H0 H)(z:IsPz H c d P L G h w g NC cl)(J:KdL H o allT)(O:H0 o=none)(q:NdP Q H0 (nkL h w g NC cl) (nkR h w g NC cl (nkL h w g NC cl))):
  jU K c d (eD9 Q) [↑P,↑o,none] H:=by
 unfold jU;generalize S:jT K c d=W at*;rw[aB,Ir,GG];intro u v;rw[qG]at v;refine⟨u,_,rfl,v,?_⟩;refine GS (K:=K) (xs:=(allT.map txk).map V.str) (λi σ H'=>∃(a:Addr) (v2:Option V),σ=[↑P,↑a,v2]/\Same H H'/\KdL H' a ((allT.reverse.take i).foldl (nkS h w g NC cl) allT)/\H0 a=none/\((allT.reverse.take i).foldl (nkS h w g NC cl) allT).length<=11) ⟨o,_,rfl,NP _,J,O,NZ _⟩ (λi σ H' _ ⟨_,_,_,s,_⟩=>s.sqt v) ?_ ?_
 . rintro i x σ X C ⟨a,v2,rfl,p,e,f,l⟩;rw[← PL,← PL]at C;obtain⟨t,U,rfl⟩:=wH C;have T:allT.reverse.take (i+1)=allT.reverse.take i++[t]:=by rw[Pn,U];rfl
   rw[T,Pp,O9,List.foldl_nil];generalize (allT.reverse.take i).foldl (nkS h w g NC cl) allT=ks at*;rw[aL,az];exists⟨a,ks,t,rfl,e,by lia,λF H3 A hF I=>?_⟩;symm;have m:=p.trans A;have k:nkS h w g NC cl ks t=if setF h w g NC (kbF ks t) cl=true then kbF ks t else ks:=rfl;refine⟨P,L,G,F,h,w,g,NC,cl,kbF ks t,rfl,z.same m,.inl I,λE NI H4 B W' en R=>?_⟩;rw[sD R];show ∃ b,V.bl (setF h w g NC (kbF ks t) cl)=V.bl b/\_;have j:=m.trans B;have n:=A.trans B
   cases D:setF h w g NC (kbF ks t) cl with
   | false=>
    rw[D]at k;refine⟨false,rfl,iteF ?_⟩;exact⟨a,_,rfl,j,by rw[k];exact n _ _ e,f,by rw[k];exact l⟩
   | true=>
    rw[D]at k;refine⟨true,rfl,iteT ?_⟩;exists⟨a,ks,t,rfl,n _ _ e,by lia,λN Z Y y r=>?_⟩;exact⟨N,_,rfl,j.trans Y,by rw[k];exact r,(s0.trans j).free y,by rw[k];exact NY (yp _ _) l⟩
 . rintro σ X ⟨a,v2,rfl,p,e,f,l⟩;have M:allT.reverse.take ((allT.map txk).map V.str).length=allT.reverse:=rfl;rw[M]at e l;subst S;exact BD (s0.trans p) (z.same p) e f l q
end
theorem FM(h:nV K c d vs H Q E):sF K c d (eD9 Q) (start ["puzzle","kinds","kind"] vs) H:=by
 obtain⟨P,L,G,h,w,g,NC,cl,rfl,i,p,n⟩:=h;ac_nf;unfold sF;generalize q:jU K c d=W at*;rw[aB,bw,fu,bG,GG];intro u l;rw[qG]at l;exists⟨u,_,rfl,.inr l,λe f=>?_⟩;have s1:Same H (upd H e (.lst ((allT.map txk).map V.str))):=(NP H).laid f;have k:KdL (upd H e (.lst ((allT.map txk).map V.str))) e allT:=ag;generalize upd H e (.lst ((allT.map txk).map V.str))=H1 at*;symm;rw[az];exists⟨P,L,G,e,h,w,g,NC,cl,allT,rfl,i.same s1,.inl k,λo NI s m r t R=>?_⟩;rw[sD R];show ∃ b,V.bl (setF h w g NC allT cl)=V.bl b/\_;have a:=s1.trans m
 cases j:setF h w g NC allT cl with
 | false=>exact⟨false,rfl,iteT (p j _ a)⟩
 | true=>
  refine⟨true,rfl,iteF ?_⟩;subst q;exact BE a (i.same a) (m _ _ k) f (n j)
def lI(K:Frag)(c:RO)(d:RP):Sp:=#[3,∃ P L G h w g NC cl,vs=[.ref P,.int (h*w),.int (2^g.toNat-1)]/\IsPz H c d P L G h w g NC cl/\g<=3/\
 (setF h w g NC allT cl=false->∀ H',Same H H'->Q .non H')/\(setF h w g NC allT cl=true->NdP Q H (nkL h w g NC cl) (nkR h w g NC cl (nkL h w g NC cl)))]
def iV(K:Frag)(c:RO)(d:RP):TS:=#[":jOa3a7c"]
def fZ(K:Frag)(c:RO)(d:RP):TS:=#[":gltch#7 gIsb3h#5 g~i#6 &--5 sb3h#1 mdBb121PHbFT7aOa5adk,'bbipa0ad~Tta2c1a6cef#0 cc}Ubip"]
def f6(K:Frag)(c:RO)(d:RP):TS:=#[":gl,~Ebch#3 gIsb'D,~Ebch#4 g~i#6 &--4 sb3h#1 mdBb121nx,'ebipa0a6a1a2cl6h#3 o}Vbip"]
def lJ(K:Frag)(c:RO)(d:RP):TS:=#[":gnKx,'ebipa0a,~Ebca1a2cjeZo}Wbip"]
section
variable{K:Frag}{c:RO}{d:RP}{H0 H:Hp}{Q:VK}{P L G:Addr}{h w g:Int}{NC:List RR}{cl:∅}{ks:List TK}
theorem Cu{O:Addr}{v4 Y Z:Option V}(s0:Same H0 H)(pz:IsPz H c d P L G h w g NC cl)(n:KdL H O ks)(fK:H0 O=none)(kn:ks.length<=11)(q:NdP Q H0 ks (nkR h w g NC cl ks)):
  fZ K c d (eD9 Q) [↑P,⇑(h*w),⇑(2^g.toNat-1),↑O,v4,Y,Z,none] H:=by
 have F:=pz.R.F;have mp:0<=h*w:=Pm (by have:=F.h0;lia) (by have:=F.w0;lia);have ac:=F.m;have kl:((ks.map txk).map V.str).length=ks.length:=by rw[NM,NM]
 unfold fZ;generalize hW:iV K c d=W at*;exists⟨aT #[1],λl hl=>?_⟩;obtain⟨H1,D,s1,el0⟩:∃ z,upd H l (.lst [])=z/\Same H z/\z l=↥(([]:List Addr).map V.ref):=aP _ hl;rw[D];refine⟨⟨_,NW (s1 _ _ n)⟩,?_⟩
 refine bc (K:=K) (xs:=(ks.map txk).map V.str) (λi σ H'=>∃(Y Z:Option V),σ=[↑P,⇑(h*w),⇑(2^g.toNat-1),↑O,v4,Y,Z,↑l]/\Same H H'/\∃ ts Ms:List Addr,H' l=↥(ts.map V.ref)/\ts.length=i/\Ms.length=i/\(∀ t∈ts,H t=none/\t≠l)/\(∀ M∈Ms,H M=none/\M≠l)/\∀(j:Nat) (t M:Addr) (z:TK),ts[j]? =some t->Ms[j]? =some M->ks[j]? =some z->H' t=some (.tup [.str (txk z),.ref M])/\H' M=↥((stF h w g NC cl (kbF ks z)).map V.int))
  ⟨_,_,rfl,s1,[],[],el0,rfl,rfl,(λ_ h=>nomatch h),(λ_ h=>nomatch h),λj t M z e=>by simp at e⟩ (λi σ H' _ ⟨_,_,_,s,_⟩=>NW (s _ _ n)) ?_ ?_
 . rintro i x σ H3 hx ⟨Y,Z,rfl,b,ts,Ms,S,X,lM,ft,fM,p⟩;obtain⟨z,hz,rfl⟩:=wH hx;have hi:i<ks.length:=(NO.mp hz).1;rw[aL];exists⟨⟨_,NW (b _ _ n)⟩,?_⟩;refine yq (t:=z) (b _ _ n) #[4] λF H4 hF o eF=>?_;exists⟨a7 (o _ _ S),lnR rfl,λU hU=>?_⟩;obtain⟨H5,D,s5,eU⟩:=aP (.lst [V.int (2^g.toNat-1)]) hU;rw[D];refine vT eU mp #[4] (by simp) λA hA=>?_;rw[Hf];obtain⟨H6,D,s6,eA⟩:=aP (.lst ((fuL h w g).map V.int)) hA;rw[D];have k:=o.trans (s5.trans s6);exists He (pz.same (b.trans k)) eA ((s5.trans s6) _ _ eF) λT2 N H7 s7 hN ⟨B,aa⟩ eN M=>?_;refine ixT aa (v:=V.ref N) rfl ?_;exists⟨lnR rfl,λT u=>?_⟩;obtain⟨H8,D,s8,eT⟩:=aP (.tup [V.str (txk z),V.ref N]) u;rw[D];have J:=k.trans s7;have f:=J.trans s8;have ab:=f _ _ S;have nT:T≠l:=λe=>by rw[e,J _ _ S]at u;cases u
   have nN:N≠l:=λe=>by rw[e,k _ _ S]at hN;cases hN
   rw[db ab];refine⟨by rw[NM];exact aC #[4],_,_,rfl,(b.trans f).own hl,ts++[T],Ms++[N],by rw[ag,Pb];rfl,by simp[X],by simp[lM],λt E=>?_,λM C=>?_,λj t M y e1 e2 I=>?_⟩
   . rcases Of.mp E with E | E
     . exact ft t E
     . rw[NX.mp E];exact⟨(b.trans J).free u,nT⟩
   . rcases Of.mp C with C | C
     . exact fM M C
     . rw[NX.mp C];exact⟨(b.trans k).free hN,nN⟩
   . rcases Nat.lt_or_ge j i with qj | qj
     . rw[Ow #[4]]at e1 e2;have a:=p j t M y e1 e2 I;refine⟨by rw[ah (ft t (NS e1)).2];exact f _ _ a.1,by rw[ah (fM M (NS e2)).2];exact f _ _ a.2⟩
     . have hj:j<ts.length+1:=by have:=(NO.mp e1).1;simpa using this
       obtain rfl:j=i:=by lia
       rw[Ot #[4],X,Qz]at e1;rw[Ot #[4],lM,Qz]at e2;rw[hz]at I;cases e1;cases e2;cases I;exact⟨by rw[ah nT];exact eT,by rw[ah nN];exact s8 _ _ eN⟩
 . rintro σ H3 ⟨Y,Z,rfl,b,ts,Ms,S,X,lM,ft,fM,p⟩;rw[kl]at X lM;subst hW;unfold iV;exists⟨lnR rfl,λT u=>?_⟩;have o:Same H3 (upd H3 T (.tup [V.ref O,V.ref l])):=(NP H3).laid u;refine q T O l ts Ms _ ((s0.trans b).trans o) ((s0.trans b).free u) fK (s0.free hl) (λt E=>s0.free (ft t E).1) (λM C=>s0.free (fM M C).1) ⟨λe=>(by unfold KdL at n;rw[e,hl]at n;cases n),ag,(b.trans o) _ _ n,o _ _ S,by unfold nkR;rw[NM];exact X,by unfold nkR;rw[NM];exact lM,λj t M r e1 e2 I=>?_⟩;unfold nkR at I;rw[NR]at I;obtain⟨z,hz,rfl⟩:=OT.mp I;have a:=p j t M z e1 e2 hz;exact⟨o _ _ a.1,o _ _ a.2⟩
theorem Cv(s0:Same H0 H)(C:IsPz H c d P L G h w g NC cl)(Z:g<=3)(q:NdP Q H0 (nkL h w g NC cl) (nkR h w g NC cl (nkL h w g NC cl))):
  f6 K c d (eD9 Q) [↑P,⇑(h*w),⇑(2^g.toNat-1),none,none,none,none,none] H:=by
 unfold f6;generalize X:fZ K c d=W at*;exists⟨rfl,λS H1 s1 z U=>?_⟩;exists⟨rfl,λKr m Y N B=>?_⟩;refine⟨Kr,_,rfl,B,λp y=>?_⟩;have M:Same m (upd m p (.lst ((allT.map txk).map V.str).reverse)):=(NP m).laid y;have E:(upd m p (.lst ((allT.map txk).map V.str).reverse)) p=↥((allT.reverse.map txk).map V.str):=by rw[ag,← PL,← PL]
 generalize upd m p (.lst ((allT.map txk).map V.str).reverse)=H3 at*;have l:=Y.trans M;have u:=s1.trans l;refine⟨⟨_,NW E⟩,?_⟩;refine bc (K:=K) (xs:=(allT.reverse.map txk).map V.str) (λi σ H'=>∃(a:Addr) (v A:Option V),σ=[↑P,⇑(h*w),⇑(2^g.toNat-1),↑a,v,none,A,none]/\Same H3 H'/\KdL H' a ((allT.reverse.take i).foldl (nkS h w g NC cl) allT)/\H0 a=none/\((allT.reverse.take i).foldl (nkS h w g NC cl) allT).length<=11) ⟨S,_,_,rfl,NP _,l _ _ U,s0.free z,NZ _⟩ (λi σ H' _ ⟨_,_,_,_,s,_⟩=>NW (s _ _ E)) ?_ ?_
 . rintro i x σ O hx ⟨a,v,A,rfl,o,b,e,k⟩;obtain⟨t,ht,rfl⟩:=wH hx;have tk:allT.reverse.take (i+1)=allT.reverse.take i++[t]:=by rw[Pn,ht];rfl
   rw[tk,Pp,O9,List.foldl_nil];generalize (allT.reverse.take i).foldl (nkS h w g NC cl) allT=ks at*;rw[aL];exists⟨⟨_,NW b⟩,?_⟩;refine yq (t:=t) b #[4] λF H5 T J D=>?_;symm;rw[az];symm;have f:=o.trans J;have n:=u.trans f;have j:nkS h w g NC cl ks t=if setF h w g NC (kbF ks t) cl=true then kbF ks t else ks:=rfl;refine⟨P,L,G,F,h,w,g,NC,cl,kbF ks t,rfl,C.same n,Z,D,λH6 r=>?_⟩
   cases I:setF h w g NC (kbF ks t) cl with
   | false=>
    rw[I]at j;refine⟨false,rfl,iteF ?_⟩;exact⟨a,_,_,rfl,f.trans r,by rw[j];exact(J.trans r) _ _ b,e,by rw[j];exact k⟩
   | true=>
    rw[I]at j;refine⟨true,rfl,iteT ?_⟩;exists⟨F,_,_,rfl,f.trans r,by rw[j];exact r _ _ D,(s0.trans (u.trans o)).free T,by rw[j];exact NY (yp _ _) k⟩
 . rintro σ O ⟨a,v,A,rfl,o,b,e,k⟩;have R:allT.reverse.take ((allT.reverse.map txk).map V.str).length=allT.reverse:=rfl;rw[R]at b k;subst X;have n:=u.trans o;exact Cu (s0.trans n) (C.same n) b e k q
end
theorem zL(h:lI K c d vs H Q E):lJ K c d (eD9 Q) (start ["_law_puzzle","_law_many","_law_whole","_law_kinds_here","_law_one","_law_word","_law_fewer","_law_rests"] vs) H:=by
 obtain⟨P,L,G,h,w,g,NC,cl,rfl,b,f,m,i⟩:=h;ac_nf;unfold lJ;rw[aB,az];generalize l:f6 K c d=W at*;exists⟨rfl,λj H1 s1 o k=>?_⟩;exists⟨P,L,G,j,h,w,g,NC,cl,allT,rfl,b.same s1,f,k,λp n=>?_⟩;have a:=s1.trans n
 cases e:setF h w g NC allT cl with
 | false=>exact⟨false,rfl,iteT (m e _ a)⟩
 | true=>
  refine⟨true,rfl,iteF ?_⟩;subst l;exact Cv a (b.same a) f (i e)
def mU(r:TK × ∅):PyData:=.tuple [.str (txk r.1),.list (r.2.map PyData.int)]
def tY(ks:List TK)(rs:List (TK × ∅)):PyData:=.tuple [.list ((ks.map txk).map PyData.str),.list (rs.map mU)]
theorem Hg{T A B:Addr}(x:IsNd H T A B ts Ms ks rs):DV K H (.ref T) (tY ks rs):=by
 have g:=x.l1;have e:=x.l2;refine .tup (Ry x.top) (.cons (.lst (NW x.A) (.strs _)) (.cons (.lst (NW x.R) (DVs.of_get (by simp[x.l1]) λi y d h1 h2=>?_)) .nil));obtain⟨a,c,rfl⟩:=bz h1;rw[NR]at h2;obtain⟨r,b,rfl⟩:=OT.mp h2;have f:i<rs.length:=(NO.mp b).1;have q:=x.at_ i a _ r c (NN #[4]) b;exact .tup (Ry q.1) (.cons (.str _) (.cons (.lst (NW q.2) (.ints _)) .nil))
def Iw(ks:List TK):∀ x∈ks.map txk,PyData.strOk x=true:=λx a=>by
 obtain⟨t,_,rfl⟩:=N9.mp a;exact Ad (by cases t <;> decide)
theorem BF(r:TK × ∅):PyData.canLay0 (mU r)=true/\PyData.depth (mU r)<=2:=by
 have a:PyData.strOk (txk r.1)=true:=Ad (by cases r.1 <;> decide);unfold mU;simp[PyData.canLay0,PyData.canLayAll0,a,mj,PyData.depth,PyData.depthAll,jd]
theorem FN(ks:List TK)(rs:List (TK × ∅)):SeqAt.shaped (tY ks rs)=true:=by
 have c:PyData.canLayAll0 ((ks.map txk).map PyData.str)=true:=pb λd a=>by obtain⟨x,b,rfl⟩:=N9.mp a;rw[PyData.canLay0];exact Iw ks x b
 have e:PyData.depthAll ((ks.map txk).map PyData.str)<=0:=kR λd a=>by obtain⟨x,_,rfl⟩:=N9.mp a;exact NZ _
 have h1:PyData.canLayAll0 (rs.map mU)=true:=pb λd a=>by obtain⟨x,_,rfl⟩:=N9.mp a;exact(BF _).1
 have h2:PyData.depthAll (rs.map mU)<=2:=kR λd a=>by obtain⟨x,_,rfl⟩:=N9.mp a;exact(BF _).2
 unfold tY;generalize (ks.map txk).map PyData.str=ds at*;simp only[SeqAt.shaped,PyData.canLay0,PyData.canLayAll0,c,h1,PyData.depth,PyData.depthAll];simp;lia
theorem qN:∀{a:List PyData},(∀ d∈a,PyData.eqv d d=true)->PyData.eqvAll a a=true
 | [],_=>by rw[PyData.eqvAll]
 | d::r,h=>by rw[PyData.eqvAll,h d (.head _),qN λx b=>h x (.tail _ b)];rfl
theorem GW(r:TK × ∅):PyData.eqv (mU r) (mU r)=true:=by
 unfold mU;rw[PyData.eqv,PyData.eqvAll,PyData.eqvAll,PyData.eqvAll,zx,nv];simp
theorem JN(ks:List TK)(rs:List (TK × ∅)):PyData.eqv (tY ks rs) (tY ks rs)=true:=by
 have h0:PyData.eqvAll ((ks.map txk).map PyData.str) ((ks.map txk).map PyData.str)=true:=qN λd a=>by obtain⟨x,_,rfl⟩:=N9.mp a;rw[nv];exact NT rfl
 have h1:PyData.eqvAll (rs.map mU) (rs.map mU)=true:=qN λd a=>by obtain⟨x,_,rfl⟩:=N9.mp a;exact GW _
 unfold tY;rw[PyData.eqv,PyData.eqvAll,PyData.eqvAll,PyData.eqvAll,PyData.eqv,PyData.eqv,h0,h1];simp
def Kk(H:Hp)(x y:V):Prop:=(x=.non/\y=.non)\/∃(T A B c d e:Addr) (ts Ms b a:List Addr) (ks:List TK) (rs:List (TK × ∅)),x=.ref T/\y=.ref c/\IsNd H T A B ts Ms ks rs/\IsNd H c d e b a ks rs
def gu(K:Frag):Sp:=#[3,∃ x y:V,vs=[x,y]/\Kk H x y/\∀ H',Same H H'->Q (.bl true) H']
def eQ(K:Frag):TS:=#[":gIsbdk0ef#1 h#2 gnJKxqWa2aeX~-cKxqWadk2ef#1 aeXFcjeGzoIsbdk2ef#1 h#3 nJKxqWa3aeX~IcxqWa3aeX~*cjeGzojeGQ"]
def gM(K:Frag):TS:=#[":gnJKxqWadk0ef#0 aeXFcJKxqWadk0ef#1 aeXFcmdBb01jeGzo}Xb"]
def jV(K:Frag):TS:=#[":gnJmd~v1eZJKxqWa0aeX~-cmdBbqAa0cef#2 jLd~v0eZd~v1eZo}Yb"]
theorem zM{T A B:Addr}{v1:Option V}(x:IsNd H T A B ts Ms ks rs)(q:∀ H',Same H H'->Q (.bl true) H'):
  eQ K (eD9 Q) [↑T,v1,none,none] H:=by
 have o:=x.l1;have k:=x.l2;unfold eQ;exists ixT x.top (v:=V.ref B) rfl ?_;exists⟨⟨_,NW x.R⟩,?_⟩;refine bc (K:=K) (xs:=ts.map V.ref) (λi σ H'=>Same H H'/\∃ v2 b:Option V,σ=[↑T,v1,v2,b]) ⟨NP _,_,_,rfl⟩ (λi σ H' _ ⟨s,_⟩=>NW (s _ _ x.R)) ?_ ?_
 . rintro i v σ H1 d ⟨s1,v2,b,rfl⟩;obtain⟨t,e,rfl⟩:=bz d;have l:i<ts.length:=(NO.mp e).1;have g:Ms[i]? =some Ms[i]:=NN #[4];have h:rs[i]? =some rs[i]:=NN #[4];have a:=x.at_ i t _ _ e g h;generalize Ms[i]=M at*;generalize rs[i]=r at*;rw[aL];symm;rw[az];exists AC (s1 _ _ a.1) ?_;exists ixT (s1 _ _ a.1) (v:=V.ref M) rfl ?_;exists vW (s1 _ _ a.2) ?_;exists ixT (s1 _ _ a.1) (v:=V.ref M) rfl ?_;exists⟨⟨_,NW (s1 _ _ a.2)⟩,?_⟩;refine bc (K:=K) (xs:=r.2.map V.int) (λi σ H'=>Same H H'/\∃ b:Option V,σ=[↑T,v1,↑t,b]) ⟨s1,_,rfl⟩ (λi σ H' _ ⟨s,_⟩=>NW (s _ _ a.2)) ?_ ?_
   . rintro j v σ f d ⟨c,b,rfl⟩;obtain⟨m,n,rfl⟩:=aK d;rw[aL,az];exists⟨c,_,rfl⟩
   . rintro σ f ⟨c,b,rfl⟩;exact⟨c,_,_,rfl⟩
 . rintro σ H1 ⟨s1,v2,b,rfl⟩;exists q H1 s1
theorem wI(h:gu K vs H Q E):jV K (eD9 Q) (start ["_law_found","_law_due_here","_law_rest","_law_mask"] vs) H:=by
 obtain⟨x,y,rfl,g,q⟩:=h;ac_nf;unfold jV;rw[aB,az];generalize c:gM K=W at*;rcases g with ⟨rfl,rfl⟩ | ⟨T,A,B,f,i,j,ts,Ms,e,d,ks,rs,rfl,rfl,a,b⟩
 . exists q H (NP _)
 . exists sE (NQ (λh=>by cases h)) ?_;refine AC a.top ?_;symm;rw[EN a.top];exists sE rfl ?_;subst c;unfold gM;rw[aB,az];generalize c:eQ K=W at*;exists ixT a.top (v:=V.ref A) rfl ?_;exists vW a.A ?_;exists ixT a.top (v:=V.ref B) rfl ?_;exists vW a.R ?_;exists GB (Hg a) (Hg b) (FN ks rs) (JN ks rs) ?_;symm;subst c;exact zM a q
def FO(K:Frag)(c:RO)(d:RP):Sp:=#[3,∃(a:Addr) (ns:∅),vs=[.ref a]/\SqL K H a (ns.map V.int)/\ns.length<=63/\(∀ k,k≠.Rule->c.ok k=true)/\d.ok .Puzzle=true/\H (tabP K "_law_row")=some (.tbl #[])/\∀ H',Q (.bl true) H']
def yr(K:Frag):Sp:=#[3,∃(a:Addr) (ns:∅),vs=[.ref a]/\SqL K H a (ns.map V.int)/\ns.length<=63/\H (tabP K "_law_row")=some (.tbl #[])/\∀ H',Q (.bl true) H']
def DU(K:Frag)(c:RO)(d:RP):TS:=#[":gl,'dbipa|ca|fch#16 nJKxqWa|gaeX~*cmdBb|g,'ebipa|ca|fa5a6cjeGzo"]
def lY(K:Frag)(c:RO)(d:RP):TS:=#[":gnJmd~v|geZmd>5ef#2 jeGQogPHbFTdk|gef#0 aeuv`0cgP~;bF}Zdk|gef#1 j,'Eba,'Fbipa|cca|hc",s!"clue"]
def lZ(K:Frag)(c:RO)(d:RP):TS:=#[":gl,'Fbipa|cch#16 gnKx,'Eba|ga|hcjeGzo}*bip"]
def l0(K:Frag)(c:RO)(d:RP):TS:=#[":gl,}+bipa|ca5a6ch#17 }-bip"]
def l6(K:Frag)(c:RO)(d:RP):TS:=#[":gIsbta,~Ebca|eadC'D|e^~a|e~j+ef#1 ch#15 }/bip}:bip"]
def l7(K:Frag)(c:RO)(d:RP):TS:=#[":gl,'CbadSdY,~Uba0aef#5 cef#69621 ef#1000003 aef#11 ch#13 g~i#14 &-- sb^~a|d~j+dCef#1 dSd;1ef#48 ef#11 h#1 Ddk,~Ebc1};bip"]
def qO(K:Frag)(c:RO)(d:RP):TS:=#[":gl[}?}[}]bip=]aOa2a3a4ca|ba8ch#12 }^bip"]
def nX(K:Frag)(c:RO)(d:RP):TS:=#[":gltch#11 gI~gadSd;1ef#12 ef#5 ch#9 PHbFT|ba,_aba4a7adSdYdC,~Uba0adCef#1 9cdYef#131 9ef#30011 ef#1000003 cc_bbip"]
def nY(K:Frag)(c:RO)(d:RP):TS:=#[":gI~ga5ch#9 gldSdYdC,~Uba0adCef#6 9cdYdYef#113 99ef#16807 ef#65521 h#10 gPHbFT7adCef#1 dS|a4cPHbFT8adktaef#0 adk79aef#0 cdSd;|aef#10 ef#3 c_cbip"]
def sG(K:Frag)(c:RO)(d:RP):TS:=#[":gldCef#2 dSd;1ef#6 ef#2 h#4 gldY23h#5 gldktaef#3 aef#7 cdU4ef#2 h#6 gltch#7 gltch#8 _dbip"]
def sH(K:Frag)(c:RO)(d:RP):TS:=#[":gldktaOaef#1 aef#2 caOaef#2 aef#2 caOaef#1 aef#3 caOaef#2 aef#1 caOaef#3 aef#1 caOaef#4 aef#1 ccdS1ef#6 ~Ab#2 :h#2 :h#3 ~B_ebip"]
def BG(K:Frag)(c:RO)(d:RP):TS:=#[":gldSdY,~Uba0aef#0 cef#48271 ef#65537 h#1 _fbip"]
def Kl(H:Hp)(v:V)(h w g:Int)(NC:List RR)(cl:∅):Prop:=(setF h w g NC allT cl=false/\v=.non)\/(setF h w g NC allT cl=true/\∃(T A B:Addr) (ts Ms:List Addr),v=.ref T/\IsNd H T A B ts Ms (nkL h w g NC cl) (nkR h w g NC cl (nkL h w g NC cl)))
section
variable{K:Frag}{c:RO}{d:RP}{H:Hp}{Q:VK}{P L G C R f a:Addr}{h w g y:Int}{NC:List RR}{fl cl ns:∅}
theorem wJ{v0 v1 v2 v3 v4 v6 v7 v8 Y s D I z r p:Option V}{j:V}(o:IsPz H c d P L G h w g NC cl)(X:Kl H j h w g NC cl)(q:∀ H',Q (.bl true) H'):
  lZ K c d (eD9 Q) [v0,v1,v2,v3,v4,⇑(h*w),v6,v7,v8,Y,s,D,↑P,I,z,r,p,some j] H:=by
 unfold lZ;generalize S:lY K c d=W at*;symm;rcases X with ⟨m,rfl⟩ | ⟨m,O,U,J,k,f,rfl,b⟩
 . refine⟨P,L,G,h,w,g,NC,cl,rfl,o,λ_ H1 s1=>?_,λe=>by rw[m]at e;cases e⟩;symm;rw[az];exists⟨_,_,rfl,.inl ⟨rfl,rfl⟩,λn F=>?_⟩;refine⟨true,rfl,iteF ?_⟩;subst S;unfold lY;rw[aB,az];exists q _
 . refine⟨P,L,G,h,w,g,NC,cl,rfl,o,λe=>(by rw[m]at e;cases e),λ_ T A B ts Ms H1 s1 hT hA hB ht hM x=>?_⟩;symm;rw[az];exists⟨_,_,rfl,.inr ⟨T,A,B,O,U,J,ts,Ms,k,f,_,_,rfl,rfl,x,b.same s1⟩,λn F=>?_⟩;refine⟨true,rfl,iteF ?_⟩;subst S;have a:=x.same F;have u:=s1.trans F
   have kn:(nkL h w g NC cl).length<=1000:=by
    have:∀(l ks:List TK),(l.foldl (nkS h w g NC cl) ks).length<=ks.length:=λl=>by
     induction l with
     | nil=>intro ks;exact NZ _
     | cons t l ih=>intro ks;exact NY (ih _) (Iv _ _)
    exact NY (this allT.reverse allT) #[1]
   unfold lY;rw[aB,az];exists sE (NQ (λe=>by cases e)) ?_;by_cases M:2<h*w
   . exact FH (NT M) (q _)
   . refine sE (NQ M) ?_;have E:T≠A:=λe=>by have h1:=a.top;have h2:=a.A;unfold KdL at h2;rw[e,h2]at h1;cases h1
     refine ixT a.top (v:=V.ref A) rfl ?_;refine⟨a7 a.A,?_⟩;rw[db a.A];refine⟨by rw[NM,NM];exact aC #[4],?_⟩;refine ixT (by rw[ah E];exact a.top) (v:=V.ref B) rfl ?_;have i:(upd n A (.lst (((nkL h w g NC cl).map txk).map V.str++[V.str (tx s!"clue")]))) B=↥(ts.map V.ref):=by rw[ah a.ne.symm];exact a.R
     have s3:Same H (upd n A (.lst (((nkL h w g NC cl).map txk).map V.str++[V.str (tx s!"clue")]))):=u.own hA;generalize upd n A (.lst (((nkL h w g NC cl).map txk).map V.str++[V.str (tx s!"clue")]))=H3 at*;refine⟨a7 i,?_⟩;refine Hy i ?_;have N:Same H (upd H3 B (.lst [])):=s3.own hB;generalize upd H3 B (.lst [])=H4 at*;refine⟨P,L,G,h,w,g,NC,cl,rfl,o.same N,λe=>(by rw[m]at e;cases e),λ_ T2 A2 B2 C y H5 s5 _ _ _ _ _ Z=>?_⟩;exact⟨_,_,rfl,.inr ⟨T2,A2,B2,O,U,J,C,y,k,f,_,_,rfl,rfl,Z,b.same (N.trans s5)⟩,λH6 s6=>q _⟩
theorem Ix{D:Ends}{W:Addr}{ks:List TK}{p v1 v2 q m o n l e j k f a i:Option V}(r:IsPz H c d P L G h w g NC cl)(x:g<=3)(s:KdL H W ks)(v:∀ a H',Same H H'->D.nx [p,v1,v2,q,m,⇑(h*w),⇑(2^g.toNat-1),o,n,l,e,j,↑P,k,f,↑W,a,i] H'):
  DU K c d D [p,v1,v2,q,m,⇑(h*w),⇑(2^g.toNat-1),o,n,l,e,j,↑P,k,f,↑W,a,i] H:=by
 unfold DU;exists⟨P,L,G,W,h,w,g,NC,cl,ks,rfl,r,.inl s,λt NI H1 s1 y z R=>?_⟩;rw[sD R];show tIfS _ _ _ _ [p,v1,v2,q,m,⇑(h*w),⇑(2^g.toNat-1),o,n,l,e,j,↑P,k,f,↑W,some (.bl (setF h w g NC ks cl)),i] H1;rw[az];exists⟨P,L,G,W,h,w,g,NC,cl,ks,rfl,r.same s1,x,s1 _ _ s,λA u=>?_⟩;generalize setF h w g NC ks cl=b at*;symm;cases b <;> exact v _ _ (s1.trans u)
theorem DW{o v1 v2 p t v s r f l k i m b j:Option V}(a:IsPz H c d P L G h w g NC cl)(u:g<=3)(q:∀ H',Q (.bl true) H'):
  l0 K c d (eD9 Q) [o,v1,v2,p,t,⇑(h*w),⇑(2^g.toNat-1),v,s,r,f,l,↑P,k,i,m,b,j] H:=by
 unfold l0;generalize n:lZ K c d=W at*;exists⟨P,L,G,h,w,g,NC,cl,rfl,a,u,λe H1 s1=>?_,λe T A B ts Ms H1 s1 _ _ _ _ _ x=>?_⟩
 . subst n;exact wJ (a.same s1) (.inl ⟨e,rfl⟩) q
 . subst n;exact wJ (a.same s1) (.inr ⟨e,T,A,B,ts,Ms,rfl,x⟩) q
theorem DX{f:Addr}{ks:List TK}{Y v1 v2 v3 O X T N k o r b a n:Option V}(J:IsPz H c d P L G h w g NC cl)(g3:g<=3)(u:KdL H f ks)(kn:ks.length<=11)(q:∀ H',Q (.bl true) H'):
  l6 K c d (eD9 Q) [Y,v1,v2,v3,O,⇑(h*w),⇑(2^g.toNat-1),X,T,N,k,o,↑P,r,↑f,b,a,n] H:=by
 have kl:((ks.map txk).map V.str).length=ks.length:=by rw[NM,NM]
 unfold l6;generalize hU:DU K c d=U at*;generalize hW:l0 K c d=W at*;exists⟨rfl,λz H1 s1 aa e1=>?_⟩;exists⟨f,_,rfl,s1 _ _ u,λW2 D=>?_⟩;obtain⟨H2,j,s2,e2⟩:=aP (.lst ((ks.map txk).map V.str).reverse) D;rw[j];symm;have A:=s1.trans s2;refine qh (A _ _ u) λW3 B=>?_;rw[u6 _ #[1]];obtain⟨p,j,R,e3⟩:=aP (.lst (((ks.map txk).map V.str).take (1:Int).toNat)) B;rw[j];refine pc (R _ _ e2) e3 (by rw[List.length_reverse,OL,kl];lia) λe y=>?_;have s4:Same p (upd p e (.lst (((ks.map txk).map V.str).reverse++((ks.map txk).map V.str).take (1:Int).toNat))):=(NP p).laid y
 have e4:KdL (upd p e (.lst (((ks.map txk).map V.str).reverse++((ks.map txk).map V.str).take (1:Int).toNat))) e (ks.reverse++ks.take (1:Int).toNat):=by
  unfold KdL;rw[ag,Pb,Pb,PL,PL,PH,PH]
 generalize upd p e (.lst (((ks.map txk).map V.str).reverse++((ks.map txk).map V.str).take (1:Int).toNat))=H4 at*;have t:=s2.trans (R.trans s4);have sA:=s1.trans t;refine⟨lnR rfl,λZ hZ=>?_⟩;obtain⟨M,j,F,S⟩:=aP (.lst [V.ref z,V.ref f,V.ref e]) hZ;rw[j];refine⟨⟨_,NW S⟩,?_⟩;have x:=t.trans F;have I:=sA.trans F;refine bc (K:=K) (xs:=[V.ref z,V.ref f,V.ref e]) (λi σ H'=>∃(b a:Option V),σ=[Y,v1,v2,v3,O,⇑(h*w),⇑(2^g.toNat-1),X,T,N,k,o,↑P,r,↑f,b,a,n]/\Same M H') ⟨_,_,rfl,NP _⟩ (λi σ H' _ ⟨_,_,_,s⟩=>NW (s _ _ S)) ?_ ?_
 . rintro i v σ H6 hv ⟨b,a,rfl,l⟩
   have E:∃(C:Addr) (k0:List TK),v=V.ref C/\KdL M C k0:=by
    have m:=NS hv;simp only[N4,OE,Pr]at m;rcases m with rfl | rfl | rfl
    . exact⟨z,allT,rfl,x _ _ e1⟩
    . exact⟨f,ks,rfl,I _ _ u⟩
    . exact⟨e,_,rfl,F _ _ e4⟩
   obtain⟨C,k0,rfl,e0⟩:=E;rw[aL];subst hU;exact Ix (J.same (I.trans l)) g3 (l _ _ e0) λa H' s'=>⟨_,_,rfl,l.trans s'⟩
 . rintro σ H6 ⟨b,a,rfl,l⟩;subst hW;exact DW (J.same (I.trans l)) g3 q
end
variable{xs:List V}
theorem TbOk.own54{l c:Nat}{q:Str}{P R:Addr}{o:HO}(x:TbOk l c q H P)(e:H R=↥xs):TbOk l c q (upd H R o) P:=by
 rcases x with b | ⟨a,b,d⟩
 . exact .inl (by rw[ah (λz=>by rw[z,e]at b;cases b)];exact b)
 . exact .inr ⟨a,by rw[ah (λz=>by rw[z,e]at b;cases b)];exact b,by rw[ah (λz=>by rw[z,e]at d;cases d)];exact d⟩
variable{a:Addr}
theorem Ke{H':Hp}{P:Addr}{l c:Nat}{q:Str}(h:SqL K H a xs)(T:TbOk l c q H P)(s:SameX P H H'):SqL K H' a xs:=by
 rcases h with h | h
 . refine .inl ?_
   have d:∀{u:HO},H a=some u->(∀ b,u≠.tbl b)->a≠P:=λe n z=>by
    rcases T with f | ⟨_,f,_⟩ <;> (rw[z,f]at e;cases e;exact n _ rfl)
   rcases h with e | ⟨o,e⟩
   . exact .inl (s _ _ (d e λb z=>by cases z) e)
   . exact .inr ⟨o,s _ _ (d e λb z=>by cases z) e⟩
 . exact .inr h
theorem GX{b:Hp}{R:Addr}{o:HO}(d:SqL K H a xs)(f:H R=none)(h4:SqL K b a xs):SqL K (upd b R o) a xs:=by
 rcases d with h | h
 . have c:a≠R:=λz=>by rcases h with e | ⟨_,e⟩ <;> (rw[z,f]at e;cases e)
   rcases h4 with e | e
   . refine .inl ?_;rcases e with e | ⟨u,e⟩
     . exact .inl (by rw[ah c];exact e)
     . exact .inr ⟨u,by rw[ah c];exact e⟩
   . exact .inr e
 . exact .inr h
structure Km(h w g:Int)(fl cl:∅):Prop where
 F:FlOk h w g
 m1:1<=h*w
 m9:h*w<=9
 g3:g<=3
 fll:fl.length=(h*w).toNat
 sg:∀ x∈fl,1<=x/\x<=g
 C:CluesOk h w g cl
theorem FP{cs:List Nat}{i:Nat}{x:V}(e:(nsV cs)[i]? =some x):i<cs.length/\x=V.int ((cs.getD i 0:Nat):Int):=by
 unfold nsV at e;rw[NR,NR]at e
 cases a:cs[i]? with
 | none=>rw[a]at e;cases e
 | some y=>
  rw[a]at e;refine⟨(NO.mp a).1,?_⟩;rw[List.getD,a];exact(Pi e).symm
theorem FQ{n:Nat}(a:n<11):atI ((allT.map txk).map V.str) (n:Int)=some (V.str (txk (allT.getD n .clue))):=by
 refine gc ?_;rw[NR,NR,NN (show n<allT.length from a),List.getD,NN (show n<allT.length from a)];rfl
section
variable{K:Frag}{c:RO}{d:RP}{H:Hp}{Q:VK}{P L G C R f a:Addr}{h w g y:Int}{NC:List RR}{fl cl ns:∅}
theorem DY{v2 v3 C T I A j n:Option V}(t:SqL K H a (ns.map V.int))(J:ns.length<=63)(u:IsPz H c d P L G h w g NC cl)(g3:g<=3)(q:∀ H',Q (.bl true) H'):
  l7 K c d (eD9 Q) [↑a,⇑y,v2,v3,C,⇑(h*w),⇑(2^g.toNat-1),T,I,A,j,n,↑P,none,none,none,none,none] H:=by
 unfold l7;generalize Z:l6 K c d=W at*;exists⟨a,ns,5,rfl,t,J,by decide,by decide,?_⟩;exists⟨.inr ⟨by decide,by decide⟩,by decide,?_⟩;refine⟨_,11,rfl,by decide,by decide,λO H3 cs F hO Y nd S D=>?_⟩;symm;have b0:=Pc (y/48) (show(11:Int)≠0 by decide);have b1:=OX (y/48) (show(0:Int)<11 by decide);refine⟨⟨by decide,by decide⟩,by decide,?_⟩;generalize y/48%11=x at*;refine qh Y λv m=>?_;rw[u6 _ #[4],Bu];obtain⟨H4,E,M,p⟩:=aP (.lst (nsV (cs.take (1+x).toNat))) m;rw[E];have k:∀ z∈cs.take (1+x).toNat,z<11:=λz e=>by have:=S z (PR e);lia
 have tl:(cs.take (1+x).toNat).length<=11:=by rw[OL];lia
 generalize cs.take (1+x).toNat=ds at*;have nl:(nsV ds).length=ds.length:=by unfold nsV;rw[NM,NM]
 refine⟨v,rfl,⟨_,NW p⟩,?_⟩;refine bE (λ_=>true) (λi=>V.str (txk (allT.getD (ds.getD i 0) .clue))) #[4] (NW p) ?_ ?_ ?_
 . intro i z b R5 e o k5;exact k5 _ (NP _)
 . intro i z b B e N o k5;obtain⟨s,rfl⟩:=FP e;show tOp _ _ _ [none,⇑_] b B;have hd:ds.getD i 0<11:=k _ (by rw[List.getD,NN s];exact On s);exists⟨rfl,λl H6 U hl e6=>?_⟩;exists ixL e6 (FQ hd) (k5 _ U)
 . intro X b aa o r;rw[aZ]at r
   have R:KdL b X ((List.range (nsV ds).length).map λi=>allT.getD (ds.getD i 0) .clue):=by
    unfold KdL;rw[Op,Op];exact r
   have f:=F.trans (M.trans o);symm;subst Z;exact DX (u.same f) g3 R (by rw[NM,OU];lia) q
theorem FR{E t:Option V}(X:SqL K H a (ns.map V.int))(Y:ns.length<=63)(D:Km h w g fl cl)(hk:∀ k,k≠.Rule->c.ok k=true)(ok:d.ok .Puzzle=true)(T:mT K H)(M:H f=↥(fl.map V.int))(N:H C=↥(cl.map V.int))(q:∀ H',Q (.bl true) H'):
  nX K c d (eD9 Q) [↑a,⇑y,⇑h,⇑w,⇑g,⇑(h*w),⇑(2^g.toNat-1),↑f,↑C,E,t,none,none,none,none,none,none,none] H:=by
 have n0:=Pc (y/12) (show(5:Int)≠0 by decide);have n1:=OX (y/12) (show(0:Int)<5 by decide);unfold nX;generalize S:qO K c d=W at*;exists⟨aT #[1],λR B=>?_⟩;have s1:Same H (upd H R (.lst [])):=(NP H).laid B;have eR:(upd H R (.lst [])) R=↥((([]:List RR).map RR.txt).map V.str):=ag;have nf:f≠R:=λe=>by rw[e,B]at M;cases M
 have nC:C≠R:=λe=>by rw[e,B]at N;cases N
 generalize upd H R (.lst [])=H1 at*;refine⟨⟨by decide,by decide⟩,by decide,?_⟩;generalize y/12%5=n at*;refine⟨n,rfl,by lia,by lia,?_⟩;refine no (λi σ H'=>∃(E:Option V) (NC:List RR),σ=[↑a,⇑y,⇑h,⇑w,⇑g,⇑(h*w),⇑(2^g.toNat-1),↑f,↑C,E,t,↑R,none,none,none,none,none,none]/\SqL K H' a (ns.map V.int)/\mT K H'/\H' f=↥(fl.map V.int)/\H' C=↥(cl.map V.int)/\H' R=↥((NC.map RR.txt).map V.str)/\NC.length=i/\∀ r∈NC,nU h w g fl r) ⟨_,[],rfl,s1.seq X,T.same s1,s1 _ _ M,s1 _ _ N,eR,rfl,λ_ v=>(by cases v)⟩ ?_ ?_
 . rintro i σ s hi ⟨I,NC,rfl,m,o,j,l,x,Z,b⟩;rw[Qd];exists⟨a7 x,a,ns,_,rfl,m,Y,by lia,by lia,?_⟩;exists⟨.inl ⟨by decide,by decide⟩,.inr ⟨by decide,by decide⟩,by decide,?_⟩;refine⟨f,h,w,g,_,fl,rfl,⟨D.F,j,D.fll,D.sg,D.m1⟩,o,λr H4 A T4 O=>?_⟩;have e4:=A _ _ (o.ne x) x;dsimp only;rw[db e4];refine⟨by rw[NM,NM];exact aC #[4],_,NC++[r],rfl,?_,T4.own54 e4,by rw[ah nf];exact A _ _ (o.ne j) j,by rw[ah nC];exact A _ _ (o.ne l) l,by rw[ag];simp,by simp[Z],λz u=>?_⟩
   . exact GX X B (Ke m o A)
   . rcases Of.mp u with u | u
     . exact b z u
     . rw[NX.mp u];exact O
 . rintro σ s ⟨I,NC,rfl,m,o,j,l,x,Z,b⟩;subst S;have Ro:ie c h w g NC:=⟨D.F,by lia,λr v=>(b r v).1,λr v=>hk _ (b r v).1.k0⟩;unfold qO;generalize S:l7 K c d=W at*;exists⟨lnR rfl,λp hp=>?_⟩;have J:Same s (upd s p (.tup [V.int h,V.int w,V.int g])):=(NP s).laid hp;have ep:IsFl (upd s p (.tup [V.int h,V.int w,V.int g])) p h w g:=ag;generalize upd s p (.tup [V.int h,V.int w,V.int g])=H4 at*;refine Jo ok ep (J _ _ x) (J _ _ l) Ro D.C λP L G H6 s6 hP hL hG pz=>?_;symm;have U:=J.trans s6;subst S;exact DY (U.seq m) Y pz D.g3 q
theorem FS{E l:Option V}(n:SqL K H a (ns.map V.int))(N:ns.length<=63)(F:FlOk h w g)(m1:1<=h*w)(U:h*w<=9)(g3:g<=3)(X:∀ k,k≠.Rule->c.ok k=true)(ok:d.ok .Puzzle=true)(T0:mT K H){H1:Hp}(s1:Same H H1)(hf:H f=none)(S:H C=none)(o:f≠C)(Z:H1 f=↥(([]:∅).map V.int))(eC:H1 C=↥(([]:∅).map V.int))(q:∀ H',Q (.bl true) H'):
  nY K c d (eD9 Q) [↑a,⇑y,⇑h,⇑w,⇑g,⇑(h*w),⇑(2^g.toNat-1),↑f,↑C,E,l,none,none,none,none,none,none,none] H1:=by
 have g0:=F.g0;unfold nY;generalize hW:nX K c d=W at*;exists⟨_,rfl,by lia,by lia,?_⟩;refine no (λi σ H'=>∃(E l:Option V) (fl cl:∅),σ=[↑a,⇑y,⇑h,⇑w,⇑g,⇑(h*w),⇑(2^g.toNat-1),↑f,↑C,E,l,none,none,none,none,none,none,none]/\Same H H'/\H' f=↥(fl.map V.int)/\H' C=↥(cl.map V.int)/\fl.length=i/\cl.length=i/\(∀ x∈fl,1<=x/\x<=g)/\∀ x∈cl,0<=x/\x<=g) ⟨_,_,[],[],rfl,s1,Z,eC,rfl,rfl,λx M=>(by cases M),λx M=>(by cases M)⟩ ?_ ?_
 . rintro i σ t hi ⟨I,s,fl,cl,rfl,p,j,m,A,B,D,J⟩;have P:i < (h*w).toNat:=hi;rw[Qd];exists⟨a,ns,_,rfl,p.seq n,N,by lia,by lia,?_⟩;exists⟨.inl ⟨by decide,by decide⟩,.inl ⟨by lia,by lia⟩,.inr ⟨by decide,by decide⟩,by decide,?_⟩;generalize (DL ns (6+(i:Int))+113*(i:Int)*(i:Int))*16807%65521=z at*;refine⟨a7 j,by lia,?_⟩;have r0:=Pc z (show g≠0 by lia);have r1:=OX z (show 0<g by lia);have x0:1<=1+z%g:=by lia
   have Y:1+z%g<=g:=by lia
   generalize 1+z%g=x at*;rw[db j];refine⟨by rw[NM];exact aC #[4],?_⟩;have v:(upd t f (.lst (fl.map V.int++[V.int x]))) f=↥((fl++[x]).map V.int):=by rw[ag];simp
   have r:(upd t f (.lst (fl.map V.int++[V.int x]))) C=↥(cl.map V.int):=by rw[ah o.symm];exact m
   have s5:Same H (upd t f (.lst (fl.map V.int++[V.int x]))):=p.own hf;generalize upd t f (.lst (fl.map V.int++[V.int x]))=H5 at*
   have T:(fl++[x]).getD i 0=x:=by
    rw[List.getD,Ot #[4],A,Qz];rfl
   have G:(fl++[x]).length=i+1:=by simp[A]
   refine⟨a7 r,?_⟩;refine ixI v #[4] #[4] ?_;rw[Pq,T];refine⟨lnR rfl,λO L=>?_⟩;obtain⟨H9,z9,s9,eU4⟩:∃ z,upd H5 O (.lst [V.int 0,V.int x,V.int 0])=z/\Same H5 z/\z O=↥(([0,x,0]:∅).map V.int):=aP _ L;rw[z9];refine⟨⟨by decide,by decide⟩,by decide,?_⟩;refine ixI eU4 (Pc _ #[1]) (by have:=OX (z/10) (show(0:Int)<3 by decide);show _ < (3:Int);lia) ?_
   have R:0<=([0,x,0]:∅).getD (z/10%3).toNat 0/\([0,x,0]:∅).getD (z/10%3).toNat 0<=g:=by
    have e:(z/10%3).toNat=0\/(z/10%3).toNat=1\/(z/10%3).toNat=2:=by lia
    rcases e with e | e | e <;> rw[e]
    . exact⟨by show(0:Int)<=0;decide,by show(0:Int)<=g;lia⟩
    . exact⟨by show(0:Int)<=x;lia,by show x<=g;lia⟩
    . exact⟨by show(0:Int)<=0;decide,by show(0:Int)<=g;lia⟩
   generalize ([0,x,0]:∅).getD (z/10%3).toNat 0=cv at*;rw[db (s9 _ _ r)];refine⟨by rw[NM];exact aC #[4],_,_,fl++[x],cl++[cv],rfl,(s5.trans s9).own S,by rw[ah o];exact s9 _ _ v,by rw[ag];simp,G,by simp[B],λu b=>?_,λu b=>?_⟩
   . rcases Of.mp b with b | b
     . exact D u b
     . rw[NX.mp b];exact⟨x0,Y⟩
   . rcases Of.mp b with b | b
     . exact J u b
     . rw[NX.mp b];exact R
 . rintro σ t ⟨I,s,fl,cl,rfl,p,j,m,A,B,D,J⟩;subst hW;exact FR (p.seq n) N ⟨F,m1,U,g3,A,D,⟨B,J⟩⟩ X ok (T0.same p) j m q
theorem FT(m:SqL K H a (ns.map V.int))(s:ns.length<=63)(h0:1<=h)(h6:h<=6)(o:1<=w)(x:w<=6)(v:1<=h*w)(r:h*w<=9)(t:∀ k,k≠.Rule->c.ok k=true)(B:d.ok .Puzzle=true)(T:mT K H)(q:∀ H',Q (.bl true) H'):
  sG K c d (eD9 Q) [↑a,⇑y,⇑h,⇑w,none,none,none,none,none,none,none,none,none,none,none,none,none,none] H:=by
 unfold sG;generalize A:nY K c d=W at*;exists⟨⟨by decide,by decide⟩,by decide,?_⟩;have I:=Pc (y/6) (show(2:Int)≠0 by decide);have G:=OX (y/6) (show(0:Int)<2 by decide);have E:2<=2+y/6%2:=by lia
 have D:2+y/6%2<=3:=by lia
 generalize 2+y/6%2=g at*;refine⟨rP h0 h6,?_⟩;refine⟨lnR rfl,λU n=>?_⟩;obtain⟨H1,z9,s1,eU⟩:∃ z,upd H U (.lst [V.int 3,V.int 7])=z/\Same H z/\z U=↥(([3,7]:∅).map V.int):=aP _ n;rw[z9];refine ixI eU #[4] (by show _ < (2:Int);lia) ?_
 have p:([3,7]:∅).getD (g-2).toNat 0=2^g.toNat-1:=by
  have e:g=2\/g=3:=by lia
  rcases e with rfl | rfl <;> decide
 rw[p];exists⟨aT #[1],λf l=>?_⟩;obtain⟨H2,z9,s2,ef⟩:∃ z,upd H1 f (.lst [])=z/\Same H1 z/\z f=↥(([]:∅).map V.int):=aP _ l;rw[z9];refine⟨aT #[1],λC b=>?_⟩;have j:Same H2 (upd H2 C (.lst [])):=(NP H2).laid b;have u:(upd H2 C (.lst [])) C=↥(([]:∅).map V.int):=ag;have i:f≠C:=λe=>by rw[← e,ef]at b;cases b
 generalize upd H2 C (.lst [])=H3 at*;have F:FlOk h w g:=⟨h0,h6,o,x,by lia,by lia,by lia⟩;subst A;exact FS m s F v r D t B T ((s1.trans s2).trans j) (s1.free l) ((s1.trans s2).free b) i (j _ _ ef) u q
end
def fl54:List (Int × Int):=[(1,2),(2,2),(1,3),(2,1),(3,1),(4,1)]
theorem Iy:∀ p∈fl54,1<=p.1/\p.1<=6/\1<=p.2/\p.2<=6/\1<=p.1*p.2/\p.1*p.2<=9:=by decide
theorem FU{n:Int}(l:SqL K H a (ns.map V.int))(p:ns.length<=63)(r:∀ k,k≠.Rule->c.ok k=true)(f:d.ok .Puzzle=true)(T:mT K H)(k:∀ H',Q (.bl true) H'):
  sH K c d (eD9 Q) [↑a,⇑n,none,none,none,none,none,none,none,none,none,none,none,none,none,none,none,none] H:=by
 unfold sH;rw[aB,bw,e7,c9];refine Bp fl54 H _ λas H1 s1 w u=>?_;have y:as.length=6:=w;refine⟨by rw[NM];exact aT #[4],λU m=>?_⟩;obtain⟨A,o,i,q⟩:=aP (.lst (as.map V.ref)) m;rw[o];exists⟨by decide,?_⟩;have B:=Pc n (show(6:Int)≠0 by decide);have z:=OX n (show(0:Int)<6 by decide);have x:n%6=(((n%6).toNat:Nat):Int):=by lia
 have h:(n%6).toNat<fl54.length:=by show _<6;lia
 rw[x];generalize (n%6).toNat=j at*;have g:as[j]? =some (as[j]'#[4]):=NN #[4];have t:fl54[j]? =some fl54[j]:=NN h;have s:=u j _ _ g t;have b:=Iy _ (On h);generalize fl54[j]=pr at*;refine ixL q (v:=V.ref (as[j]'#[4])) (gc (by rw[NR,g];rfl)) ?_;refine Jf (i _ _ s) rfl ?_;rw[Gs];symm;have e:=s1.trans i;exact FT (e.seq l) p b.1 b.2.1 b.2.2.1 b.2.2.2.1 b.2.2.2.2.1 b.2.2.2.2.2 r f (T.same e) k
theorem JO(h:FO K c d vs H Q E):BG K c d (eD9 Q) (start ["_law_script","_law_cell","_law_high","_law_wide","_law_signs","_law_many","_law_whole","_law_filling","_law_clues","_law_k","_law_more","_law_rows","_law_puzzle","_law_order_here","_law_kinds_here","_law_words","_law_found","_law_due_here"] vs) H:=by
 obtain⟨a,ns,rfl,b,e,g,f,T,k⟩:=h;exists BG;refine⟨a,ns,0,rfl,b,e,by decide,by decide,?_⟩;exists⟨.inr ⟨by decide,by decide⟩,by decide,?_⟩;generalize DL ns 0*48271%65537=n at*;exact FU b e g f (.inl T) k
section
variable{X:Cx}{e:Expr}{es rs:List Expr}{te:TE}{t:TA}
def kC{k}{p:Pos}(b:PE X (.Tuple rs k p) te)(a:PA X es t):PA X (.Tuple rs k p::es) (tCons te t):=aa b a
def de{c:Const}{k}{p:Pos}(b:PE X (.Constant c k p) te)(a:PA X es t):PA X (.Constant c k p::es) (tCons te t):=aa b a
end
def bd0{x a:Str}{st:Stmt}(h:∀ g b f e d ct,bindArgs (fnOf x a (c6 st) (bZ st) (aN st) .none g b f e d ct) ⟨[],[]⟩=pure (([]:List Str).zip []):=by intros;rfl):Bd x a st []:=λ_ _ _ _ _ _ i c=>match i,c with | [],_=>h ..
theorem wK{X:Cx}{k n:Nat}{x:Str}{c:List Str}{sp:Sp}{p pos:Pos}(C:Cal X.prog X.w X.K X.mg X.base k x c sp)(h:Room n X.A)(e:k<=n:=by decide)(f:Gl X x:=by exact rfl)(a:(x==("__debug__":Str))=false:=by decide):PE X (.Call (.Name x p) [] [] pos) (tCall sp [] E0 tNil):=
 let ⟨_,_,F,d,b,g⟩:=C.ex
 Ge F (h.mono e) f d b g .nil vG a
local macro_rules | `(tactic| walk_at "l")=>`(tactic| (intro vs H Q E h; (repeat obtain ⟨_,h⟩:=h); subst_vars; rfl))
local macro_rules | `(tactic| ac_rfl)=>`(tactic| exact ⟨rfl,rfl,rfl,by decide+kernel,rfl,by decide+kernel,by decide+kernel⟩)
def top(i:Nat):Stmt:=PySem.Challenge.pw_cluemaker_k54_kinds_needed.main.body.getD i (.Pass ⟨0,0,0,0⟩)
def mtop(i j:Nat):Stmt:=match top i with
 | .ClassDef _ _ _ a _ _ _ _ _ _ _=>a.getD j (.Pass ⟨0,0,0,0⟩)
 | s=>s
abbrev l8 Z:=Ca9 Z 1 "is_whole" ["value"] (ig Z.K)
abbrev c5 Z:=Ca9 Z 1 "many_cells" ["floor"] (bW Z.K)
abbrev sI Z:=Ca9 Z 1 "spot_of" ["floor","cell"] (lU Z.K)
abbrev uw Z:=Ca9 Z 1 "square_at" ["floor","corner"] (mB Z.K)
abbrev vi Z:=Ca9 Z 1 "bit_of" ["sign"] (nJ Z.K)
abbrev kD Z:=Ca9 Z 1 "stands" ["mask","sign"] (gC Z.K)
abbrev kT Z:=Ca9 Z 1 "clashes" ["masks"] (gR Z.K)
abbrev f7 Z:=Ca9 Z 1 "masks_at" ["masks","cells"] (cV Z.K)
abbrev px Z:=Ca9 Z 1 "clue_strikes" ["clues","cell","sign","more"] (jq Z.K)
abbrev j3 Z:=Ca9 Z 1 "are_told_in_order" ["cells","more"] (fP Z.K)
abbrev oY Z:=Ca9 Z 1 "with_sign" ["filling","cell","sign"] (jC Z.K)
abbrev qY Z:=Ca9 Z 1 "place_mores" ["floor","sign"] (kq Z.K)
abbrev yX Z:=Ca9 Z 1 "all_but" ["kinds","kind"] (jS Z.K)
abbrev ux Z:=Ca9 Z 1 "is_within" ["some","cells"] (mM Z.K)
abbrev uy Z:=Ca9 Z 1 "number_in" ["word"] (mG Z.K)
abbrev pA Z:=Ca9 Z 1 "_law_cell_at" ["_law_script","_law_k"] (fz Z.K)
abbrev mV Z:=Ca9 Z 1 "_law_kinds" [] (cH Z.K)
abbrev mW Z:=Ca9 Z 1 "_law_order" ["_law_number","_law_many"] (gt Z.K)
abbrev sJ Z:=Ca9 Z 1 "_law_alike" ["_law_found","_law_due_here"] (gu Z.K)
abbrev iW Z:=Ca9 Z 2 "is_from_one_to" ["value","most"] (cP Z.K)
abbrev kE Z:=Ca9 Z 2 "beside" ["floor","cell"] (fA Z.K)
abbrev uz Z:=Ca9 Z 2 "is_corner" ["floor","cell"] (mx Z.K)
abbrev uA Z:=Ca9 Z 2 "full_mask" ["floor"] (mR Z.K)
abbrev sK Z:=Ca9 Z 2 "without" ["mask","sign"] (lW Z.K)
abbrev cI Z:=Ca9 Z 2 "signs_in" ["mask"] (bt Z.K)
abbrev yY Z:=Ca9 Z 2 "is_cell" ["floor","value"] (qu Z.K)
abbrev yZ Z c:=Ca9 Z 2 "goes_by" ["kind","rule"] (qy Z.K c)
abbrev d6 Z c:=Ca9 Z 2 "others" ["rule","cell"] (b6 Z.K c)
abbrev l9 Z:=Ca9 Z 2 "many_may" ["some","sign"] (gf Z.K)
abbrev wL Z c:=Ca9 Z 2 "ahead_of" ["rule","cell"] (oP Z.K c)
abbrev BH Z c:=Ca9 Z 2 "behind" ["rule","cell"] (sd Z.K c)
abbrev mX Z:=Ca9 Z 2 "with_each_sign" ["fillings","cell","signs"] (hJ Z.K)
abbrev pB Z c d:=Ca9 Z 2 "cells_to_try" ["puzzle","kind","number"] (jN Z.K c d)
abbrev jW Z:=Ca9 Z 2 "number_within" ["word","least","most"] (fL Z.K)
abbrev mY Z:=Ca9 Z 2 "is_filling" ["floor","filling","least"] (ip Z.K)
abbrev wM Z:=Ca9 Z 2 "_law_row" ["_law_signs","_law_filling","_law_cell"] (lG Z.K)
abbrev wN Z:=Ca9 Z 3 "floor_of" ["high","wide","signs"] (oI Z.K)
abbrev nZ Z:=Ca9 Z 3 "squares" ["floor"] (ji Z.K)
abbrev n6 Z:=Ca9 Z 3 "reached" ["floor","cells","start"] (fS Z.K)
abbrev FV Z:=Ca9 Z 3 "full" ["floor"] (yh Z.K)
abbrev f8 Z:=Ca9 Z 3 "has_only" ["mask","sign"] (dP Z.K)
abbrev vj Z:=Ca9 Z 3 "struck" ["masks","cell","sign"] (nR Z.K)
abbrev sL Z:=Ca9 Z 3 "is_settled" ["masks"] (lB Z.K)
abbrev FW Z:=Ca9 Z 3 "ways" ["masks"] (ya Z.K)
abbrev y0 Z:=Ca9 Z 3 "sign_by" ["mask"] (qI Z.K)
abbrev y4 Z:=Ca9 Z 3 "is_sign" ["floor","value"] (qw Z.K)
abbrev oe Z:=Ca9 Z 3 "is_no_greater" ["sign","mask"] (iO Z.K)
abbrev sM Z:=Ca9 Z 3 "is_no_less" ["sign","mask"] (lj Z.K)
abbrev pC Z c:=Ca9 Z 3 "pair_strikes" ["rule","masks","cell","sign","more"] (jv Z.K c)
abbrev qZ Z c:=Ca9 Z 3 "sum_strikes" ["rule","masks","cell","sign","more"] (kh Z.K c)
abbrev BK Z:=Ca9 Z 3 "around" ["floor","middle","cell"] (si Z.K)
abbrev sN Z:=Ca9 Z 3 "turn_mores" ["floor","cell"] (lx Z.K)
abbrev sO Z c:=Ca9 Z 3 "pair_mores" ["rule","masks","cell"] (lz Z.K c)
abbrev pD Z c d:=Ca9 Z 3 "rule_numbers" ["puzzle","kind"] (jL Z.K c d)
abbrev pE Z:=Ca9 Z 3 "first_within" ["words","least","most"] (eJ Z.K)
abbrev sP Z:=Ca9 Z 3 "told_cells" ["floor","words"] (lc Z.K)
abbrev y7 Z c:=Ca9 Z 3 "rule_by" ["floor","words","cells","amount","mark"] (qq Z.K c)
abbrev og Z:=Ca9 Z 3 "checked_clues" ["floor","clues"] (iF Z.K)
abbrev sQ Z:=Ca9 Z 4 "filling_by" ["masks"] (lD Z.K)
abbrev kN Z:=Ca9 Z 4 "many_only" ["some","sign"] (fw Z.K)
abbrev pF Z c:=Ca9 Z 4 "only_strikes" ["rule","masks","cell","sign","more"] (js Z.K c)
abbrev oh Z c:=Ca9 Z 4 "place_strikes" ["floor","rule","masks","cell","sign","more"] (iJ Z.K c)
abbrev pG Z c:=Ca9 Z 4 "step_strikes" ["rule","masks","cell","sign","more"] (jx Z.K c)
abbrev mZ Z:=Ca9 Z 4 "rest_of_square" ["floor","corner","cell"] (gW Z.K)
abbrev ik Z:=Ca9 Z 4 "is_another_with_only" ["floor","masks","cell","other","mark"] (d8 Z.K)
abbrev sR Z c:=Ca9 Z 4 "only_mores" ["rule","masks","cell","sign"] (lu Z.K c)
abbrev pH Z:=Ca9 Z 4 "square_mores" ["floor","cell"] (jH Z.K)
abbrev q5 Z c:=Ca9 Z 4 "reach_mores" ["floor","rule","masks","cell","sign"] (kt Z.K c)
abbrev wO Z:=Ca9 Z 4 "cells_of" ["floor","name","words"] (oF Z.K)
abbrev oi Z:=Ca9 Z 4 "checked_floor" ["floor"] (iD Z.K)
abbrev lN Z c d:=Ca9 Z 5 "strikes_by_line" ["puzzle","masks","thought"] (gm Z.K c d)
abbrev oj Z c:=Ca9 Z 5 "count_strikes" ["rule","masks","cell","sign","more"] (iL Z.K c)
abbrev m3 Z c:=Ca9 Z 5 "square_strikes" ["floor","rule","masks","cell","sign","more"] (gY Z.K c)
abbrev oo Z c:=Ca9 Z 5 "reach_strikes" ["floor","rule","masks","cell","sign","more"] (iQ Z.K c)
abbrev pI Z c:=Ca9 Z 5 "turn_strikes" ["floor","rule","masks","cell","sign","more"] (jF Z.K c)
abbrev pJ Z c d:=Ca9 Z 5 "mores_to_try" ["puzzle","masks","kind","number","cell","sign"] (jJ Z.K c d)
abbrev uB Z c:=Ca9 Z 5 "read_rule" ["floor","line"] (mI Z.K c)
abbrev pK Z c:=Ca9 Z 6 "ways_strikes" ["rule","masks","cell","sign","more"] (jD Z.K c)
abbrev j4 Z c d:=Ca9 Z 6 "strikes_by_region" ["puzzle","masks","thought"] (fc Z.K c d)
abbrev sS Z c:=Ca9 Z 6 "read_rules" ["floor","lines"] (lf Z.K c)
abbrev j5 Z c d:=Ca9 Z 7 "strikes_by_number" ["puzzle","masks","thought"] (ff Z.K c d)
abbrev y8 Z c d:=Ca9 Z 8 "strikes" ["puzzle","masks","thought"] (oU Z.K c d)
abbrev wP Z c d:=Ca9 Z 9 "first_at" ["puzzle","masks","kind","number","cell","sign"] (oW Z.K c d)
abbrev oq Z c d:=Ca9 Z 10 "found_by_rule" ["puzzle","masks","kind","number"] (iT Z.K c d)
abbrev ra Z c d:=Ca9 Z 11 "first_found" ["puzzle","masks","kinds"] (ky Z.K c d)
abbrev tZ Z c d:=Ca9 Z 12 "think" ["puzzle","masks","kinds"] (kB Z.K c d)
abbrev m5 Z c d:=Ca9 Z 13 "standstill" ["puzzle","kinds"] (iu Z.K c d)
abbrev kF Z c d:=Ca9 Z 13 "_law_settles" ["_law_puzzle","_law_kinds_here","_law_many","_law_whole"] (dq Z.K c d)
abbrev sU Z c d:=Ca9 Z 14 "settles" ["puzzle","kinds"] (jP Z.K c d)
abbrev wQ Z c d:=Ca9 Z 14 "_law_due" ["_law_puzzle","_law_many","_law_whole"] (lI Z.K c d)
abbrev BL Z c d:=Ca9 Z 15 "needed" ["puzzle"] (nV Z.K c d)
abbrev Dc(Z:Z5)(c:RO)(d:RP):Prop:=MCal Z.P Z.w Z.K Z.mg Z.base d d.ok 1 "clues" ["self"] (uZ Z.K c d)
abbrev uC(Z:Z5)(c:RO)(d:RP):Prop:=MCal Z.P Z.w Z.K Z.mg Z.base d d.ok 1 "has_clues" ["self","filling"] (mO Z.K c d)
abbrev m6(Z:Z5)(c:RO):Prop:=MCal Z.P Z.w Z.K Z.mg Z.base c c.ok 3 "has_two_beside" ["self","cells","cell"] (gS Z.K c)
abbrev yt(Z:Z5)(c:RO):Prop:=MCal Z.P Z.w Z.K Z.mg Z.base c c.ok 5 "holds" ["self","filling"] (dc Z.K c)
abbrev kO(Z:Z5)(c:RO):Prop:=MCal Z.P Z.w Z.K Z.mg Z.base c c.ok 4 "is_joined" ["self","cells"] (jj Z.K c)
abbrev iX(Z:Z5)(c:RO):Prop:=MCal Z.P Z.w Z.K Z.mg Z.base c c.ok 1 "marked" ["self","filling"] (ja Z.K c)
abbrev yu(Z:Z5)(c:RO)(d:RP):Prop:=MCal Z.P Z.w Z.K Z.mg Z.base d d.ok 6 "meets" ["self","filling"] (qE Z.K c d)
abbrev FX(Z:Z5)(c:RO):Prop:=MCal Z.P Z.w Z.K Z.mg Z.base c c.ok 1 "name" ["self"] (xQ Z.K c)
abbrev vm(Z:Z5)(c:RO):Prop:=MCal Z.P Z.w Z.K Z.mg Z.base c c.ok 1 "number" ["self"] (i8 Z.K c)
abbrev md(Z:Z5)(c:RO)(d:RP):Prop:=MCal Z.P Z.w Z.K Z.mg Z.base d d.ok 1 "place" ["self"] (iH Z.K c d)
abbrev kG(Z:Z5)(c:RO)(d:RP):Prop:=MCal Z.P Z.w Z.K Z.mg Z.base d d.ok 1 "rules" ["self"] (e8 Z.K c d)
abbrev pM(Z:Z5)(c:RO):Prop:=MCal Z.P Z.w Z.K Z.mg Z.base c c.ok 1 "sign" ["self"] (i9 Z.K c)
abbrev jX(Z:Z5)(c:RO):Prop:=MCal Z.P Z.w Z.K Z.mg Z.base c c.ok 1 "signs_at" ["self","filling"] (ge Z.K c)
abbrev kH(Z:Z5)(c:RO):Prop:=MCal Z.P Z.w Z.K Z.mg Z.base c c.ok 1 "spots" ["self"] (gA Z.K c)
abbrev lO(Z:Z5)(x:Str)(C:Addr)(c:RO)(d:RP):Prop:=KCal Z.P Z.w Z.K Z.mg Z.base 7 x C ["self","floor","lines","clues"] (cZ Z.K c d)
abbrev aM(Z:Z5)(x:Str)(C:Addr)(c:RO):Prop:=KCal Z.P Z.w Z.K Z.mg Z.base 1 x C ["self","floor","words","cells","amount","mark"] (aQ Z.K c)
section
variable{Z:Z5}(Bz:Bt3 Z)
include Bz
set_option maxHeartbeats 4000000
abbrev wR:=top 10
theorem Cw(D:De Z.K "is_whole" wR):l8 Z:=okc Bz D Cd bd1 #[";eiOu:a;?b0b[.v]'Ga'd'eacS'Hu:a;?b0b[.v]'Ia'J'Kac"]
abbrev sV:=top 13
theorem zN(D:De Z.K "many_cells" sV):c5 Z:=okc Bz D zq bd1 #[";eiA~Tmd0hmd0h"]
abbrev y9:=top 14
theorem DZ(D:De Z.K "spot_of" y9):sI Z:=okc Bz D Dq bd2 #[";gs#2 nmd0hei~ibA'L12bA'f12c"]
abbrev uD:=top 17
theorem BM(D:De Z.K "square_at" uD):uw Z:=okc Bz D AK bd2 #[";gs#2 nAU1md0heizb1bAU1hb2bAU2hc"]
abbrev BN:=top 21
theorem FY(D:De Z.K "bit_of" BN):vi Z:=okc Bz D Fe bd1 #[";gs#1 nhgPLa~Ua~qbA+0hct.i#2 naraes#1 nA~T1hei1"]
abbrev BO:=top 24
theorem FZ(D:De Z.K "stands" BO):kD Z:=okc Bz D Fd bd2 #[";eiOx~jh1klOx~j1'M'N'O'P'Q0klSxvdA'fA{e0A+1hhhkl"]
abbrev za:=top 29
theorem Ea(D:De Z.K "clashes" za):kT Z:=okc Bz D DC bd1 #[";eix~rdh0`0",(by with_unfolding_all rfl)]
abbrev wS:=top 41
theorem Cz(D:De Z.K "masks_at" wS):f7 Z:=okc Bz D Ch bd2 #[";eiB.x&--0 `0ya%aaaaw1$t.i#1 @`0ara$J$md21",[".0","cell","masks"]]
abbrev pN:=top 46
theorem wT(D:De Z.K "clue_strikes" pN):px Z:=okc Bz D wm bd4 #[";eiOxvd3zcklOxDdmd01hklSxDdmd012kl"]
abbrev j6:=top 54
theorem qP(D:De Z.K "are_told_in_order" j6):j3 Z:=okc Bz D qB bd2 #[";gpVQoDduHaEGb1chklQo~kdmd1h0`0Xo~kdmd1h0`0eiMqeixZTW~z~A~Bd0bmd1hcTW~z~A~Bd0bmd1hckl",(by with_unfolding_all rfl)]
abbrev uE:=top 62
theorem BP(D:De Z.K "with_sign" uE):oY Z:=okc Bz D A0 bd3 #[";eiB.x&---12 `0ya%aaaa'ga'hb0c$~Va~st.i#1 @`0ara~st.i#2 @`0ara~W$J$~Covd13kl42",[".0","place","other","cell","sign"]]
abbrev rb:=top 78
theorem yw(D:De Z.K "place_mores" rb):qY Z:=okc Bz D yc bd2 #[";eiB.x&--1 `0ya%aaaa'Ra~qbhbAUmd0hhc$t.i#1 @`0ara$KoDd12kl$zb1c",[".0","other","sign"]]
abbrev zb:=top 94
theorem Eb(D:De Z.K "all_but" zb):yX Z:=okc Bz D DT bd2 #[";eiB.x&--1 `0ya%aaaaw0$t.i#1 @`0ara$KoDd12kl$1",[".0","other","kind"]]
abbrev uF:=top 97
theorem BQ(D:De Z.K "is_within" uF):ux Z:=okc Bz D AY bd2 #[";eiu~aaa~b~cbB.x&--1 `0ya%aaaaw0$t.i#1 @`0ara$J$x~rd12`1c",[".0","cell","cells"],(by with_unfolding_all rfl)]
abbrev or:=mtop 98 0
theorem vn{c:RO}(Ku:FldK Z.K c "amount")(Kv:FldK Z.K c "cells")(KA:FldK Z.K c "floor")(KN:FldK Z.K c "mark")(K9:FldK Z.K c "words"){f:Addr}(D:Me Z.K "__init__" "Rule.__init__" or f):Mo Z 1 f ["self","floor","words","cells","amount","mark"] (aQ Z.K c):=okm D uU bd6 #[";g~t01~Xg~t0~l'Sa~J~Kb2c'Tg~t0~l'Sa~J~Kb3c~Yg~t04~Le~t05'i"]
abbrev uG:=mtop 98 1
theorem BR{c:RO}(K9:FldK Z.K c "words"){f:Addr}(D:Me Z.K "name" "Rule.name" uG f):Mo Z 1 f ["self"] (rS Z.K c):=okm D AL bd1 #[";eimdR0'Th"]
abbrev sW:=mtop 98 2
theorem zO{c:RO}(Kv:FldK Z.K c "cells"){f:Addr}(D:Me Z.K "spots" "Rule.spots" sW f):Mo Z 1 f ["self"] (qS Z.K c):=okm D zr bd1 #[";ei~l~Da-~dbR0~Yc"]
abbrev rd:=mtop 98 3
theorem yx{c:RO}(Ku:FldK Z.K c "amount"){f:Addr}(D:Me Z.K "number" "Rule.number" rd f):Mo Z 1 f ["self"] (ph Z.K c):=okm D xR bd1 #[";eiR0~L"]
abbrev uH:=mtop 98 4
theorem BS{c:RO}(KN:FldK Z.K c "mark"){f:Addr}(D:Me Z.K "sign" "Rule.sign" uH f):Mo Z 1 f ["self"] (rT Z.K c):=okm D AM bd1 #[";eiR0'i"]
abbrev ot:=mtop 98 8
theorem vo{c:RO}(Kv:FldK Z.K c "cells"){f:Addr}(D:Me Z.K "signs_at" "Rule.signs_at" ot f):Mo Z 1 f ["self","filling"] (mF Z.K c):=okm D uV bd2 #[";eiB.x&--1 `0ya%aaaa'jR0~Y$t.i#1 @`0ara$J$md21",[".0","cell","filling"]]
abbrev re:=mtop 98 9
theorem kI{c:RO}(Kv:FldK Z.K c "cells")(KN:FldK Z.K c "mark"){f:Addr}(D:Me Z.K "marked" "Rule.marked" re f):Mo Z 1 f ["self","filling"] (pi Z.K c):=okm D xZ bd2 #[";eiB.x&--10 `0ya%aaaa'jR0~Y$t.i#1 @`0ara$Kovdmd21R3'ikl$1",[".0","cell","filling","self"]]
abbrev uI:=top 114
theorem BT{t_FIGURES:Tok}(MC:Z.mg "FIGURES"=some (.str (tx s!"0123456789") t_FIGURES)){t_MOST_FIGURES:Tok}(Lu:Z.mg "MOST_FIGURES"=some (.int 9 t_MOST_FIGURES))(D:De Z.K "number_in" uI):uy Z:=okc Bz D AN bd1 #[";gpVQovd0IklQo~euHaEGb0c`0klXV'kovdmd0hIkl'loDd0Iklei~mqgpNCu~aaa~b~cbB.x&-- `1ya%aaaa{f0$t.i#1 @`1ara$J$x~rd1`2`3cei~mqei~l{ga'd'eb0c",(dQ rfl Lu ⟨t_MOST_FIGURES,rfl⟩),[".0","figure"],(dQ rfl MC ⟨t_FIGURES,rfl⟩),(by with_unfolding_all rfl)]
abbrev pO:=mtop 127 1
theorem wU{c:RO}{d:RP}(KG:FldK Z.K d "floor"){f:Addr}(D:Me Z.K "place" "Puzzle.place" pO f):Mo Z 1 f ["self"] (nE Z.K c d):=okm D wj bd1 #[";eiR0~M"]
abbrev pP:=mtop 127 3
theorem wV{c:RO}{d:RP}(KQ:FldK Z.K d "given"){f:Addr}(D:Me Z.K "clues" "Puzzle.clues" pP f):Mo Z 1 f ["self"] (nG Z.K c d):=okm D wk bd1 #[";ei~l~Da-~dbR0'mc"]
abbrev pQ:=mtop 127 4
theorem wW{c:RO}{d:RP}(KU:FldK Z.K d "laws"){f:Addr}(D:Me Z.K "rules" "Puzzle.rules" pQ f):Mo Z 1 f ["self"] (nI Z.K c d):=okm D wl bd1 #[";ei~l~Da-~dbR0'nc"]
abbrev kU:=mtop 127 5
theorem rD{c:RO}{d:RP}(KQ:FldK Z.K d "given"){f:Addr}(D:Me Z.K "has_clues" "Puzzle.has_clues" kU f):Mo Z 1 f ["self","filling"] (j2 Z.K c d):=okm D rz bd2 #[";eiu~aaa~b~cbB.x&--- `0ya%aaaa{ha{ibR0'mb1c$~Va~st.i#1 @`0ara~st.i#2 @`0ara~W$J$~Nxvd1hklSxvd12klc",[".0","clue","sign"]]
abbrev pR:=top 129
theorem wX(D:De Z.K "_law_cell_at" pR):pA Z:=okc Bz D Bo bd2 #[";gpoZ1u{jaEGb0cklei{k{l01`0qeih",(λ_ _=>rfl)]
abbrev sX:=top 130
theorem zP(D:De Z.K "_law_kinds" sX):mV Z:=okc Bz D wG bd0 λg f e=>by
 refine ac ?p ?q
 case p=>
  refine dX (i:=0) ?n ?a ?b ?he ?c ?d
  case n=>exact e
  case a=>exact rfl
  case b=>exact Or.inl rfl
  case c=>rfl
  case d=>exact .inl rfl
  case he=>exact(aA (aa aF (aa aF (aa aF (aa aF (aa aF (aa aF (aa aF (aa aF (aa aF (aa aF (aa aF ab))))))))))))
 case q=>exact ad (af (pv 0))
abbrev sY:=top 131
theorem zQ(D:De Z.K "_law_order" sY):mW Z:=okc Bz D wF bd2 #[";gs#2 n'oaaa-~qb1cgs#3 nzcgPLa~Ua~qb1ct.i#4 narae^TW~n~o~p3bTW{m{n{o2bA'fA'L0AU4huHaEGb2cccei3"]
abbrev sZ:=top 135
theorem zR(D:De Z.K "_law_alike" sZ):sJ Z:=okc Bz D wI bd2 #[";gpVQo~Z1~mklQNCu:a;?b0b[.v]'pa~J~KacXoDduHaEGb0chkleiOx~Z0~mklSx~Z1~mklqgpVQNCu:a;?bmd0hb[.v]~*a-~dacQNCu:a;?bmd0hb[.v]~*a-~dacXoDd01kleiMqgPLawmd0ht.i#2 naragpVQNCu:a;?b2b[.v]'pa~J~KacXNCu:a;?bmd2hb[.v]~*a-~daceiMqePLawmd2ht.i#3 naraepVQNCu:a;?b3b[.v]'Ga'd'eacXCu:a;?b3b[.v]'Ia'J'KaceiMqeiM"]
abbrev m7:=top 11
theorem ub(KR:l8 Z)(D:De Z.K "is_from_one_to" m7):iW Z:=okc Bz D t1 bd2 #[";eiOj'qfb0cOx~jh0klSx~j01kl"]
abbrev BU:=top 15
theorem F0(Lg:sI Z)(D:De Z.K "beside" BU):kE Z:=okc Bz D EY bd2 #[";gs#2 nmd0hgs#3 nmd0hgs#4 nj'Ufb0b1cgs#5 nzcgpo~emd4hhkle^TW~n~o~p5bA+13cqgpo~emd4hhkle^TW~n~o~p5bA+1hcqgpoZmd4hA+3hkle^TW~n~o~p5bAU1hcqgpoZmd4hA+2hkle^TW~n~o~p5bAU13cqei5"]
abbrev uJ:=top 16
theorem BV(Lg:sI Z)(D:De Z.K "is_corner" uJ):uz Z:=okc Bz D AJ bd2 #[";gs#2 nj'Ufb0b1ceiOxZmd2hA+md0hhklSxZmd2hA+md0hhkl"]
abbrev uK:=top 22
theorem BW(Lv:vi Z)(D:De Z.K "full_mask" uK):uA Z:=okc Bz D Br bd1 #[";eiA+j'VfbAUmd0hhch"]
abbrev zc:=top 25
theorem Ec(Lv:vi Z)(KD:kD Z)(D:De Z.K "without" zc):sK Z:=okc Bz D Dw bd2 #[";ei~CCj~Ofb0b1cA+0j'Vfb1c0"]
abbrev wY:=top 27
theorem CA(KD:kD Z)(D:De Z.K "signs_in" wY):cI Z:=okc Bz D Cg bd1 #[";eiB.x&--0 `0ya%aaaa'Ra~qbhbAU'M'N'O'P'Q0hc$t.i#1 @`0ara$KCj~Ofb2b1c$1",[".0","sign","mask"]]
abbrev zd:=top 37
theorem Ed(KR:l8 Z)(Kp:c5 Z)(D:De Z.K "is_cell" zd):yY Z:=okc Bz D Dx bd2 #[";eiOj'qfb1cOx~jh1klSxZ1j~wfb0ckl"]
abbrev ze:=top 39
theorem Ee{c:RO}(M7:FX Z c)(Li:GDict Z.w Z.K Z.mg "RULES_OF_KIND" gd_RULES_OF_KIND)(D:De Z.K "goes_by" ze):yZ Z c:=okc Bz D Dz bd2 #[";ei~Nxvd0IklSx{pF{qf!1{r{s0a`0`1",(λ_ _=>rfl),(by with_unfolding_all rfl)]
abbrev BX:=top 40
theorem F1{c:RO}(Kz:kH Z c)(D:De Z.K "others" BX):d6 Z c:=okc Bz D Ff bd2 #[";eiB.x&--1 `0ya%aaaawF~Ef!0$t.i#1 @`0ara$KoDd12kl$1",[".0","spot","cell"]]
abbrev wZ:=top 43
theorem CB(KD:kD Z)(D:De Z.K "many_may" wZ):l9 Z:=okc Bz D Ci bd2 #[";eiuHaEGbB.x&--1 `0ya%aaaaw0$t.i#1 @`0ara$KCj~Ofb1b2c$1c",[".0","mask","sign"]]
abbrev w5:=top 49
theorem CD{c:RO}(Kz:kH Z c)(D:De Z.K "ahead_of" w5):wL Z c:=okc Bz D Cj bd2 #[";gs#2 nF~Ef!0gs#3 nTW~z~A~Bd2b1cei~Co~e3hkl~P~Q2~xA+3h~x3zc"]
abbrev BY:=top 50
theorem F3{c:RO}(Kz:kH Z c)(D:De Z.K "behind" BY):BH Z c:=okc Bz D Fg bd2 #[";gs#2 nF~Ef!0gs#3 nTW~z~A~Bd2b1cei~P~Q2~xAU3h~xAU3h"]
abbrev nc:=top 63
theorem uc(K3:oY Z)(D:De Z.K "with_each_sign" nc):mX Z:=okc Bz D t8 bd3 #[";gs#3 nzcgPLaw0t.i#4 na*ae^TW'W'X'Y3bB.x&--14 `0ya%aaaaw2$t.i#1 @`0ara$J$j'Zfb3b2b1ccei3",[".0","sign","cell","filling"]]
abbrev pS:=top 86
theorem w9{c:RO}{d:RP}(Kp:c5 Z)(KK:md Z c d)(Kw:kG Z c d)(Kz:kH Z c)(D:De Z.K "cells_to_try" pS):pB Z c d:=okc Bz D wD bd3 #[";gpovd1Iklei'oaaa-~qbj~wfbF~Rf!0ccqeiu~+a~-~/bF~Ef!mdF~uf!02c"]
abbrev pT:=mtop 99 0
theorem xa{c:RO}(KC:jX Z c){f:Addr}(D:Me Z.K "holds" "Unlike.holds" pT f):Mo Z 2 f ["self","filling"] (nD Z.K c):=okm D we bd2 #[";gs#2 nY~:f!0b1ceixvd'*aaaE'+2uHaEGb2ckl"]
abbrev uL:=mtop 100 1
theorem BZ{c:RO}(Ku:FldK Z.K c "amount")(KC:jX Z c){f:Addr}(D:Me Z.K "holds" "Sum.holds" uL f):Mo Z 2 f ["self","filling"] (sh Z.K c):=okm D AX bd2 #[";eixvdu'raa's'tbY~:f!0b1ccR0~Lkl"]
abbrev pU:=mtop 101 1
theorem xc{c:RO}(KC:jX Z c){f:Addr}(D:Me Z.K "holds" "Rising.holds" pU f):Mo Z 2 f ["self","filling"] (nK Z.K c):=okm D wr bd2 #[";g~f.i#2 na*aY~:f!0b1ceiu~aaa~b~cbB.x&--2 `0ya%aaaa~Ua~qbA+uHaEGb2chc$t.i#1 @`0ara$J$xZmd21md2AU1hklc",[".0","place","signs"]]
abbrev tm:=mtop 102 1
theorem zS{c:RO}(Ku:FldK Z.K c "amount")(KC:jX Z c){f:Addr}(D:Me Z.K "holds" "Seen.holds" tm f):Mo Z 2 f ["self","filling"] (qU Z.K c):=okm D zy bd2 #[";gs#2 nhgs#3 nhgPLawY~:f!0b1ct.i#4 naraepo~e42klgs#2 n4es#3 nAU3hqeixvd3R0~Lkl"]
abbrev rg:=mtop 103 0
theorem yy{c:RO}(Ku:FldK Z.K c "amount")(KY:iX Z c){f:Addr}(D:Me Z.K "holds" "Count.holds" rg f):Mo Z 2 f ["self","filling"] (pj Z.K c):=okm D x9 bd2 #[";eixvduHaEGbY~;f!0b1ccR0~Lkl"]
abbrev ou:=top 115
theorem vp(Mf:uy Z)(D:De Z.K "number_within" ou):jW Z:=okc Bz D uW bd3 #[";gs#3 nj{tfb0cgpVQo~Z3~mklQoZ31klXo~e32kle/qei3"]
abbrev tp:=top 125
theorem zT(KR:l8 Z)(Kp:c5 Z)(D:De Z.K "is_filling" tp):mY Z:=okc Bz D zv bd3 #[";gpVQNCu:a;?b1b[.v]~*a-~dacXoDduHaEGb1cj~wfb0ckleiMqeiu~aaa~b~cbB.x&--02 `0ya%aaaaw1$t.i#1 @`0ara$J$Oj'qfb1cOx~j31klSx~j1md2hklc",[".0","sign","floor","least"]]
abbrev xf:=top 132
def CF(k:mW Z){c0 d:Addr}(e:PySem.W.tabIn Z.K "_law_row"=some (c0,d))(g:PySem.W.CodeHd Z.base c0 d)(j:Z.base.BuiltinsAt Z.mg d)(h:mainGlobals≠d)(D:De Z.K "_law_row" xf):wM Z:=okcT Bz D zK bd3 e λf b c=>(ac (kset 3 c (fC lT (kcal k f (aa (au gO (pv 2) ae) (aa (ap aG rfl Bz.len_ aR (aa (pv 1) ab)) ab))) gN (eh (au aO ae (au cJ (au gO (pv 2) ae) (ap aG rfl Bz.len_ aR (aa (pv 1) ab)))))))
   (ac (kset 4 c (kix b (aA (aa aF (aa aF (aa aF (aa aF (aa aF (aa aF ab))))))) (au cJ (pv 2) ae)))
   (ac (aq (aj (je b) (pv 4) (cQ (aa aF (aa aF ab))) (by with_unfolding_all rfl)) (ac (kset 5 c (aA ab))
   (ac (bf Oo rfl (ar (pv 3)) (ao (i:=6) c rfl (Or.inl rfl))
   (ad (aq (aj (cX b) (kix b (pv 1) (pv 6)) (aD (ix:=[none,none,some 1]) [".0","_law_other","_law_filling"] (aw rfl (by decide+kernel) rfl rfl rfl) rfl (ar (pv 5)) (λcl s H a=>(ao (i:=1) (show([".0","_law_other","_law_filling"]:List Str).Nodup by decide+kernel) rfl (Or.inl rfl))) (λcl s H a=>aS) (λcl s H a=>(kix b (pv 2) (pv 1)))) (by with_unfolding_all rfl)) (ad (bT (bS N6 Ou Ov bg (pv 5) (aa (pv 6) ab)))) ak)))
   (ad (kset 3 c (pv 5))))) ak)
   (ac (aq (aj (ax b) (pv 4) aF (ai _)) (ad (kset 3 c (Cp (x:="_law_row") (i:=1) e rfl Bz.sorted_ f.depth rfl g j h (pv 3) rfl rfl rfl rfl rfl rfl (λ_ _ _ _ _ _=>rfl) rfl rfl rfl rfl rfl))) ak)
   (ac (dX (i:=7) c rfl (Or.inr rfl) (aD (ix:=[none,none,some 1]) [".0","_law_spot","_law_filling"] (aw rfl (by decide+kernel) rfl rfl rfl) rfl (ar (pv 3)) (λcl s H a=>(ao (i:=1) (show([".0","_law_spot","_law_filling"]:List Str).Nodup by decide+kernel) rfl (Or.inl rfl))) (λcl s H a=>aS) (λcl s H a=>(kix b (pv 2) (pv 1)))))
   (ac (kset 8 c (aA ab))
   (ac (aq (aj (ax b) (pv 4) aF (ai _)) (ad (kset 8 c (aA (aa (ap (nt rfl) rfl Bz.sum_ vS (aa (pv 7) ab)) ab)))) ak)
   (ac (aq (aj (ax b) (pv 4) aF (ai _)) (ac (dX (i:=9) c rfl (Or.inr rfl) (au aO ae (au cJ (au gO (pv 2) ae) (pv 0))))
   (ad (kset 8 c (aA (aa (ap aG rfl Bz.len_ aR (aa (aD (ix:=[none,none,some 9]) [".0","_law_one","_law_sign"] (aw rfl (by decide+kernel) rfl rfl rfl) rfl (ar (pv 7)) (λcl s H a=>(ao (i:=1) (show([".0","_law_one","_law_sign"]:List Str).Nodup by decide+kernel) rfl (Or.inl rfl))) (λcl s H a=>(aX (aj (ax b) (pv 1) (pv 2) (ai _)))) (λcl s H a=>(pv 1))) ab)) (aa (pv 9) ab)))))) ak)
   (ac (aq (aj (ax b) (pv 4) aF (ai _)) (ad (kset 8 c (aA (aa (ap aG rfl Bz.len_ aR (aa (aD (ix:=[none,none,some 7]) [".0","_law_k","_law_told"] (aw rfl (by decide+kernel) rfl rfl rfl) rfl (gx rfl Bz.range_ (aa (ap aG rfl Bz.len_ aR (aa (pv 7) ab)) ab)) (λcl s H a=>(ao (i:=1) (show([".0","_law_k","_law_told"]:List Str).Nodup by decide+kernel) rfl (Or.inl rfl))) (λcl s H a=>(aX (P7 (bV (aj (ax b) (pv 1) ae (ai _)) (b8 (aj fq (kix b (pv 2) (pv 1)) (ap (DA rfl) rfl Bz.max_ I0 (aa (fC lT (pv 2) gN (eh (pv 1))) ab)) (ai _))))))) (λcl s H a=>(pv 1))) ab)) ab)))) ak)
   (ad (af (bS Ri PySem.F.slot_str_join PySem.F.type_str_join E5 aF (aa (au aO (aA (aa (pv 4) ab)) (aD (ix:=[none,none]) [".0","_law_one"] (aw rfl (by decide+kernel) rfl rfl rfl) rfl (ar (au aO (pv 8) (pv 3))) (λcl s H a=>(ao (i:=1) (show([".0","_law_one"]:List Str).Nodup by decide+kernel) rfl (Or.inl rfl))) (λcl s H a=>aS) (λcl s H a=>(cW E4 rfl Bz.str_ EM (aa (pv 1) ab))))) ab)))))))))))))
abbrev xg:=top 12
theorem CG(Kx:iW Z){t_MOST_CELLS:Tok}(L0:Z.mg "MOST_CELLS"=some (.int 16 t_MOST_CELLS)){t_MOST_SIDE:Tok}(LO:Z.mg "MOST_SIDE"=some (.int 6 t_MOST_SIDE)){t_MOST_SIGNS:Tok}(L1:Z.mg "MOST_SIGNS"=some (.int 6 t_MOST_SIGNS))(D:De Z.K "floor_of" xg):wN Z:=okc Bz D Ce bd3 #[";gpNCj~?fb0b`0ce/qgpNCj~?fb1b`0ce/qgpo~eA~T01`1kle/qgpNCj~?fb2b`2ce/qei~ib0b1b2c",(dQ rfl LO ⟨t_MOST_SIDE,rfl⟩),(dQ rfl L0 ⟨t_MOST_CELLS,rfl⟩),(dQ rfl L1 ⟨t_MOST_SIGNS,rfl⟩)]
abbrev zg:=top 18
theorem Ef(Mg:uz Z)(Kp:c5 Z)(Mh:uw Z)(D:De Z.K "squares" zg):nZ Z:=okc Bz D Du bd1 #[";eiB.x&--0 `0ya%aaaa~Ua~qbj~wfb0cc$t.i#1 @`0ara$KCj{ufb2b1c$j{vfb2b1c",[".0","cell","floor"]]
abbrev zh:=top 19
theorem Eg(Ky:kE Z)(D:De Z.K "reached" zh):n6 Z:=okc Bz D DD bd3 #[";gpo~kd21`0eizcqgs#3 nzb2cgs#4 nhg'-LoZ4uHaEGb3cklgPLawj~Ffb0bmd34ct.i#5 naraepV'ko~rd51`0'lo~kd53`0e^TW~n~o~p3b5cqes#4 nAU4heiu~+a~-~/b3c",(by with_unfolding_all rfl)]
abbrev F4:=top 23
theorem Iz(Mi:uA Z)(Kp:c5 Z)(D:De Z.K "full" F4):FV Z:=okc Bz D Io bd1 #[";eiA~[zbj{wfb0ccj~wfb0c"]
abbrev xh:=top 26
theorem CH(Lh:sK Z)(D:De Z.K "has_only" xh):f8 Z:=okc Bz D Cf bd2 #[";eixvdj'/fb0b1chkl"]
abbrev B0:=top 28
theorem F5(Lh:sK Z)(D:De Z.K "struck" B0):vj Z:=okc Bz D Fx bd3 #[";eiB.x&---12 `0ya%aaaa'ga'hb0c$~Va~st.i#1 @`0ara~st.i#2 @`0ara~W$J$~Covd13klj'/fb2b4c2",[".0","place","mask","cell","sign"]]
abbrev tq:=top 30
theorem zU(Ko:cI Z)(D:De Z.K "is_settled" tq):sL Z:=okc Bz D zF bd1 #[";eiu~aaa~b~cbB.x&-- `0ya%aaaaw0$t.i#1 @`0ara$J$xvduHaEGbj~gfb1cchklc",[".0","mask"]]
abbrev F6:=top 31
theorem IA(Ko:cI Z)(D:De Z.K "ways" F6):FW Z:=okc Bz D HX bd1 #[";gs#1 nhgPLaw0t.i#2 naraes#1 nA~T1uHaEGbj~gfb2ccei1"]
abbrev zi:=top 32
theorem Eh(Ko:cI Z)(D:De Z.K "sign_by" zi):y0 Z:=okc Bz D DO bd1 #[";gs#1 nj~gfb0cei~CovduHaEGb1chklmd1hh"]
abbrev zj:=top 38
theorem Ei(Kx:iW Z)(D:De Z.K "is_sign" zj):y4 Z:=okc Bz D Dy bd2 #[";eij~?fb1bmd0hc"]
abbrev ow:=top 51
theorem vq(Ko:cI Z)(D:De Z.K "is_no_greater" ow):oe Z:=okc Bz D u9 bd2 #[";eiu~aaa~b~cbB.x&--0 `0ya%aaaawj~gfb1c$t.i#1 @`0ara$J$x~j21klc",[".0","other","sign"]]
abbrev tu:=top 52
theorem zV(Ko:cI Z)(D:De Z.K "is_no_less" tu):sM Z:=okc Bz D zw bd2 #[";eiu~aaa~b~cbB.x&--0 `0ya%aaaawj~gfb1c$t.i#1 @`0ara$J$x'u21klc",[".0","other","sign"]]
abbrev pV:=top 55
theorem xi{c:RO}(K4:j3 Z)(Kq:d6 Z c)(Ko:cI Z)(D:De Z.K "pair_strikes" pV):pC Z c:=okc Bz D wp bd5 #[";gpNCj{xfbj~hfb0b2cb4ceiMqgs#5 nj~gfbA{ymd1md4hmd1md4hceix~juHaEGbB.x&--3 `0ya%aaaaw5$t.i#1 @`0ara$KoDd12kl$1chkl",[".0","other","sign"]]
abbrev rh:=top 61
theorem yz{c:RO}(KI:kT Z)(Ks:f7 Z)(Kq:d6 Z c)(Ko:cI Z)(K7:vm Z c)(D:De Z.K "sum_strikes" rh):qZ Z c:=okc Bz D xY bd5 #[";gpoDd4zckleiMqgs#5 nj~yfb1bj~hfb0b2ccgpCj~]fb5ceiMqgs#6 nAU3u'raa's'tbB.x&-- `0ya%aaaaw5$t.i#1 @`0ara$J$mdj~gfb1chcgs#7 nAU3u'raa's'tbB.x&-- `0ya%aaaaw5$t.i#1 @`0ara$J$mdj~gfb1c{z{Ahcei~Nx~e6F~^f!0klSxZ7F~^f!0kl",[".0","mask"]]
abbrev B1:=top 71
theorem F7(Ky:kE Z)(D:De Z.K "around" B1):BK Z:=okc Bz D Ft bd3 #[";eiB.x&--2 `0ya%aaaawj~Ffb0b1c$t.i#1 @`0ara$KoDd12kl$1",[".0","other","cell"]]
abbrev tw:=top 81
theorem zW(Ky:kE Z)(D:De Z.K "turn_mores" tw):sN Z:=okc Bz D zC bd2 #[";eiAUzbzccB.x&-- `0ya%aaaawj~Ffb0b1c$t.i#1 @`0ara$J$zb1c",[".0","other"]]
abbrev tz:=top 82
theorem zX{c:RO}(Kq:d6 Z c)(Ko:cI Z)(Kz:kH Z c)(D:De Z.K "pair_mores" tz):sO Z c:=okc Bz D zD bd3 #[";g~f.i#3 na*aF~Ef!0g~G.k#4 naraa.x&--1 `0ya%aaaawu~+a~-~/bj~hfb0b2cc$t.i#1 @`0ara$Ko~juHaEGbj~gfbmd21cchkl$1gs#5 nzcgPLaw4t.i#6 na*ae^TW'W'X'Y5bB.x&--63 `1ya%aaaaw4$t.i#1 @`1ara$KoZTW~z~A~Bd3b2cTW~z~A~Bd3b1ckl$zb2b1ccei5",[".0","other","masks"],[".0","second","first","spots"]]
abbrev pW:=top 85
theorem xj{c:RO}{d:RP}(MD:yZ Z c)(Kw:kG Z c d)(D:De Z.K "rule_numbers" pW):pD Z c d:=okc Bz D wC bd2 #[";gpovd1IkleizbhcqeiB.x&---1 `0ya%aaaa'ga'hbF~uf!0c$~Va~st.i#1 @`0ara~st.i#2 @`0ara~W$KCj{Bfb3b2c$1",[".0","number","rule","kind"]]
abbrev jb:=mtop 106 1
theorem oZ{c:RO}(Ky:kE Z)(KA:FldK Z.K c "floor"){f:Addr}(D:Me Z.K "has_two_beside" "Ring.has_two_beside" jb f):Mo Z 3 f ["self","cells","cell"] (ii Z.K c):=okm D oR bd3 #[";eixvduHaEGbB.x&--1 `0ya%aaaawj~FfbR0~Xb2c$t.i#1 @`0ara$Ko~rd12`1$1chkl",[".0","other","cells"],(by with_unfolding_all rfl)]
abbrev pX:=top 116
theorem xk(KO:jW Z)(D:De Z.K "first_within" pX):pE Z:=okc Bz D vZ bd3 #[";gpovd0zckle/qeij':fbmd0hb1b2c"]
abbrev tD:=top 117
theorem zY(Kp:c5 Z)(KO:jW Z)(D:De Z.K "told_cells" tD):sP Z:=okc Bz D zt bd2 #[";g~G.k#2 naraa.x&--0 `0ya%aaaaw1$t.i#1 @`0ara$J$j':fb1bhbA+j~wfb2chcgpovd2zckle/qgpoDd'*aaaE'+2uHaEGb2ckle/qei2",[".0","word","floor"]]
abbrev zk:=top 119
theorem Ej{c:RO}(MY:aM Z "Count" (c.A .Count) c)(MM:aM Z "Joined" (c.A .Joined) c)(Mt:aM Z "NoSquare" (c.A .NoSquare) c)(M8:aM Z "Ring" (c.A .Ring) c)(MN:aM Z "Rising" (c.A .Rising) c)(M9:aM Z "Seen" (c.A .Seen) c)(K_Sum:aM Z "Sum" (c.A .Sum) c)(MO:aM Z "Unlike" (c.A .Unlike) c)(D:De Z.K "rule_by" zk):y7 Z c:=okc Bz D Dv bd5 #[";gs#5 nmd1hgpovd5Iklei~v{Cf!ab0b1b2b3b4cqgpovd5Iklei~v{Df!ab0b1b2b3b4cqgpovd5Iklei~v{Ef!ab0b1b2b3b4cqgpovd5Iklei~v{Ff!ab0b1b2b3b4cqgpovd5Iklei~v{Gf!ab0b1b2b3b4cqgpovd5Iklei~v{Hf!ab0b1b2b3b4cqgpovd5Iklei~v{If!ab0b1b2b3b4cqgpovd5Iklei~v{Jf!ab0b1b2b3b4cqe/"]
abbrev ox:=top 126
theorem vt(K1:mY Z)(D:De Z.K "checked_clues" ox):og Z:=okc Bz D uY bd2 #[";gpNCj';fb0b1bhce/qei~l~Da-~db1c"]
abbrev tE:=top 33
theorem zZ(ME:y0 Z)(D:De Z.K "filling_by" tE):sQ Z:=okc Bz D zG bd1 #[";eiB.x&-- `0ya%aaaaw0$t.i#1 @`0ara$J$j{Kfb1c",[".0","mask"]]
abbrev uM:=top 42
theorem B3(Kt:f8 Z)(D:De Z.K "many_only" uM):kN Z:=okc Bz D AV bd2 #[";eiuHaEGbB.x&--1 `0ya%aaaaw0$t.i#1 @`0ara$KCj~Hfb1b2c$1c",[".0","mask","sign"]]
abbrev pY:=top 47
theorem xn{c:RO}(Kt:f8 Z)(Kq:d6 Z c)(D:De Z.K "only_strikes" pY):pF Z c:=okc Bz D wn bd5 #[";eiOxvduHaEGb4chklOx~rdmd4hj~hfb0b2c`0Sj~Hfbmd1md4hb3c",(by with_unfolding_all rfl)]
abbrev oy:=top 48
theorem vv{c:RO}(MF:y4 Z)(KM:l9 Z)(Ks:f7 Z)(Kq:d6 Z c)(Kz:kH Z c)(D:De Z.K "place_strikes" oy):oh Z c:=okc Bz D u7 bd6 #[";gpVQoDduHaEGbF~Ef!1cmd0hklXoDduHaEGb5chkleiMqgpVQovdmd5h4klXNCj{Lfb0bmd5hceiMqeixvdj'afbj~yfb2bj~hfb1b3ccbmd5hchkl"]
abbrev pZ:=top 53
theorem xo{c:RO}(Mu:wL Z c)(MP:BH Z c)(Lj:oe Z)(L3:sM Z)(D:De Z.K "step_strikes" pZ):pG Z c:=okc Bz D wq bd5 #[";gpoDd4zckleiMqgpCu'vaa'w'xbB.x&--13 `0ya%aaaawj{Mfb0b2c$t.i#1 @`0ara$J$j{Nfb3bmd21cceiMqeiu'vaa'w'xbB.x&--13 `0ya%aaaawj{Ofb0b2c$t.i#1 @`0ara$J$j{Pfb3bmd21cc",[".0","other","masks","sign"]]
abbrev ng:=top 67
theorem ud(KW:nZ Z)(D:De Z.K "rest_of_square" ng):mZ Z:=okc Bz D t3 bd3 #[";gPLawj'yfb0ct.i#3 naraepV'kovdmd3h1kl'lo~rd23`0eiB.x&--2 `1ya%aaaaw3$t.i#1 @`1ara$KoDd12kl$1qeizc",(by with_unfolding_all rfl),[".0","other","cell"]]
abbrev im:=top 69
theorem nn(Kt:f8 Z)(MG:yY Z)(D:De Z.K "is_another_with_only" im):ik Z:=okc Bz D nk bd5 #[";eiOj{Qfb0b3cOxDd32klSj~Hfbmd13b4c"]
abbrev tF:=top 77
theorem z4{c:RO}(Kt:f8 Z)(Kq:d6 Z c)(D:De Z.K "only_mores" tF):sR Z c:=okc Bz D zB bd4 #[";eiB.x&--13 `0ya%aaaawu~+a~-~/bj~hfb0b2cc$t.i#1 @`0ara$KCj~Hfbmd21b3c$zb1c",[".0","other","masks","sign"]]
abbrev p5:=top 79
theorem xp(KW:nZ Z)(D:De Z.K "square_mores" p5):pH Z:=okc Bz D wA bd2 #[";eiB.x&--1 `0ya%aaaawj'yfb0c$t.i#1 @`0ara$Ko~rd21`1$zbmd1hc",[".0","square","cell"],(by with_unfolding_all rfl)]
abbrev rj:=top 80
theorem yA{c:RO}(Kt:f8 Z)(Kq:d6 Z c)(KJ:n6 Z)(KD:kD Z)(KP:pM Z c)(D:De Z.K "reach_mores" rj):q5 Z c:=okc Bz D yd bd5 #[";g~f.i#5 na*aF~If!1g~f.i#6 na*aB.x&--52 `0ya%aaaawj~hfb1b3c$t.i#1 @`0ara$KCj~Hfbmd31b2c$1g~G.k#7 naraa.x&--52 `0ya%aaaawj~hfb1b3c$t.i#1 @`0ara$KCj~Ofbmd31b2c$1gpovd45klg~f.i#8 na*aj~Sfb0bAU7zb3cb3ceiB.x&--8 `1ya%aaaaw6$t.i#1 @`1ara$Ko~kd12`2$zb1cqg~f.i#8 na*a~CoDd6zcklj~Sfb0b7bmd6hczceiB.x&--86 `3ya%aaaaw6$t.i#1 @`3ara$Ko~kd12`2$zbmd3hb1c",[".0","other","mark","masks"],[".0","other","joined"],(by with_unfolding_all rfl),[".0","other","joined","sure"]]
abbrev kW:=mtop 104 1
theorem j7{c:RO}(KJ:n6 Z)(KA:FldK Z.K c "floor"){f:Addr}(D:Me Z.K "is_joined" "Joined.is_joined" kW f):Mo Z 4 f ["self","cells"] (jZ Z.K c):=okm D rq bd2 #[";ei~Nxvd1zcklSxvdj~SfbR0~Xb1bmd1hc1kl"]
abbrev nh:=mtop 105 0
theorem ue{c:RO}(Mj:ux Z)(KW:nZ Z)(KA:FldK Z.K c "floor")(KY:iX Z c){f:Addr}(D:Me Z.K "holds" "NoSquare.holds" nh f):Mo Z 4 f ["self","filling"] (lK Z.K c):=okm D t7 bd2 #[";g~f.i#2 na*aY~;f!0b1cei'Hu'vaa'w'xbB.x&--2 `0ya%aaaawj'yfbR0~Xc$t.i#1 @`0ara$J$j{Rfb1b2cc",[".0","square","cells"]]
abbrev xq:=top 118
theorem CI(Kp:c5 Z)(L4:sP Z)(Lw:GTup Z.K Z.mg "OF_ALL_CELLS" gp)(D:De Z.K "cells_of" xq):wO Z:=okc Bz D Cb bd3 #[";gp{S{T1aeij{Ufb0b2cqgpoDd2zckle/qei'oaaa-~qbj~wfb0cc"]
abbrev oz:=top 123
theorem vw(Mv:wN Z)(D:De Z.K "checked_floor" oz):oi Z:=okc Bz D uX bd1 #[";gpVQNCu:a;?b0b[.v]'pa~J~KacXoDduHaEGb0chkle/qeij{Vfbmd0hbmd0hbmd0hc"]
abbrev lP:=top 56
theorem tG{c:RO}{d:RP}(Lx:px Z)(Ly:pF Z c)(Lz:pC Z c)(Ll:oh Z c)(LA:pG Z c)(MZ:Dc Z c d)(KK:md Z c d)(Kw:kG Z c d)(D:De Z.K "strikes_by_line" lP):lN Z c d:=okc Bz D rC bd3 #[";gs#3 nmd2hgs#4 nmd2hgs#5 nmd2hgs#6 nmd2hgpovd3Ikleij{WfbF{Xf!0b4b5b6cqgs#7 nmdF~uf!0md2hgpovd3Ikleij{Yfb7b1b4b5b6cqgpovd3Ikleij{ZfbF~Rf!0b7b1b4b5b6cqgpovd3Ikleij{*fb7b1b4b5b6cqeij{+fb7b1b4b5b6c"]
abbrev oA:=top 60
theorem vx{c:RO}(KM:l9 Z)(KF:kN Z)(Ks:f7 Z)(Kq:d6 Z c)(K7:vm Z c)(KP:pM Z c)(D:De Z.K "count_strikes" oA):oj Z c:=okc Bz D u8 bd5 #[";gpoDd4zckleiMqgs#5 nj~yfb1bj~hfb0b2ccgpovd3F~If!0kleix'uj'bfb5b3cF~^f!0klqeixZj'afb5bF~If!0cF~^f!0kl"]
abbrev ni:=top 68
theorem uf{c:RO}(KF:kN Z)(Ks:f7 Z)(Ld:mZ Z)(KP:pM Z c)(D:De Z.K "square_strikes" ni):m3 Z c:=okc Bz D t4 bd6 #[";gpVQoDd4F~If!1klXoDduHaEGb5chkleiMqgs#6 nj{-fb0bmd5hb3ceiOxDd6zcklSxvdj'bfbj~yfb2b6cb4cuHaEGb6ckl"]
abbrev oB:=top 70
theorem vy{c:RO}(KZ:ik Z)(Kq:d6 Z c)(KJ:n6 Z)(KD:kD Z)(KP:pM Z c)(D:De Z.K "reach_strikes" oB):oo Z c:=okc Bz D vc bd6 #[";g~f.i#6 na*aF~If!1gpNCu~aaa~b~cbB.x&--3062 `0ya%aaaaw5$t.i#1 @`0ara$J$j{/fb3b5b2b1b4cceiMqg~G.k#7 naraa.x&--62 `1ya%aaaawj~hfb1b3c$t.i#1 @`1ara$KCj~Ofbmd31b2c$1gpovd46kleiOxvduHaEGb5chklSx~kdmd5hj~Sfb0bAU7zb3cb3c`2qgpVQoDduHaEGb5chklXovdmd5hmd5hkleiMqeix~kdmd5hj~Sfb0b7bmd5hc`2",[".0","other","cell","floor","mark","masks"],[".0","other","mark","masks"],(by with_unfolding_all rfl)]
abbrev p6:=top 72
theorem xt{c:RO}(MQ:BK Z)(Ky:kE Z)(Kt:f8 Z)(KM:l9 Z)(KF:kN Z)(Ks:f7 Z)(KP:pM Z c)(D:De Z.K "turn_strikes" p6):pI Z c:=okc Bz D wy bd6 #[";gs#6 nF~If!1gpovd5zcklgs#7 nj~yfb2bj~Ffb0b3cceiOxvd46klS~NxZj'afb7b6chklSx~ej'bfb7b6chklqgpVQoDduHaEGb5chklQo~kdmd5hj~Ffb0b3c`0XNCj~Hfbmd2md5hb6ceiMqgs#7 nj~yfb2bj{:fb0bmd5hb3ccgpovd46kleix'uj'bfb7b6chklqeixZj'afb7b6chkl",(by with_unfolding_all rfl)]
abbrev p7:=top 83
theorem xu{c:RO}{d:RP}(L5:sR Z c)(L6:sO Z c)(LR:qY Z)(LS:q5 Z c)(LD:pH Z)(L7:sN Z)(KK:md Z c d)(Kw:kG Z c d)(D:De Z.K "mores_to_try" p7):pJ Z c d:=okc Bz D wB bd6 #[";gs#6 nF~Rf!0gpovd2Ikleij{;fb6b5cqgpovd2Ikleij{?fb6b4cqgpovd2Ikleij{[fb6b4cqgpovd2Ikleij{]fbmdF~uf!03b1b4b5cqgpovd2Ikleij{^fb6bmdF~uf!03b1b4b5cqgpovd2Ikleij}afbmdF~uf!03b1b4cqeizbzcc"]
abbrev p9:=mtop 104 0
theorem xv{c:RO}(Ml:kO Z c)(KY:iX Z c){f:Addr}(D:Me Z.K "holds" "Joined.holds" p9 f):Mo Z 5 f ["self","filling"] (nO Z.K c):=okm D wu bd2 #[";eiY'?f!0bY~;f!0b1cc"]
abbrev tH:=mtop 106 0
theorem z5{c:RO}(MR:m6 Z c)(Ml:kO Z c)(KY:iX Z c){f:Addr}(D:Me Z.K "holds" "Ring.holds" tH f):Mo Z 5 f ["self","filling"] (qV Z.K c):=okm D zA bd2 #[";g~f.i#2 na*aY~;f!0b1ceiOY'?f!0b2cSu~aaa~b~cbB.x&--20 `0ya%aaaaw2$t.i#1 @`0ara$J$Y}bf!3b2b1cc",[".0","cell","cells","self"]]
abbrev uN:=top 120
theorem B4{c:RO}(Mw:wO Z)(La:pE Z)(MH:y7 Z c){t_MOST_NUMBER:Tok}(LU:Z.mg "MOST_NUMBER"=some (.int 99 t_MOST_NUMBER))(LV:GTup Z.K Z.mg "WITH_NUMBER" gQ)(Mm:GTup Z.K Z.mg "WITH_SIGN" gz)(D:De Z.K "read_rule" uN):uB Z c:=okc Bz D AS bd2 #[";gpNCu:a;?b1b[.v]}ca}d}eace/qgs#2 nT}f}g}h}i1bIcgs#3 nmd2hgs#4 n~P~Q2~xh'zgs#5 nhgs#6 nhgp'c}j3ags#5 nj'[fb4bhb`0ces#4 n~P~Q4~xh'zqgp'c}k3ags#6 nj'[fb4bhbmd0hces#4 n~P~Q4~xh'zqeij}lfb0b2bj}mfb0b3b4cb5b6c",(dQ rfl LU ⟨t_MOST_NUMBER,rfl⟩)]
abbrev qb:=top 64
theorem xw{c:RO}(KI:kT Z)(Ks:f7 Z)(Kq:d6 Z c)(Ko:cI Z)(Na:FW Z)(Le:mX Z)(K3:oY Z){t_MOST_WAYS:Tok}(Mn:Z.mg "MOST_WAYS"=some (.int 32 t_MOST_WAYS))(LY:yt Z c)(D:De Z.K "ways_strikes" qb):pK Z c:=okc Bz D wx bd5 #[";gs#5 nj~hfb0b2cgs#6 nj~yfb1b5cgpVQoDd4zcklXo~ej}nfb6c`0kleiMqgpCj~]fb6ceiMqgs#7 nzbj'ZfbA~[zbhcuHaEGb1cb2b3ccgPLaw5t.i#8 naraes#7 nj}ofb7b8bj~gfbmd18ccgPLaw7t.i#9 naraepCY']f!0b9ceiMqeiM",(dQ rfl Mn ⟨t_MOST_WAYS,rfl⟩)]
abbrev j8:=top 73
theorem qQ{c:RO}{d:RP}(Lm:oo Z c)(Lf:m3 Z c)(LE:pI Z c)(KK:md Z c d)(Kw:kG Z c d)(D:De Z.K "strikes_by_region" j8):j4 Z c d:=okc Bz D oS bd3 #[";gs#3 nF~Rf!0gs#4 nmdF~uf!0md2hgpovdmd2hIkleij}pfb3b4b1bmd2hbmd2hbmd2hcqgpovdmd2hIkleij}qfb3b4b1bmd2hbmd2hbmd2hcqeij}rfb3b4b1bmd2hbmd2hbmd2hc"]
abbrev tI:=top 124
theorem z6{c:RO}(Mp:uB Z c){t_MOST_RULES:Tok}(L8:Z.mg "MOST_RULES"=some (.int 12 t_MOST_RULES))(D:De Z.K "read_rules" tI):sS Z c:=okc Bz D zu bd2 #[";gpo~euHaEGb1c`0kle/qeiB.x&--0 `1ya%aaaaw1$t.i#1 @`1ara$J$j}sfb2b1c",(dQ rfl L8 ⟨t_MOST_RULES,rfl⟩),[".0","line","floor"]]
abbrev qc:=mtop 127 6
theorem xy{c:RO}{d:RP}(K1:mY Z)(KG:FldK Z.K d "floor")(KU:FldK Z.K d "laws")(Mq:uC Z c d)(LY:yt Z c){f:Addr}(D:Me Z.K "meets" "Puzzle.meets" qc f):Mo Z 6 f ["self","filling"] (nQ Z.K c d):=okm D wv bd2 #[";gpVQNCj';fbR0~Mb1bhcXNCY}tf!0b1ceiMqeiu~aaa~b~cbB.x&--1 `0ya%aaaawR0'n$t.i#1 @`0ara$J$Y']f!1b2cc",[".0","rule","filling"]]
abbrev j9:=top 65
theorem qR{c:RO}{d:RP}(Lo:oj Z c)(LW:qZ Z c)(LF:pK Z c)(Kw:kG Z c d)(D:De Z.K "strikes_by_number" j9):j5 Z c d:=okc Bz D oT bd3 #[";gs#3 nmdF~uf!0md2hgpovdmd2hIkleij}ufb3b1bmd2hbmd2hbmd2hcqgpovdmd2hIkleij}vfb3b1bmd2hbmd2hbmd2hcqeij}wfb3b1bmd2hbmd2hbmd2hc"]
abbrev lQ:=mtop 127 0
theorem tJ{c:RO}{d:RP}(Lp:og Z)(Lq:oi Z)(L9:sS Z c)(KG:FldK Z.K d "floor")(KQ:FldK Z.K d "given")(KU:FldK Z.K d "laws"){f:Addr}(D:Me Z.K "__init__" "Puzzle.__init__" lQ f):Mo Z 7 f ["self","floor","lines","clues"] (cZ Z.K c d):=okm D rW bd4 #[";g~t0j}xfb1c~Mg~t0j}yfbR0~Mb2c'ne~t0j}zfbR0~Mb3c'm"]
abbrev zl:=top 75
theorem Ek{c:RO}{d:RP}(Lc:lN Z c d)(K5:j5 Z c d)(K6:j4 Z c d)(Ma:GTup Z.K Z.mg "LINE_KINDS" iq)(LG:GTup Z.K Z.mg "NUMBER_KINDS" gr)(D:De Z.K "strikes" zl):y8 Z c d:=okc Bz D Cl bd3 #[";gp'c}Amd2haeij}Bfb0b1b2cqgp'c}Cmd2haeij}Dfb0b1b2cqeij}Efb0b1b2c"]
abbrev xz:=top 84
theorem CJ{c:RO}{d:RP}(LH:pJ Z c d)(MI:y8 Z c d)(D:De Z.K "first_at" xz):wP Z c d:=okc Bz D Cn bd6 #[";gPLawj}Ffb0b1b2b3b4b5ct.i#6 narags#7 n~ib2b3b4b5b6cepCj}Gfb0b1b7cei7qei~m"]
abbrev oC:=top 87
theorem vz{c:RO}{d:RP}(LI:pB Z c d)(KI:kT Z)(Mx:wP Z c d)(Ko:cI Z)(LJ:vj Z)(D:De Z.K "found_by_rule" oC):oq Z c d:=okc Bz D vf bd4 #[";gs#4 n~l~Da-~db1cgs#5 nzcgPLawj}Hfb0b2b3ct.i#6 naragPLawj~gfbmd46ct.i#7 narags#8 nj}Ifb0b4b2b3b6b7cepo}J8~mklg^TW~n~o~p5b8ces#4 nj'^fb4b6b7cqepCj~]fb4cei5qei5"]
abbrev rm:=top 89
theorem yB{c:RO}{d:RP}(Lr:oq Z c d)(LL:pD Z c d)(LN:GTup Z.K Z.mg "KINDS" iI)(D:De Z.K "first_found" rm):ra Z c d:=okc Bz D ye bd3 #[";gPLawB.x&--2 `0ya%aaaa'j'A'Ba$t.i#1 @`0ara$Ko}K12`1$1t.i#3 naraePLawj}Lfb0b3ct.i#4 narags#5 nj}Mfb0b1b3b4cepoDd5zcklei5qeizc",[".0","word","kinds"],(by with_unfolding_all rfl)]
abbrev Dd:=top 90
theorem GY{c:RO}{d:RP}(KI:kT Z)(LX:ra Z c d)(LJ:vj Z)(D:De Z.K "think" Dd):tZ Z c d:=okc Bz D GK bd3 #[";gs#3 n~l~Da-~db1cgs#4 nzcg'-LNCj~]fb3cgs#5 nj}Nfb0b3b2cgpovd5zcklei~ib3b4cqePLaw5t.i#6 narag^TW~n~o~p4b6ces#3 nj'^fb3bmd6hbmd6hcei~ib3b4c"]
abbrev tK:=top 92
theorem z7{c:RO}{d:RP}(Nb:FV Z)(Lb:tZ Z c d)(KK:md Z c d)(D:De Z.K "standstill" tK):m5 Z c d:=okc Bz D zH bd2 #[";eimdj'Cfb0bj}OfbF~Rf!0cb1ch"]
abbrev qd:=top 133
theorem xA{c:RO}{d:RP}(Lb:tZ Z c d)(LZ:yu Z c d)(D:De Z.K "_law_settles" qd):kF Z c d:=okc Bz D ua bd4 #[";gs#4 nmdj'Cfb0bA~[zb3c2b1chgs#5 nzcgPLaw4t.i#6 naragpo~kd6~ibhbhbhc`0eiMqe^TW~n~o~p5bmdzbhbhbhbhcA+6hceiY{af!0b5c",(by with_unfolding_all rfl)]
abbrev zn:=top 93
theorem El{c:RO}{d:RP}(Mb:sQ Z)(Mc:sL Z)(K2:m5 Z c d)(LZ:yu Z c d)(D:De Z.K "settles" zn):sU Z c d:=okc Bz D DQ bd2 #[";gs#2 nj{bfb0b1ceiOj}Pfb2cSY{af!0bj}Qfb2cc"]
abbrev xB:=top 134
theorem CK{c:RO}{d:RP}(KH:mV Z)(KL:kF Z c d)(Lb:tZ Z c d)(D:De Z.K "_law_due" xB):wQ Z c d:=okc Bz D zL bd3 #[";gpNCj{cfb0b'D'Efb1b2cei~mqgs#3 n'D'EfgPLaw}R'D'Eft.i#4 na*ag~G.k#6 naraa.x&--4 `0ya%aaaaw3$t.i#1 @`0ara$KoDd12kl$1epCj{cfb0b6b1b2ces#3 n6qgs#7 nzcgPLaw3t.i#5 na*ag~G.k#6 naraa.x&--5 `1ya%aaaaw3$t.i#1 @`1ara$KoDd12kl$1e^TW~n~o~p7b~ib5bmdj'Cfb0bA~[zb2c1b6chccei~ib3b7c",[".0","_law_word","_law_one"],[".0","_law_other","_law_word"]]
abbrev B5:=top 95
theorem F8{c:RO}{d:RP}(LQ:yX Z)(K8:sU Z c d)(K2:m5 Z c d)(LN:GTup Z.K Z.mg "KINDS" iI)(D:De Z.K "needed" B5):BL Z c d:=okc Bz D FM bd1 #[";g~f.i#1 na*a~l}Sa-~db'A'BacgpNCj{dfb0b1cei~mqgPLa}Ta}U'A'Bat.i#2 naraepCj{dfb0bj'Ffb1b2cce~f.i#1 na*aj'Ffb1b2cqei~ib1bB.x&--10 `0ya%aaaaw1$t.i#1 @`0ara$J$~ib1bj{bfb3bj'Ffb2b1cccc",[".0","kind","kinds","puzzle"]]
abbrev xC:=top 136
def JP{c:RO}{d:RP}(r:sJ Z)(h:pA Z)(u:wQ Z c d)(o:mV Z)(z:mW Z)(y:wM Z)(t:kF Z c d)(m:BL Z c d)(B:sU Z c d)(C:lO Z "Puzzle" (d.A .Puzzle) c d){f:Addr}{n:FuncData}(F:Fun Z.K "law" "law" xC f n):FnOk Z.P Z.w Z.K Z.mg Z.base CX0 16 f n ["_law_script"] (FO Z.K c d):=okf F (by ac_rfl) JO (λb e a=>by
 refine ac ?s0 ?r0
 case s0=>exact(kset 1 a (au cJ (au eH (kcal h b (aa (pv 0) (aa ae ab))) ae) ae))
 case r0=>
  refine ac ?s1 ?r1
  case s1=>
   refine IG (te:=?te) (g:=gTup Z.K 2 (gCons (gName 2) (gCons (gName 3) gNil))) ?h1 ?h2 ?h4 ?h5 ?h6
   case h2=>exact(rE rfl (eX (ao (i:=2) a rfl (Or.inl rfl)) (eX (ao (i:=3) a rfl (Or.inl rfl)) o4)))
   case h4=>rfl
   case h5=>rfl
   case h6=>rfl
   case h1=>
    refine z8 ?x ?l ?j ?p
    case x=>exact(IX e)
    case p=>exact(λ_ _=>rfl)
    case j=>exact(au cJ (pv 1) ae)
    case l=>
     refine aA ?_;refine kC ?_ ?_
     . exact cQ (de ae (de ae ab))
     refine kC ?_ ?_
     . exact cQ (de ae (de ae ab))
     refine kC ?_ ?_
     . exact cQ (de ae (de ae ab))
     refine kC ?_ ?_
     . exact cQ (de ae (de ae ab))
     refine kC ?_ ?_
     . exact cQ (de ae (de ae ab))
     refine kC ?_ ?_
     . exact cQ (de ae (de ae ab))
     exact ab
  case r1=>
   exact(ac (kset 4 a (au aO ae (au cJ (au gO (pv 1) ae) ae)))
   (ac (kset 5 a (au eH (pv 2) (pv 3)))
   (ac (kset 6 a (kix e (aA (aa ae (aa ae ab))) (au cR (pv 4) ae)))
   (ac (kset 7 a (aA ab))
   (ac (kset 8 a (aA ab))
   (ac (bf Oo rfl (gx rfl Bz.range_ (aa (pv 5) ab)) (ao (i:=9) a rfl (Or.inl rfl))
   (ac (kset 10 a (au cJ (au eH (au aO (kcal h b (aa (pv 0) (aa (au aO ae (pv 9)) ab))) (au eH (au eH ae (pv 9)) (pv 9))) ae) ae))
   (ac (bT (bS N6 Ou Ov bg (pv 7) (aa (au aO ae (au cJ (pv 10) (pv 4))) ab)))
   (ad (bT (bS N6 Ou Ov bg (pv 8) (aa (kix e (aA (aa ae (aa (kix e (pv 7) (pv 9)) (aa ae ab)))) (au cJ (au gO (pv 10) ae) ae)) ab)))))))
   (ac (kset 11 a (aA ab))
   (ac (bf Oo rfl (gx rfl Bz.range_ (aa (au cJ (au gO (pv 1) ae) ae) ab)) (ao (i:=9) a rfl (Or.inl rfl))
   (ad (bT (bS N6 Ou Ov bg (pv 11) (aa (kcal y b (aa (pv 4) (aa (pv 7) (aa (au cJ (au eH (au aO (kcal h b (aa (pv 0) (aa (au aO ae (pv 9)) ab))) (au eH ae (pv 9))) ae) ae) ab)))) ab)))))
   (ac (kset 12 a (lV C b #[1] rfl (aa (cQ (aa (pv 2) (aa (pv 3) (aa (pv 4) ab)))) (aa (pv 11) (aa (pv 8) ab)))))
   (ac (kset 13 a (kcal z b (aa (au cJ (au eH (kcal h b (aa (pv 0) (aa ae ab))) ae) ae) (aa ae ab))))
   (ac (kb (k:=14) a rfl (Or.inl rfl) rfl (ix:=[none,none]) [".0","_law_k"] (aw rfl (by decide+kernel) rfl rfl rfl) rfl (ar (fC lT (pv 13) gN (eh (au aO ae (au cJ (au gO (pv 1) ae) ae))))) (λcl s H q=>(ao (i:=1) (show([".0","_law_k"]:List Str).Nodup by decide+kernel) rfl (Or.inl rfl))) (λcl s H q=>aS) (λcl s H q=>(kix e (wK o b) (pv 1))))
   (ac (bf Oo rfl (ar (aA (aa (wK o b) (aa (pv 14) (aa (au aO (CT (pv 14)) (fC lT (pv 14) gN (eh ae))) ab))))) (ao (i:=15) a rfl (Or.inl rfl))
   (ac (kset 16 a (kcal B b (aa (pv 12) (aa (pv 15) ab))))
   (ad (aq (P7 (bV (bp (aJ (ap b3 rfl Bz.isinstance_ a8 (aa (pv 16) (aa (dR (v:=.ty "bool") rfl Bz.bool_ xI rfl) ab))))) (b8 (aj (aV e) (pv 16) (kcal t b (aa (pv 12) (aa (pv 15) (aa (pv 5) (aa (pv 6) ab))))) (ai _))))) (ad (af bA)) ak))))
   (ac (kset 17 a (kcal u b (aa (pv 12) (aa (pv 5) (aa (pv 6) ab)))))
   (ac (kset 16 a (kcal m b (aa (pv 12) ab)))
   (ac (aq (bp (aJ (kcal r b (aa (pv 16) (aa (pv 17) ab))))) (ad (af bA)) ak)
   (ac (aq (P7 (bV (aj rG (pv 16) gw (ai _)) (b8 (aj fq (pv 5) ae (ai _))))) (ad (af bA)) ak)
   (ac (bT (bS N6 Ou Ov bg (kix e (pv 16) ae) (aa aF ab)))
   (ac (bT (Ar N6 PySem.F.slot_list_clear PySem.F.type_list_clear EL (kix e (pv 16) ae)))
   (ad (af (kcal r b (aa (kcal m b (aa (pv 12) ab)) (aa (pv 17) ab)))))))))))))))))))))))) (by walk_at "l")
end
variable{l:PySem.W.OpenLaw}
theorem JQ {w:World} {K:Frag} {h:Heap} {mg:Str->Option Value} {fa:Addr} (X:K.In h) (G:h.Ns mainGlobals mg) (dY:mg "law"=↑fa) {x1 x2 x3 x4 x5 x6 x7 x8 y1 ad aP aQ cb bR bt bW aU bk bT aT bc bd bp bs br bS aI bE aO aV aG aE c0 P0:Addr} {af M B I P T O U:Tok}
  (C:ClsP K "Unlike" x1 ad) (as:ClsP K "Sum" x2 ad) (D:ClsP K "Rising" x3 ad) (ab:ClsP K "Seen" x4 ad) (R:ClsP K "Count" x5 ad) (o:ClsP K "Joined" x6 ad) (q:ClsP K "NoSquare" x7 ad) (t:ClsP K "Ring" x8 ad) (j:ClsP K "Puzzle" y1 aE) (fg:At8 K "name" ↑aP x1 x2 x3 x4 x5 x6 x7 x8) (fm:At8 K "spots" ↑aQ x1 x2 x3 x4 x5 x6 x7 x8) (eV:At8 K "number" ↑cb x1 x2 x3 x4 x5 x6 x7 x8) (ea:At8 K "sign" ↑bR x1 x2 x3 x4 x5 x6 x7 x8) (cQ:At8 K "signs_at" ↑bt x1 x2 x3 x4 x5 x6 x7 x8) (aK:At8 K "marked" ↑bW x1 x2 x3 x4 x5 x6 x7 x8) (Nh:findIn K (.ref y1) "place"=some ↑aU) (Ni:findIn K (.ref y1) "clues"=some ↑bk) (Nj:findIn K (.ref y1) "rules"=some ↑bT) (Nk:findIn K (.ref y1) "has_clues"=some ↑aT) (Nl:findIn K (.ref x1) "holds"=some ↑bc) (Nz:findIn K (.ref x2) "holds"=some ↑bd) (Nm:findIn K (.ref x3) "holds"=some ↑bp) (Nt:findIn K (.ref x4) "holds"=some ↑bs) (Nr:findIn K (.ref x5) "holds"=some ↑br) (Nv:findIn K (.ref x8) "has_two_beside"=some ↑bS) (No:findIn K (.ref x6) "is_joined"=some ↑aI) (Nw:findIn K (.ref x8) "is_joined"=some ↑aI) (Nc:findIn K (.ref x7) "holds"=some ↑bE) (Np:findIn K (.ref x6) "holds"=some ↑aO) (Ny:findIn K (.ref x8) "holds"=some ↑aV) (Ng:findIn K (.ref y1) "meets"=some ↑aG) (ai:At8 K "amount" none x1 x2 x3 x4 x5 x6 x7 x8) (ap:At8 K "cells" none x1 x2 x3 x4 x5 x6 x7 x8) (aq:At8 K "floor" none x1 x2 x3 x4 x5 x6 x7 x8) (aA:At8 K "mark" none x1 x2 x3 x4 x5 x6 x7 x8) (ar:At8 K "words" none x1 x2 x3 x4 x5 x6 x7 x8) (au:findIn K (.ref y1) "floor"=some none) (ao:findIn K (.ref y1) "given"=some none) (ax:findIn K (.ref y1) "laws"=some none) (D0:De K "is_whole" wR) (D1:De K "many_cells" sV) (D2:De K "spot_of" y9) (D3:De K "square_at" uD) (D4:De K "bit_of" BN) (D5:De K "stands" BO) (D6:De K "clashes" za) (D7:De K "masks_at" wS) (D8:De K "clue_strikes" pN) (D9:De K "are_told_in_order" j6) (cY:De K "with_sign" uE) (eh:De K "place_mores" rb) (di:De K "all_but" zb) (dq:De K "is_within" uF) (dO:Me K "__init__" "Rule.__init__" or ad) (cZ:Me K "name" "Rule.name" uG aP) (cJ:Me K "spots" "Rule.spots" sW aQ) (dQ:Me K "number" "Rule.number" rd cb) (eH:Me K "sign" "Rule.sign" uH bR) (da:Me K "signs_at" "Rule.signs_at" ot bt) (aJ:Me K "marked" "Rule.marked" re bW) (eG:De K "number_in" uI) (fe:Me K "place" "Puzzle.place" pO aU) (cR:Me K "clues" "Puzzle.clues" pP bk) (eO:Me K "rules" "Puzzle.rules" pQ bT) (eI:Me K "has_clues" "Puzzle.has_clues" kU aT) (cz:De K "_law_cell_at" pR) (cV:De K "_law_kinds" sX) (eX:De K "_law_order" sY) (db:De K "_law_alike" sZ) (dV:De K "is_from_one_to" m7) (en:De K "beside" BU) (fc:De K "is_corner" uJ) (cI:De K "full_mask" uK) (ez:De K "without" zc) (ep:De K "signs_in" wY) (cv:De K "is_cell" zd) (dP:De K "goes_by" ze) (fq:De K "others" BX) (eD:De K "many_may" wZ) (fA:De K "ahead_of" w5) (eF:De K "behind" BY) (cP:De K "with_each_sign" nc) (ev:De K "cells_to_try" pS) (fr:Me K "holds" "Unlike.holds" pT bc) (eZ:Me K "holds" "Sum.holds" uL bd) (eE:Me K "holds" "Rising.holds" pU bp) (fx:Me K "holds" "Seen.holds" tm bs) (es:Me K "holds" "Count.holds" rg br) (cU:De K "number_within" ou) (eC:De K "is_filling" tp) (dl:De K "_law_row" xf) (co:De K "floor_of" xg) (ec:De K "squares" zg) (dT:De K "reached" zh) (eB:De K "full" F4) (ew:De K "has_only" xh) (fy:De K "struck" B0) (eR:De K "is_settled" tq) (dx:De K "ways" F6) (dW:De K "sign_by" zi) (eb:De K "is_sign" zj) (ee:De K "is_no_greater" ow) (eS:De K "is_no_less" tu) (ek:De K "pair_strikes" pV) (fn:De K "sum_strikes" rh) (dX:De K "around" B1) (ft:De K "turn_mores" tw) (ed:De K "pair_mores" tz) (fw:De K "rule_numbers" pW) (fp:Me K "has_two_beside" "Ring.has_two_beside" jb bS) (cx:De K "first_within" pX) (eo:De K "told_cells" tD) (dU:De K "rule_by" zk) (eU:De K "checked_clues" ox) (eT:De K "filling_by" tE) (dR:De K "many_only" uM) (dy:De K "only_strikes" pY) (fz:De K "place_strikes" oy) (fo:De K "step_strikes" pZ) (eM:De K "rest_of_square" ng) (er:De K "is_another_with_only" im) (dc:De K "only_mores" tF) (em:De K "square_mores" p5) (dd:De K "reach_mores" rj) (bz:Me K "is_joined" "Joined.is_joined" kW aI) (du:Me K "holds" "NoSquare.holds" nh bE) (fs:De K "cells_of" xq) (cH:De K "checked_floor" oz) (dK:De K "strikes_by_line" lP) (eN:De K "count_strikes" oA) (dp:De K "square_strikes" ni) (eY:De K "reach_strikes" oB) (eg:De K "turn_strikes" p6) (cX:De K "mores_to_try" p7) (eJ:Me K "holds" "Joined.holds" p9 aO) (eq:Me K "holds" "Ring.holds" tH aV) (et:De K "read_rule" uN) (eL:De K "ways_strikes" qb) (de:De K "strikes_by_region" j8) (bf:De K "read_rules" tI) (cd:Me K "meets" "Puzzle.meets" qc aG) (aZ:De K "strikes_by_number" j9) (bm:Me K "__init__" "Puzzle.__init__" lQ aE) (bh:De K "strikes" zl) (bg:De K "first_at" xz) (bx:De K "found_by_rule" oC) (aW:De K "first_found" rm) (aR:De K "think" Dd) (bA:De K "standstill" tK) (bv:De K "_law_settles" qd) (ci:De K "settles" zn) (cf:De K "_law_due" xB) (bV:De K "needed" B5) (aS:De K "law" xC) (aD:GT0 K "KINDS" iI) (Y:GT0 K "LINE_KINDS" iq) (L:GT0 K "NUMBER_KINDS" gr) (J:GT0 K "OF_ALL_CELLS" gp) (N:GT0 K "WITH_NUMBER" gQ) (ac:GT0 K "WITH_SIGN" gz) (u:GD0 w K "RULES_OF_KIND" gd_RULES_OF_KIND) (Nq:nsIn K mainGlobals "FIGURES"=some (some (.str (tx s!"0123456789") af))) (M3:nsIn K mainGlobals "MOST_CELLS"=some (some (.int 16 M))) (MV:nsIn K mainGlobals "MOST_FIGURES"=some (some (.int 9 B))) (M0:nsIn K mainGlobals "MOST_NUMBER"=some (some (.int 99 I))) (M4:nsIn K mainGlobals "MOST_RULES"=some (some (.int 12 P))) (Nd:nsIn K mainGlobals "MOST_SIDE"=some (some (.int 6 T))) (M5:nsIn K mainGlobals "MOST_SIGNS"=some (some (.int 6 O))) (Nf:nsIn K mainGlobals "MOST_WAYS"=some (some (.int 32 U))) (z:Zn K) (LT:PySem.W.tabIn K "_law_row"=some (c0,P0)) (LK:CdP K c0 P0) (LM:mainGlobals≠P0):
  ∃ fd:FuncData,(∀(s:Shared) (v:Value),BindsTo s fd ⟨[v],[]⟩ [("_law_script",v)])/\∀ aa:Heap,K.In aa->aa.Ns mainGlobals mg->aa.BuiltinsAt mg P0->FnOk l.prog w K mg aa CX0 16 fa fd ["_law_script"] (yr K):=by
 obtain⟨f,fd,a,F⟩:=aS.ex;have e:=dY.symm.trans (PySem.W.mg_of X G a);cases e;obtain⟨oc,od,kV,eQ,pm,an,ND,ct,fB,rfl,lk,fC⟩:=F.ex;refine⟨fnOf "law" "law" (c6 xC) (bZ xC) (aN xC) .none kV eQ pm an ND ct,λs v=>.of_eq rfl,λaa KB _ LB=>?_⟩;let Z:Z5:=⟨l.prog,w,K,mg,aa⟩;have b:Bt3 Z:=JK X G z;have LC:=LK.hd KB;let c:RO:=mkC x1 x2 x3 x4 x5 x6 x7 x8;let d:RP:=mkD y1;have CC:C8 K x1 x2 x3 x4 x5 x6 x7 x8:=⟨C.cl,as.cl,D.cl,ab.cl,R.cl,o.cl,q.cl,t.cl⟩;have MC:=b.ns Nq;have L0:=b.ns M3;have Lu:=b.ns MV;have LU:=b.ns M0;have L8:=b.ns M4;have LO:=b.ns Nd;have L1:=b.ns M5;have Mn:=b.ns Nf;have Ku:FldK Z.K c "amount":=fk8 CC ai;have Kv:FldK Z.K c "cells":=fk8 CC ap;have KA:FldK Z.K c "floor":=fk8 CC aq;have KN:FldK Z.K c "mark":=fk8 CC aA;have K9:FldK Z.K c "words":=fk8 CC ar;have KG:FldK Z.K d "floor":=⟨λ_ _=>⟨j.cl,au⟩⟩;have KQ:FldK Z.K d "given":=⟨λ_ _=>⟨j.cl,ao⟩⟩;have KU:FldK Z.K d "laws":=⟨λ_ _=>⟨j.cl,ax⟩⟩;have LN:=aD.of b;have Ma:=Y.of b;have LG:=L.of b;have Lw:=J.of b;have LV:=N.of b;have Mm:=ac.of b;have Li:=GD0.of (Z:=Z) u b;have KR:=Cw b D0;have Kp:=zN b D1;have Lg:=DZ b D2;have Mh:=BM b D3;have Lv:=FY b D4;have KD:=FZ b D5;have KI:=Ea b D6;have Ks:=Cz b D7;have Lx:=wT b D8;have K4:=qP b D9;have K3:=BP b cY;have LR:=yw b eh;have LQ:=Eb b di;have Mj:=BQ b dq;have ak:=vn b Ku Kv KA KN K9 dO;have MO:aM Z "Unlike" (c.A .Unlike) c:=ak.mke b C;have aH:aM Z "Sum" (c.A .Sum) c:=ak.mke b as;have MN:aM Z "Rising" (c.A .Rising) c:=ak.mke b D;have M9:aM Z "Seen" (c.A .Seen) c:=ak.mke b ab;have MY:aM Z "Count" (c.A .Count) c:=ak.mke b R;have MM:aM Z "Joined" (c.A .Joined) c:=ak.mke b o;have Mt:aM Z "NoSquare" (c.A .NoSquare) c:=ak.mke b q;have M8:aM Z "Ring" (c.A .Ring) c:=ak.mke b t;have eK:=BR b K9 cZ;have M7:FX Z c:=⟨λi S=>eK.at (c8 CC i) (at8 fg i) λ_ _ _ _ h=>⟨i,h⟩⟩;have ds:=zO b Kv cJ;have Kz:kH Z c:=⟨λi S=>ds.at (c8 CC i) (at8 fm i) λ_ _ _ _ h=>⟨i,h⟩⟩;have ff:=yx b Ku dQ;have K7:vm Z c:=⟨λi S=>ff.at (c8 CC i) (at8 eV i) λ_ _ _ _ h=>⟨i,h⟩⟩;have ey:=BS b KN eH;have KP:pM Z c:=⟨λi S=>ey.at (c8 CC i) (at8 ea i) λ_ _ _ _ h=>⟨i,h⟩⟩;have cr:=vo b Kv da;have KC:jX Z c:=⟨λi S=>cr.at (c8 CC i) (at8 cQ i) λ_ _ _ _ h=>⟨i,h⟩⟩;have MK:=fk1 (k:=.Joined) rfl Kv;have MT:=fk1 (k:=.Joined) rfl KN;have al:=kI (c:=(mk1 c .Joined)) b MK MT aJ;have MW:iX Z (mk1 c .Joined):=⟨λi S=>by cases pp S;exact al.at o.cl (at8 aK .Joined) λ_ _ _ _ h=>⟨.Joined,h⟩⟩;have MX:=fk1 (k:=.Ring) rfl Kv;have M2:=fk1 (k:=.Ring) rfl KN;have az:=kI (c:=(mk1 c .Ring)) b MX M2 aJ;have M6:iX Z (mk1 c .Ring):=⟨λi S=>by cases pp S;exact az.at t.cl (at8 aK .Ring) λ_ _ _ _ h=>⟨.Ring,h⟩⟩;have eW:=kI b Kv KN aJ;have KY:iX Z c:=⟨λi S=>eW.at (c8 CC i) (at8 aK i) λ_ _ _ _ h=>⟨i,h⟩⟩;have Mf:=BT b MC Lu eG;have fi:=wU (c:=c) b KG fe;have KK:md Z c d:=⟨λi S=>by cases i;exact fi.at j.cl Nh λ_ _ _ _ h=>h⟩;have fb:=wV (c:=c) b KQ cR;have MZ:Dc Z c d:=⟨λi S=>by cases i;exact fb.at j.cl Ni λ_ _ _ _ h=>h⟩;have cn:=wW (c:=c) b KU eO;have Kw:kG Z c d:=⟨λi S=>by cases i;exact cn.at j.cl Nj λ_ _ _ _ h=>h⟩;have cW:=rD (c:=c) b KQ eI;have Mq:uC Z c d:=⟨λi S=>by cases i;exact cW.at j.cl Nk λ_ _ _ _ h=>h⟩;have KS:=wX b cz;have KH:=zP b cV;have K0:=zQ b eX;have Ls:=zR b db;have Kx:=ub b KR dV;have Ky:=F0 b Lg en;have Mg:=BV b Lg fc;have Mi:=BW b Lv cI;have Lh:=Ec b Lv KD ez;have Ko:=CA b KD ep;have MG:=Ed b KR Kp cv;have MD:=Ee b M7 Li dP;have Kq:=F1 b Kz fq;have KM:=CB b KD eD;have Mu:=CD b Kz fA;have MP:=F3 b Kz eF;have Le:=uc b K3 cP;have LI:=w9 b Kp KK Kw Kz ev;have eu:=xa b KC fr;have el:=BZ b Ku KC eZ;have cp:=xc b KC eE;have cL:=zS b Ku KC fx;have eP:=yy b Ku KY es;have KO:=vp b Mf cU;have K1:=zT b KR Kp eC;have Mz:=CF b K0 LT LC LB LM dl;have Mv:=CG b Kx L0 LO L1 co;have KW:=Ef b Mg Kp Mh ec;have KJ:=Eg b Ky dT;have Nb:=Iz b Mi Kp eB;have Kt:=CH b Lh ew;have LJ:=F5 b Lh fy;have Mc:=zU b Ko eR;have Na:=IA b Ko dx;have ME:=Eh b Ko dW;have MF:=Ei b Kx eb;have Lj:=vq b Ko ee;have L3:=zV b Ko eS;have Lz:=xi b K4 Kq Ko ek;have LW:=yz b KI Ks Kq Ko K7 fn;have MQ:=F7 b Ky dX;have L7:=zW b Ky ft;have L6:=zX b Kq Ko Kz ed;have LL:=xj b MD Kw fw;have Md:=fk1 (k:=.Ring) rfl KA;have av:=oZ (c:=(mk1 c .Ring)) b Ky Md fp;have Mr:m6 Z (mk1 c .Ring):=⟨λi S=>by cases pp S;exact av.at t.cl Nv λ_ _ _ _ h=>h⟩;have La:=xk b KO cx;have L4:=zY b Kp KO eo;have MH:=Ej b MY MM Mt M8 MN M9 aH MO dU;have Lp:=vt b K1 eU;have Mb:=zZ b ME eT;have KF:=B3 b Kt dR;have Ly:=xn b Kt Kq dy;have Ll:=vv b MF KM Ks Kq Kz fz;have LA:=xo b Mu MP Lj L3 fo;have Ld:=ud b KW eM;have KZ:=nn b Kt MG er;have L5:=z4 b Kt Kq dc;have LD:=xp b KW em;have LS:=yA b Kt Kq KJ KD KP dd;have ML:=fk1 (k:=.Joined) rfl KA;have ah:=j7 (c:=(mk1 c .Joined)) b KJ ML bz;have MJ:kO Z (mk1 c .Joined):=⟨λi S=>by cases pp S;exact ah.at o.cl No λ_ _ _ _ h=>⟨.Joined,h⟩⟩;have aC:=j7 (c:=(mk1 c .Ring)) b KJ Md bz;have MU:kO Z (mk1 c .Ring):=⟨λi S=>by cases pp S;exact aC.at t.cl Nw λ_ _ _ _ h=>⟨.Ring,h⟩⟩;have fl:=ue b Mj KW KA KY du;have Mw:=CI b Kp L4 Lw fs;have Lq:=vw b Mv cH;have Lc:=tG b Lx Ly Lz Ll LA MZ KK Kw dK;have Lo:=vx b KM KF Ks Kq K7 KP eN;have Lf:=uf b KF Ks Ld KP dp;have Lm:=vy b KZ Kq KJ KD KP eY;have LE:=xt b MQ Ky Kt KM KF Ks KP eg;have LH:=xu b L5 L6 LR LS LD L7 KK Kw cX;have am:=xv (c:=(mk1 c .Joined)) b MJ MW eJ;have ay:=z5 (c:=(mk1 c .Ring)) b Mr MU M6 eq;have LY:yt Z c:=⟨λi S=>by cases i with | Rule=>exact(NV S).elim | Unlike=>exact eu.at C.cl Nl λ_ _ _ _ h=>h | Sum=>exact el.at as.cl Nz λ_ _ _ _ h=>h | Rising=>exact cp.at D.cl Nm λ_ _ _ _ h=>h | Seen=>exact cL.at ab.cl Nt λ_ _ _ _ h=>h | Count=>exact eP.at R.cl Nr λ_ _ _ _ h=>h | Joined=>exact am.at o.cl Np (λvs H Q E h=>by obtain⟨r,p,f,ws,cs,xs,n,m,h,w,g,e,x,y⟩:=h;exact⟨r,p,f,ws,cs,xs,n,m,h,w,g,e,⟨rfl,x.ex⟩,y⟩) | NoSquare=>exact fl.at q.cl Nc λ_ _ _ _ h=>h | Ring=>exact ay.at t.cl Ny (λvs H Q E h=>by obtain⟨r,p,f,ws,cs,xs,n,m,h,w,g,e,x,y⟩:=h;exact⟨r,p,f,ws,cs,xs,n,m,h,w,g,e,⟨rfl,x.ex⟩,y⟩)⟩;have Mp:=B4 b Mw La MH LU LV Mm et;have LF:=xw b KI Ks Kq Ko Na Le K3 Mn LY eL;have K6:=qQ b Lm Lf LE KK Kw de;have L9:=z6 b Mp L8 bf;have bY:=xy b K1 KG KU Mq LY cd;have LZ:yu Z c d:=⟨λi S=>by cases i;exact bY.at j.cl Ng λ_ _ _ _ h=>h⟩;have K5:=qR b Lo LW LF Kw aZ;have aX:=tJ b Lp Lq L9 KG KQ KU bm;have MS:lO Z "Puzzle" (d.A .Puzzle) c d:=aX.mke b j;have MI:=Ek b Lc K5 K6 Ma LG bh;have Mx:=CJ b LH MI bg;have Lr:=vz b LI KI Mx Ko LJ bx;have LX:=yB b Lr LL LN aW;have Lb:=GY b KI LX LJ aR;have K2:=z7 b Nb Lb KK bA;have KL:=xA b Lb LZ bv;have K8:=El b Mb Mc K2 LZ ci;have My:=CK b KH KL Lb cf;have MA:=F8 b LQ K8 K2 LN bV;exact(JP b Ls KS My KH K0 Mz KL MA K8 MS F).imp λvs H Q E h=>by obtain⟨a,ns,e,hS,hn,T9,k⟩:=h;exact⟨a,ns,e,hS,hn,λk hk=>by cases k <;> first | rfl | exact absurd rfl hk,rfl,T9,k⟩
def walk {q:Program} {c:List Str} {D:(Str->Option Value)->Heap->Prop} {m:World->Heap->Prop} {d:DefRec} {K:Params->Frag} {c0 e:Addr} (t:l.most=some 63) (i:d.params.defaults=[])
  (r:∀(w:World) (h:Heap),m w h->(K w.params).In h/\h.get? e=some (PySem.W.tabObj #[])) (y:∀ w:World,PySem.W.tabIn (K w.params) "_law_row"=some (c0,e)) (C:∀ w:World,CdP (K w.params) c0 e) (A:∀ w:World,(K w.params).lookup e=none)
  (F:∀(w:World) (g:Str->Option Value) (o:Addr) (h:Heap),(K w.params).In h->h.Ns mainGlobals g->g d.name=↑o->
   ∃ j:FuncData,(∀(s:Shared) (u:Value),BindsTo s j ⟨[u],[]⟩ [("_law_script",u)])/\∀ b:Heap,(K w.params).In b->b.Ns mainGlobals g->b.BuiltinsAt g e->FnOk l.prog w (K w.params) g b CX0 16 o j ["_law_script"] (yr (K w.params))):
  PySem.W.WalkO q c D m l.row.toRowW d [] (λf vs=>PySem.call f vs):=
 L2.GO (n:=63) (k:=16) (x:="_law_script") (CX:=λ_=>CX0) (sp:=λw=>yr (K w.params)) (c':=c0) t #[1] i ⟨rfl,by decide,by decide⟩ r A (λw h X=>(C w).tab X) F (λw _ a ns v B p=>⟨a,ns,rfl,p,v,by rw[Db (y w)];exact B,λ_=>rfl⟩) λ_ _ _ _ _ z=>z
variable{P:Program}{w:World}{K:Frag}{mg:Str->Option Value}{base:Heap}
def ug {w:World} {K:Frag} {p:Addr} {ep:Nat} {v:Int} {ad:Tok} {M:Addr} {W:Option Addr} {au:Nat} {Q:Array (Option Value)} {e:Tok} {Y:Int} {ah:Tok} {L:Addr} {A:Option Addr} {ap:Nat} {R:Array (Option Value)} {f:Tok} {t:Int} {ac:Tok} {I:Addr} {N:Option Addr} {ai:Nat} {S:Array (Option Value)} {l:Tok} {z:Int} {am:Tok} {H:Addr} {C:Option Addr} {av:Nat} {D:Array (Option Value)} {c:Tok} {F:Int} {ak:Tok} {T:Addr} {O:Option Addr} {ar:Nat} {s:Array (Option Value)} {g:Tok} {m:Int} {al:Tok} {o:Addr} {B:Option Addr} {aa:Nat} {P:Array (Option Value)} {i:Tok} {U:Int} {ao:Tok} {y:Addr} {Z:Option Addr} {as:Nat} {u:Array (Option Value)} {h j:Tok} {X:Int} {af:Tok} {G:Addr} {r:Option Addr} {ab:Nat} {x:Array (Option Value)} {k:Tok} {q:Int} {aq:Tok} {n:Addr} {J:Option Addr} {ax:Nat} {E:Array (Option Value)} {d:Tok}
  (a:nsIn K mainGlobals "RULES_OF_KIND"=some ↑p) (b:K.lookup p=some ⟨.type "dict",none,.dict #[⟨v,.str (tx s!"only") ad,.ref M⟩,⟨Y,.str (tx s!"place") ah,.ref L⟩,⟨t,.str (tx s!"count") ac,.ref I⟩,⟨z,.str (tx s!"step") am,.ref H⟩,⟨F,.str (tx s!"sum") ak,.ref T⟩,⟨m,.str (tx s!"square") al,.ref o⟩,⟨U,.str (tx s!"reach") ao,.ref y⟩,⟨X,.str (tx s!"turn") af,.ref G⟩,⟨q,.str (tx s!"pair") aq,.ref n⟩] ep,#[]⟩) (k0:K.lookup M=some ⟨.type "tuple",W,.seq #[.str (tx s!"unlike") e] au,Q⟩) (h0:v=hashStr w (tx s!"only")) (k1:K.lookup L=some ⟨.type "tuple",A,.seq #[.str (tx s!"unlike") f] ap,R⟩) (h1:Y=hashStr w (tx s!"place")) (k2:K.lookup I=some ⟨.type "tuple",N,.seq #[.str (tx s!"count") l] ai,S⟩) (h2:t=hashStr w (tx s!"count")) (k3:K.lookup H=some ⟨.type "tuple",C,.seq #[.str (tx s!"rising") c] av,D⟩) (h3:z=hashStr w (tx s!"step")) (k4:K.lookup T=some ⟨.type "tuple",O,.seq #[.str (tx s!"sum") g] ar,s⟩) (h4:F=hashStr w (tx s!"sum")) (k5:K.lookup o=some ⟨.type "tuple",B,.seq #[.str (tx s!"nosquare") i] aa,P⟩) (h5:m=hashStr w (tx s!"square")) (k6:K.lookup y=some ⟨.type "tuple",Z,.seq #[.str (tx s!"joined") h,.str (tx s!"ring") j] as,u⟩) (h6:U=hashStr w (tx s!"reach")) (k7:K.lookup G=some ⟨.type "tuple",r,.seq #[.str (tx s!"ring") k] ab,x⟩) (h7:X=hashStr w (tx s!"turn")) (k8:K.lookup n=some ⟨.type "tuple",J,.seq #[.str (tx s!"unlike") d] ax,E⟩) (h8:q=hashStr w (tx s!"pair")):GD0 w K "RULES_OF_KIND" gd_RULES_OF_KIND:=
 ⟨p,_,_,_,a,b,⟨rfl,rfl,rfl⟩,rfl,(.cons h0 k0 rfl rfl (OH (aC (OO rfl))) (.cons ⟨_,rfl⟩ .nil) (.cons h1 k1 rfl rfl (OH (aC (OO rfl))) (.cons ⟨_,rfl⟩ .nil) (.cons h2 k2 rfl rfl (OH (aC (OO rfl))) (.cons ⟨_,rfl⟩ .nil) (.cons h3 k3 rfl rfl (OH (aC (OO rfl))) (.cons ⟨_,rfl⟩ .nil) (.cons h4 k4 rfl rfl (OH (aC (OO rfl))) (.cons ⟨_,rfl⟩ .nil) (.cons h5 k5 rfl rfl (OH (aC (OO rfl))) (.cons ⟨_,rfl⟩ .nil) (.cons h6 k6 rfl rfl (OH (aC (OO rfl))) (.cons ⟨_,rfl⟩ (.cons ⟨_,rfl⟩ .nil)) (.cons h7 k7 rfl rfl (OH (aC (OO rfl))) (.cons ⟨_,rfl⟩ .nil) (.cons h8 k8 rfl rfl (OH (aC (OO rfl))) (.cons ⟨_,rfl⟩ .nil) .nil))))))))),by decide+kernel⟩
end L2
end
open PySem PySem.W PyProof.Rows
namespace PySem.W.Fast
theorem Z:True:=⟨⟩
section
local macro_rules|`(universe $x*)=>do return Lean.mkNullNode (<-x.mapM fun x=>do return (<-`(theorem $(Lean.mkIdent (.mkSimple s!"tw{x.getId.toString.foldl (fun n c=>n*62+if c<'A' then c.toNat+4 else if c<'a' then c.toNat-65 else c.toNat-71) 0}")):ident:True:=Z)).raw)
universe NsvEcEuhsUt DUzPJlf87Xa Rjnpkuybz73 Mzc1Vgio9EL T7FIPHUYTR3 PTkKECDIa9u KDjpohJUuIv CyCA0DnNHmV MErDTrBenDQ KY4iBqt2CRa Qnf1QvnrT68 Azopi9Gd8Y0 LCDisfz2Pbv E5CdhMv9NBi JHyARNnkrIm CtywRcUkq9G Uoi0sfFog5D Krk2zPWogEH Mfbihv3po6N B94q25kbg4G NhZwHOtdqD3 PQRluIYDI1j QOLYNeUEF7Y DsCSM9CthGt OnSdG22xQj0 QwlPSvFIUrA RvyTtxhCxEO Ks0FWTr0GzX F0jnChZVn7s Sooiiy8GNDS CVWR3Hvsxhp MTOstaQPf1l RD4X583eNyz HEWFbYz3aPD KyacqUdnCQY HGUcWcGmJgT TV3OPb7VA2O DDTAfeWcAkK JKGX9OwrSXM J6XVe9pouH6 VP7fHVaiFfj Rgz2efVPMm0 BpAIbz5kAPd UgaxyHp43IV DKsIunWcA6Y N2GUxpxIjID H0os3RCGDjk Kt7EmnETKS7 Ol5zZYEgiuA T4AYeiYkAWn QCsXEvKqA7w PneYL3uRBHt B0D4JKxuOKz TMwquDgxwxy GygQCWVU2bh L2pF7E7NEbD LvUSSXb0mLP E9kJPOHE5JW UJpV3qnwSag FVQCwvM4ddU JfEmwIYsxL2 T8yBrOLmfpj QaPRRTYbMQI PRLpO1qvnPC UfZG4HqPtXw KZ3F78Doopg OxW5qikNpXy DF19Z2S5eiY DbhjtltMKjn QGZofGNhlUj LiJQZOWOj9G R2CCAPFaSXL JhvnqHkcyEu G2u173WdkGZ MMcouziSi9a KgEbq2hKvfZ RJP3QYuMQPR CkAGhOh0KPj Jq0HVojpD8U KqEdiOOlG6a CaHMrPuRZIg RSGs7q8upv1 TIvthkOA92d Vc9loC7Dmlo TTxUUbEcBNO TVhQCcSj087 KKwhyTcwyN8 GQrafD8YLWj DD2Oj5BdItZ GMEC9SmshYw BBa1z9FmLFB KMCPNB71SQk ADLGfobK2IC VcKWhILYRwh Vq04SfbHsoy R4eVXZoEG0o VXaRggMdhP9 C4V0CS3SczG O2EAqhRWXDy ThzMak6ULkn DU99Uy0wtXL QdNg7ZgUqsK TJuo0MVcCIX BtWZ9LhOwO8 TBeojauetxP BDWKleaVrAs TIZnFWpaXW8 N8XnTarpbya LiAhLDyGWvc CZIyU9YdF8S CIWVXfl3FIX QVIUTe9599e Qrp2QAjEKsp MP1QDD4OtMl BUEuOOHyd95 KWIXCofK6MP Lm8ZwJEmktN DzmgIcMGaCM MWy6pTJy5ME BQUpApb15nR F8YkpFwbEch JQ8bVfRBKKQ D0T2AXI7o0D OSHf8xmw6IE U5wdiXCuH5x PTMpGk7vlr3 BGmStEoP1CM RAcdYU6mzJe NfuApj7YVjQ C5tYpJTn3EM QV8lZ89yLB9 S3HYZm6xh3D MlWaoM0FByg KgnE29uT9pa JmUN2Hu44sS J0eEvIGKAWI S0IXwqfMyjX JHalzbB7JJq LbSY5zkm7jl LZQiHRrgiY5 QLdw4X9ntr7 SoJsema6yal EGZWz2ExJWT Um3ODz2bXJG Kv9LTQM1OHs VNEHlsyb0p0 QFS2DOS7HnD IkDevD6sqrr DiZVhOMMctW A02t8kYiI7H LjKqJrc7xMI ToKavA3FLQU JUPL4O0y7n2 AYkTJI6OXoN AqADWJ9nSzj LdIwuT4w89h EgiU6zqoaEA Ltx4zwO8gUA FVqib2HFczo SUmkN79woBk R83CZ41lF3o ARlnYp1RMCW Mcel3YK0x3k Hz25yw7mGfe AUkWTu0jEvY JsqfJNML1iB Jte32YcJoaA D9osOkd6aH2 TpTL32PWrDq HZ3gCee3wkn LEqVIFF2xX4 DB79e3PpvhL G5URyzqO4zt DteqJwKGOJI N696n0HBiWp P3S9wKadxFv Mp54lg9VcrH FzXU63qmxYM Fy0LKSzvKza PtLaqvwLibm I62NgxgXiqn BsCQyFRHfhF I5EWthU3YU9 DrnUd1CnWDz AFsxO9jj02c Bd0HaTsQvwB EiN94hnE0el UOGpkwS7Q8B UvgqW4M31Jy Mzca9K44xN4 Rzbl0G3TFyp H20nWngTD25 Q88KQyNJrIE KnBjRoTpae1 Tm1ZHXfYABr QzRP0ORYq05 BjuLyni8rbJ K9X3qAULnYn VDT7IUjFmqf Hn0LqEC4gjJ OEcPmZkaIt7 BAyBfv4iBTx HD6FmU5c7HO E0giT4nxOXn DSb4MEDAkJS E2HkPQGkZvl NJOIxLa3bfn SAZmkDGUFUI OosWn0Fn6UO LibKS1yTDGL LnEaOz0xYDs EgItQZawjEO IEKdL9crRbz OcbN64lZd7N SSZxZy6xrZd B12uhppBTTZ UHQYlp6ZeaU TrKsn8O2xmq RHLFWlZXFlF KoRFTnoZ1i3 L30UBkeCbwy Qf8DVRCjNG4 MnkE6OgBEvU BQqDoXwMf80 AEfW6KaSuMj Ew4qJPHhykT TLOZSD9imEF AlJ7P97Nfws StWQbSkFC4y KLCoq0pRFGF GAtdhWjI5TX DmiuFEfyHf4 CoB3kzQwNIg Dj60pRcG6cr Sjer9Lrspaz UocSeykYO6x CaCXzI7RiSL AQaOcF3rdnB F8I1qyRphLt ADtHl6tHe8V D0zfqpCHZFQ C8QdXJn0PA1 QgxIOGPYoGq TWsNQoAsMRK OnciJT5ykjn MDwafWm7ZUm Uhg8XNXISlM EVNhziZ7MBl FdZ7nQQ6zZ3 MaAjCg43OII HI888zAdIhK TrHHRXRin5D QhJrjhjoz56 PDSlmIUqVJk HZu0xRjZf7B FRyUmVGfkJA SL8caiELsuE OJthg7B8ilU KbXp7iZACOR AXJOzQVLWQT Jj2p7yOKDNh LmNqrfhxc2o C7UIcqtqE0W L6CZMH0gqOO DBoA41FHYev BQf6ugoVmWU IQ6WJSmIe84 T0ZpBKQeD3M GcRFoApyAXB TH8mpXgqwSB BZNdn2uc9ID HSKIs4a3Ti9 NWA4MDQvZv0 Rze7bwJSiRs AITIN2ATwcH AkTzPoKyvnl K0YOr8MaDJe UIJIRjtPH5R OkCwD89fIzQ V5k3472RGuk NHfkQNu3UrV I4DVbbdJjEM LnYu7DzY5sd A1SDxgabJXd FtkAW0I5PZP Fk9JE4i2KJt PzFsqdhfj8l LD1sm8lJsE4 IEgq1Fx3vfZ Pmb5APxjoJR LgcO1HiaoDm ONZpRLHdGiS COENmrIcIIm G81b2wTTDhQ E3bZp2b1iSk EWaLSK5lTA8 AY1Wx9aCapi NH5hCij6pvf AqFtpaUIGaT UEldiTyUb86 KDT2phKHCy7 IVjtMoQh3xc GykAaiL7z6r BplHrJNRp1S VmgKP1JSIBs G1q2q6BuBCJ KjMJlG9Vgai LurroNqv6Rm BpCmqY5ATfp Bkwwess8nFH Rvtf1TZUalk KzsszixQuto ICxaY9qibnF Fa9z5uwshom BP30LexSXnJ Ms09eu8KJdF Fn1moGQiq5m RpFeeAZcXdU Qted4BYgwIc DNWflRLBXKY AFInRJktZq1 JQlsRBB6nVk M1e9Iidmj7L E8TYCrrgkXD E0YF4F7npa0 PcTRYDzUxpU TIzHKrYsikt BKnTpAon99C VwCdWfq7Zaz NfTHvGcXAYh RsLUNmMSpim SpqRnhUPARS AYo7b3BbRFr OysBoV5n498 N7lE5SN5EWK OU7fF9GOXeC K022aAyOjmh OOZV8xebnjS Ky60STzaZEy HqiKMFgbOEH TedWw2XSPh8 UjuH1TNCvHy SgrH7dVGrLd AJoPqO6HOj7 AW5MOA9e7Y1 ROfoeNKYOtg MRRgRJSV2iM DQRYYcyH1uB UWxCrjR5S69 SwW3AXTADUb AztZAeg0STX J83hu1lHTC9 L3aOj9itm9L CHy876FRFOB T5cenOCmnlZ IpBXjvD0QLl VFdsouxVBQq CZJZUwBjNeS AsN9opcaSxf Lv349Gepn13 L8RUKyl1Rbn EOr3HeiEayH QVBu6LwigNF OvYvwNlPhDU BgYaMj5F0yv Qfls2quPsyy GJGvvkSqrOP LkqrYWyDNgz MYqizPuEfEs E1YrGBBYtNq O6LneCwc2US Nx83mrf9NB6 B7RGK7mxkLv JfEqZ9dDpgz CxNdIRfQhXS RiiWrISXaTk VLg69uzgjmP LjtAwP3Qw3w Ee2of0Tllec QDRCG0YO7Ap Ca1RbKvta3S IbRZ1ggOQIz E5rnk3mOwc7 Oq0KTFhRizQ DK115RSWpH1 UG9U1pNBX0D Fl06nWxcMpm NUrLbsIETS0 OwICEvuD6V4 BJGZINYxHSk Q58cOdYm6Kc EsPkAS2VXcI BasU3mYTe6v KVu9fPfhOq5 N9v7J38RHIG M8Y9motoAFJ Lvuv8Oh2lTf QkYlvajEHsF UiFhRy0JjAd UvDHqKA4aqJ LeMfhL6GRDI G41irw3Hj3L NL8bgSajGzG Can0GbaRg8m APevO40PyGI UCPipKjP79p S6BqeBFA6XY OYkLIeCEj4c UBHLr2LRZmb H9bUr38Offk ToVlFTOEKND ALuPytfUXap BM6Zbkjnom8 EdC6M3B8ZkD KBnq8xWptAj P8MYZsOkXJs SLWc58K5vok BfFLkgL556Z DbyFMMvPrnQ FqGhnsvvDOG IamrSJTObkR SOH1Bns0LIc A0oKAV3nCj9 CN3KV5cr4hm TLiosxJTJUb PrvgIaCuG6t DP6D4qxO7pn DNZJIRqHG6K FxRIu1dLpwD VIbUg7Gqtel LStlGTJKZYE UdW9dqT12t0 OiNqT8iaWN2 M35WdurtVOH VjPwd9tmM4l SJz9YuOQjGB S1EFLTOv29S ERBgeL8569d H9Faoo8LZuL UVaacg1Lfi9 EIu059fcIbQ OzQmFWQfS1Z LjiYW5esDre FlOeDLMCrdR AgWJI3ycLy9 RUMfvAtRfAI KYNFh5MgvL4 QrXSb1ZyNLP RseZ20blht3 R5iele9GQaj HpjNYXb0d5K Br1RlqFUvAa PdterOucbQv PR52fptnzBk V8FHFWPvr69 K1fjNgnSlqM UqR1hbUvt9t CkJINSdDs4v MqX5dzqcJld GhVjyZRLFsT Tr1CGaAe65t Gvq8qqgb0hi VjBeUMSAl4a I6U4X39lEjo CxtRMSLmm7p QgCEEt1NbhN V3XorV3xMW6 JMWVyhSXoDn UuiKmR66B0J LRo3IE9yREl O2ESBJU6UcB IsLQU10qXVK CLanruAAaoI NcGoebz23sF C3QBwMEspRZ ElW7GMM3bKW GtB89MWxIVH Dd9X3jhvuuJ KjhjbLYIvB6 ACAF2xhNFCb GOywEJbgz3w GUKKthr6WD6 K75wVTXiUhg CscyFfWVgeG AKLp8p8GJmu LvIbZKoDg1W S1e1TrNDgN6 O3tb7O9Lxn9 RB7LFg2iCPj S0vXQZ4dliz HVEMpjwXEdu IlpH7ZuAN6c LNcKsFtnHoQ OnN9UgB04zk R7Juk8cijHT Ih3UckzI3sf IY9wVcSEYKK ML9BctHsK3B SLeLcQGZE1q IDB7RKaoPfs KpFZAoiUJTE M2OtIz6FzmH CyUpVr5H0cG CtdtTztzqZw SJjg5vGxFNZ EdSr0kn5zKd H5tVu8HwNFz L8QPRHgWjxN BjqN0MYPkID Onjv6isnSAa PGpGl1EgLR8 IoRhwltVLYN AQLP5XJd0Ri GkZ1kh5wpTc QOkid3z16FD Da674YcQmjJ Ir5GhqFjAgP BOgMUuRoyQu HZnnR9orX4x LooNPdDNkmk JkBIvygw9AR Uhc9p36FK66 CBQns38gSS7 FO2oPUW0NX8 GHHWhvd56UW FbLrYmfBVfX Qtd0FyewtSR N6JHrSsANRq SdHUOFpWLCE Mb1UiQ5sjMJ VG1kdq1DMdj BN5rhkOTXi7 GZulBt0uVrY UBarKkqyUpP LFhhKd1NiG6 MkVLjExX0Vq OVs8EE2l7K4 EbflhvCUnOe UZBoRxOXHcu UgNeDrlNDee UAP8PCJtKzS Q9Z9K2NA1sj Amn0ZRkovWt OJCuPkRVwzW ViLYyuMSodP DA2bHF0A6PM LgMgWuohn7u S4z2Bg37lMG S3bPexgPR3H UYYPB14lRaI AtXdxiw8YEy JXZ45pLB5kU KDPRmUy8vQV CEu5ZTdD0LE TtdBTnnOl6F BbrSsaKLEjr AYpoC8YZ4lv IMC5uyloBoC Ls1uQsYsHrz MSpHAMJtQdD PvACL3vVI8E QnIVHgnlB2n LjHuaDrs0Nh TUJv9kpvSLx GUZqRE7FwqO R5OZqdg9WMK TGHlc6Q40x4 Lombv7ne9Jn HeGIPDXfdqu S5qZRJgUjxP JMvfrbf6XcR An1zg1ZsiNf FfMgwlenKAh NsjLRXp1kA8 KORQwCF38Zw N9IrlZAy4Vz GARtqjCeuS4 K8UsD4PW3Qw RqCIM7VbftT RQoLEZ416sJ KPaVnxIr74C F53mcSYoqoo TF46STZxQJj J2jBa8fUw6B
end
end PySem.W.Fast
set_option maxRecDepth 100000 in
set_option maxHeartbeats 0 in
theorem PySem.Challenge.cw_cluemaker_k54_kinds_needed_holds : PySem.Challenge.rw_cluemaker_k54_kinds_needed.Holds := by
  w_on; o_law; k_head; (case hw => w_witness2)
  k_fill
  refine' L2.walk (l := PySem.Challenge.rw_cluemaker_k54_kinds_needed) (c0 := _) rfl rfl (fun w h Y => ⟨Y.1, Y.2 _ (List.Mem.head _)⟩) ?T ?C ?L ?F
  case T => intro w; (refine' L2.Bq ?a ?b ?e ?l ?v; (case a => k_is); (case b => k_is); (case e => rfl); (case l => k_is); case v => rfl)
  case C => intro w; (refine' L2.CdP.mk' ?a ?b ?d ?e ?f ?g ?i ?j ?k ?l; (case a => k_is); (case b => rfl); (case d => rfl); (case e => rfl); (case f => rfl); (case g => rfl); (case i => rfl); (case j => rfl); (case k => rfl); case l => decide)
  case L => intro w; first | k_is | rfl | decide
  case F =>
    intro w mg fa h KX G hmg
    refine' L2.JQ KX G hmg ?_ ?_ ?_ ?_ ?_ ?_ ?_ ?_ ?_ ?_ ?_ ?_ ?_ ?_ ?_ ?_ ?_ ?_ ?_ ?_ ?_ ?_ ?_ ?_ ?_ ?_ ?_ ?_ ?_ ?_ ?_ ?_ ?_ ?_ ?_ ?_ ?_ ?_ ?_ ?_ ?_ ?_ ?_ ?_ ?_ ?_ ?_ ?_ ?_ ?_ ?_ ?_ ?_ ?_ ?_ ?_ ?_ ?_ ?_ ?_ ?_ ?_ ?_ ?_ ?_ ?_ ?_ ?_ ?_ ?_ ?_ ?_ ?_ ?_ ?_ ?_ ?_ ?_ ?_ ?_ ?_ ?_ ?_ ?_ ?_ ?_ ?_ ?_ ?_ ?_ ?_ ?_ ?_ ?_ ?_ ?_ ?_ ?_ ?_ ?_ ?_ ?_ ?_ ?_ ?_ ?_ ?_ ?_ ?_ ?_ ?_ ?_ ?_ ?_ ?_ ?_ ?_ ?_ ?_ ?_ ?_ ?_ ?_ ?_ ?_ ?_ ?_ ?_ ?_ ?_ ?_ ?_ ?_ ?_ ?_ ?_ ?_ ?_ ?_ ?_ ?_ ?_ ?_ ?_ ?_ ?_ ?_ ?_ ?_ ?_ ?_ ?_ ?_ ?_ ?_ ?_ ?_ ?_ ?_ ?_ ?_ ?_ ?_ ?_ ?_ ?_ ?_ ?_ ?_ ?_ ?_ ?_ ?_
    all_goals first
      | (refine' L2.Bq ?a ?b ?e ?l ?v; (case a => k_is); (case b => k_is); (case e => rfl); (case l => k_is); case v => rfl)
      | (refine' L2.CdP.mk' ?a ?b ?d ?e ?f ?g ?i ?j ?k ?l; (case a => k_is); (case b => rfl); (case d => rfl); (case e => rfl); (case f => rfl); (case g => rfl); (case i => rfl); (case j => rfl); (case k => rfl); case l => decide)
      | (refine' L2.De.of ?a (L2.ED ?l ?c ?k); (case a => k_is); (case l => k_is); (case c => k_is); case k => k_is)
      | (refine' L2.Me.of (L2.ED ?l ?c ?k) ?n; (case l => k_is); (case c => k_is); (case k => k_is); case n => k_is)
      | (refine' L2.ClsP.mk ?a ?b ?c ?d ⟨?e, ?f, ?g, ?h⟩; (case a => k_is); (case b => k_is); (case c => k_is); (case d => k_is); (case e => k_is); (case f => k_is); (case g => k_is); case h => k_is)
      | (unfold L2.At8; refine' ⟨?_, ?_, ?_, ?_, ?_, ?_, ?_, ?_⟩ <;> k_is)
      | (refine' L2.GT0.mk' ?a ?b ?x ?y ?c ?d; (case a => k_is); (case b => k_is); (case x => rfl); (case y => rfl); (case c => exact Nat.le_of_lt (L2.aC (by decide))); (case d => repeat' (first | exact .nil | refine' .cons ⟨_, rfl⟩ ?_)))
      | (refine' L2.ug ?a ?b ?k0 ?h0 ?k1 ?h1 ?k2 ?h2 ?k3 ?h3 ?k4 ?h4 ?k5 ?h5 ?k6 ?h6 ?k7 ?h7 ?k8 ?h8; (case a => k_is); (case b => k_is); (case k0 => k_is); (case h0 => first | exact rfl | with_unfolding_all rfl); (case k1 => k_is); (case h1 => first | exact rfl | with_unfolding_all rfl); (case k2 => k_is); (case h2 => first | exact rfl | with_unfolding_all rfl); (case k3 => k_is); (case h3 => first | exact rfl | with_unfolding_all rfl); (case k4 => k_is); (case h4 => first | exact rfl | with_unfolding_all rfl); (case k5 => k_is); (case h5 => first | exact rfl | with_unfolding_all rfl); (case k6 => k_is); (case h6 => first | exact rfl | with_unfolding_all rfl); (case k7 => k_is); (case h7 => first | exact rfl | with_unfolding_all rfl); (case k8 => k_is); case h8 => first | exact rfl | with_unfolding_all rfl)
      | (unfold L2.Zn; refine' ⟨?_, ?_, ?_, ?_, ?_, ?_, ?_, ?_, ?_, ?_, ?_, ?_, ?_, ?_, ?_, ?_, ?_, ?_, ?_⟩ <;> (unfold L2.Nn; k_is))
      | (unfold L2.Nn; k_is)
      | k_is
      | decide
      | skip
