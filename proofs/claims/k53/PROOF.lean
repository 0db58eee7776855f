import PyProof.Rows.All
import Wide.All
import OpenK.AllK
import Wide.FinOn
import Lean
import PyProof.EqAt
import PyProof.EqKinds
import PyProof.TupleCall
import PyProof.ZipIter
import PyProof.ConsumeS
import PyProof.StrCalls2
import PyProof.StrWalks
import PyProof.SliceStr2
import PyProof.StrBlock
import PyProof.StrBlockL
import PyProof.ListIndex
import PyProof.StrLawsTight
import PyProof.StrLawsChain
import PyProof.StrLaws
import PyProof.StrLawsFirst
import PyProof.StationsW
import PyProof.ExcClass3
import PyProof.NsDelKeeps
import PyProof.RulesAs
import PyProof.ExcBaseAll.ValueError
import PyProof.ExcArgsOwn
import PyProof.ExcAttrAll.ValueError
import KE.KTryMore
import KE.RegKTryMore
import KE.RegKIsAll
import PyProof.Rows.Range3
import PyProof.Rows.SumGenD
import PyProof.Rows.RuleM_int
import PyProof.EnumMake
import PyProof.EnumFor
import PyProof.EnumStmt
import PyProof.Rows.EnumRows
import KE.KRevIter
import PyProof.ListNew
import PyProof.CollectIter
import PyProof.ListRange
import PyProof.CallStr
import PyProof.StrBlock2
import PyProof.Rows.StrMadeLen
import PyProof.Rows.SetFrom
import PyProof.SetRoads
import PyProof.MeetsStr2
import KE.KRevSl
import PyProof.Conv_int
import PyProof.WalkInts
import PyProof.Rows.SeqMore
import KE.KSortKey
import KE.KLam
import PySem.Challenge.RW_cluemaker_k53_whole_thinking_keeps_answe
set_option compiler.extract_closed false
set_option Elab.async false
set_option linter.all false
set_option maxRecDepth 100000
open PySem.W (Frag nsIn findIn fnOf isFn codeIn keepIn)
set_option maxHeartbeats 40000000
namespace O9
section
variable{A B C D E F I J:Type}{G a b c d e f g i:Prop}
theorem ex1{P:A->Prop}(h:∃a,P a)(k:∀a,P a->G):G:=h.elim k
theorem ex2{P:A->B->Prop}(h:∃a b,P a b)(k:∀a b,P a b->G):G:=h.elim fun a h=>ex1 h (k a)
theorem ex3{P:A->B->C->Prop}(h:∃a b c,P a b c)(k:∀a b c,P a b c->G):G:=h.elim fun a h=>ex2 h (k a)
theorem ex4{P:A->B->C->D->Prop}(h:∃a b c d,P a b c d)(k:∀a b c d,P a b c d->G):G:=h.elim fun a h=>ex3 h (k a)
theorem ex5{P:A->B->C->D->E->Prop}(h:∃a b c d e,P a b c d e)(k:∀a b c d e,P a b c d e->G):G:=h.elim fun a h=>ex4 h (k a)
theorem ex6{P:A->B->C->D->E->F->Prop}(h:∃a b c d e f,P a b c d e f)(k:∀a b c d e f,P a b c d e f->G):G:=h.elim fun a h=>ex5 h (k a)
theorem ex7{P:A->B->C->D->E->F->I->Prop}(h:∃a b c d e f g,P a b c d e f g)(k:∀a b c d e f g,P a b c d e f g->G):G:=h.elim fun a h=>ex6 h (k a)
theorem ex8{P:A->B->C->D->E->F->I->J->Prop}(h:∃a b c d e f g i,P a b c d e f g i)(k:∀a b c d e f g i,P a b c d e f g i->G):G:=h.elim fun a h=>ex7 h (k a)
theorem an2(h:a∧b)(k:a->b->G):G:=k h.1 h.2
theorem an3(h:a∧b∧c)(k:a->b->c->G):G:=an2 h.2 (k h.1)
theorem an4(h:a∧b∧c∧d)(k:a->b->c->d->G):G:=an3 h.2 (k h.1)
theorem an5(h:a∧b∧c∧d∧e)(k:a->b->c->d->e->G):G:=an4 h.2 (k h.1)
theorem an6(h:a∧b∧c∧d∧e∧f)(k:a->b->c->d->e->f->G):G:=an5 h.2 (k h.1)
theorem an7(h:a∧b∧c∧d∧e∧f∧g)(k:a->b->c->d->e->f->g->G):G:=an6 h.2 (k h.1)
theorem an8(h:a∧b∧c∧d∧e∧f∧g∧i)(k:a->b->c->d->e->f->g->i->G):G:=an7 h.2 (k h.1)
end
open Lean
abbrev PL:=Array (TSyntax ``Parser.Tactic.rcasesPatLo)
def ob(h:TSyntax `term)(ps:Array Syntax):MacroM Syntax:=do
 let n:=ps.size
 let mut xs:Array (TSyntax `ident):=#[]
 let mut q<-`(tactic|skip)
 for j in [0:n] do
  let r:=ps[n-1-j]![0]
  let p:=r[0][0]
  if p.isOfKind ``Parser.Tactic.rcasesPat.one&&p[0].getId != `rfl then xs:=xs.push ⟨p[0]⟩
  else if p.isOfKind ``Parser.Tactic.rcasesPat.ignore then xs:=xs.push (mkIdent `o0_)
  else
   let v:=mkIdent (<-Macro.addMacroScope (.mkSimple s!"e{j}"))
   xs:=xs.push v
   q<-`(tactic|(obtain $(⟨r⟩):rcasesPatMed:=$v:ident;$q))
 xs:=xs.reverse
 let x:=mkIdent `o1
 let mut t<-`(tactic|rcases $h:term with⟨$((ps.map (⟨·⟩):PL)),*⟩)
 let m:=min (n-1) 8
 let mut al:=#[(0,min n 8)]
 for j in [0:m] do al:=al.push (1,m-j)
 for j in [0:min n 8-2] do al:=al.push (0,min n 8-1-j)
 for (s,k) in al.reverse do
  let l:=mkIdent (.mkStr2 "O9" ((if s=1 then "ex" else "an")++toString k))
  let k:=k+s
  let (ys,r)<-if k=n then pure (xs,q) else
   let zs:PL:=(xs.extract (k-1) n).map fun y=>⟨mkNode ``Parser.Tactic.rcasesPatLo #[mkNode ``Parser.Tactic.rcasesPatMed #[mkNullNode #[mkNode ``Parser.Tactic.rcasesPat.one #[y]]],mkNullNode]⟩
   pure ((xs.extract 0 (k-1)).push x,(<-`(tactic|(obtain⟨$zs,*⟩:=$x:ident;$q))))
  t<-`(tactic|first|(refine $l $h ?_;(try clear $h);intro $ys*;$r)|($t:tactic))
 return t
def rn(ps:Array Syntax):MacroM Syntax:=do
 let n:=ps.size-1
 let t:=ps[n]![0]
 unless t.isOfKind ``Parser.Tactic.rcasesPat.tuple do Macro.throwUnsupported
 let mut xs:Array Term:=#[]
 for j in [0:n] do
  let p:=ps[j]![0]
  if p.isOfKind ``Parser.Tactic.rcasesPat.one&&p[0].getId != `rfl then xs:=xs.push ⟨p[0]⟩
  else if p.isOfKind ``Parser.Tactic.rcasesPat.ignore then xs:=xs.push ⟨mkNode ``Parser.Term.hole #[mkAtom "_"]⟩
  else Macro.throwUnsupported
 let x:=mkIdent `o2
 xs:=xs.push x
 `(tactic|(intro $xs*;obtain $(⟨mkNode ``Parser.Tactic.rcasesPatMed #[mkNullNode #[t]]⟩):rcasesPatMed:=$x:ident))
def W9(p:Prop):=p
theorem w9{p9:Prop}(h9:p9):W9 p9=True:=eq_true h9
theorem w8{p9:Prop}(h9:W9 p9):p9:=h9
end O9
section
local macro_rules|`(by%$k $t)=>if k.getTrailing?.any (·.toString=="\n ") then `(by refine @O9.w8 _ ?_;simp (disch:=k_dflt (refine @id _ ?_;($t))) only[↓O9.w9]) else Lean.Macro.throwUnsupported
local macro_rules|`(tactic|obtain⟨$ps,*⟩:=$h:term)=>let p:=ps.getElems.map (·.raw);if p.size<2||p.any (fun q=>q[0][0].getNumArgs != 1||q[1].getNumArgs>0) then Lean.Macro.throwUnsupported else O9.ob h p
local macro_rules|`(tactic|rintro $ps*)=>O9.rn (ps.map (·.raw))
namespace O9
open Lean
abbrev DS:=StateT (List Char) MacroM
def nx:DS Char:=do
 let l<-get
 set l.tail
 return l.head?.getD ' '
def num:DS Nat:=do
 let k<-get
 let r:=k.takeWhile (·.isDigit)
 set (k.drop (r.length+1))
 return r.foldl (fun x d=>10*x+(d.toNat-48)) 0
def hd(tb:List String):DS (Term×Nat):=do
 let c<-nx
 let c<-if "~'{}_".toList.contains c then pure (toString c++toString (<-nx)) else pure (toString c)
 let e:=((tb.find? (·.startsWith c)).getD "").toList.drop c.length
 let n:=String.ofList e.dropLast
 let r:=String.ofList (e.dropLast.drop 1)
 let m:Term:=if n="_" then ⟨mkNode ``Parser.Term.hole #[mkAtom "_"]⟩ else if n.startsWith "." then ⟨mkNode ``Parser.Term.dotIdent #[mkAtom ".",mkIdent r.toName]⟩ else if n.startsWith "%" then quote r else mkIdent n.toName
 return (m,(e.getLast?.getD '0').toNat-48)
def cmp(c:Char):MacroM Term:=do
 let t<-if c='>' then `(fun i j=>decide (j<i)) else if c='<' then `(fun i j=>decide (i<j)) else if c='(' then `(fun i j=>decide (i<=j)) else `(fun i j=>decide (j<=i))
 `($(mkIdent `cCmp) $t)
def ixs:Nat->DS (Array Term)
|0=>return #[]
|n+1=>do
 let c<-nx
 if c=' ' then return #[]
 let x<-if c='-' then `(none) else `(some $(quote (c.toNat-48)))
 return #[x]++(<-ixs n)
def dec(v:Name)(ts:Array Term)(tb:List String):Nat->DS Term
|0=>return mkIdent v
|n+1=>do
 let c<-nx
 if c.isDigit then `($(mkIdent v) $(quote (c.toNat-48)))
 else if c='|' then
  let d<-nx
  `($(mkIdent v) $(quote (d.toNat-87)))
 else if c='#' then return quote (<-num)
 else if c='`' then return ts[(<-nx).toNat-48]!
 else if c='$' then
  let t<-dec v ts tb n
  `(fun cl s H fp=>$t)
 else if c='!' then `(by decide)
 else if c='=' then `([])
 else if c=',' then
  let a<-dec v ts tb n
  let b<-dec v ts tb n
  `($(mkIdent `tCall) $a [] $(mkIdent `E0) $b)
 else if c='%' then `(by decide +kernel)
 else if c='@' then
  let t<-dec v ts tb n
  `(show ($t : List $(mkIdent `Str)).Nodup by decide +kernel)
 else if c='&' then
  let a<-ixs 99
  `([$a,*])
 else if "<>()".toList.contains c then cmp c
 else if c='.' then
  let d<-nx
  let t<-dec v ts tb n
  return ⟨mkNode ``Parser.Term.namedArgument #[mkAtom "(",mkIdent (if d='x' then `ix else .mkSimple (toString d)),mkAtom ":=",t,mkAtom ")"]⟩
 else
  modify (c::·)
  let (h,k)<-hd tb
  if k=0 then return h
  let mut a:=#[]
  for _ in [0:k] do a:=a.push (<-dec v ts tb n).raw
  return ⟨mkNode ``Parser.Term.app #[h,mkNullNode a]⟩
def tbR:List String:="atCons2 bK0 ctOp3 dtNil0 etC1 f.int1 gtSeq2 hgName1 ic0 jtRet1 kcIx0 ltTest1 mtAsg2 ntIfS3 otNext0 ptCB2 qcEq1 rd0 stLst1 tiList2 utComp5 v.str1 wtx1 xaH6 ycAdd0 zkLen0 AtB1 Bfalse0 Cc.ok0 DtBM5 E%list0 FcNe1 GtTrue0 HcMod0 I.bl1 JcIn2 KtFor3 LtAndV2 MtFldK3 NtDrop1 OcSub0 PtOr2 Qtrue0 Rbi0 StNot1 TcDiv0 Ud.ok0 VcMul0 WdU0 XtTup1 YtPart1 Zb42 *gG1 +kAll0 -gCons2 /%floor0 :tMake5 ;E00 ?tSl4 [kr0 ]bT1 ^sFldK4 ~akList0 ~btAnd2 ~cc.A1 ~daR2 ~e%rules0 ~fff3 ~ggq0 ~htOrV2 ~icV1 ~jcP1 ~kkIsi0 ~l.ty1 ~m%spots0 ~ngO2 ~odP1 ~p%sign0 ~qjq2 ~rjv1 ~sfJ1 ~t%amount0 ~u.non0 ~vsComp6 ~wtInG3 ~xtIf3 ~ygQ1 ~zf71 ~AgTup3 ~BgNil0 ~C%cells0 ~D%signs_at0 ~Egu2 ~FcO1 ~Ggw1 ~HfG1 ~I%number0 ~Jjp2 ~KkSum0 ~Lg91 ~M%marked0 ~Njr2 ~Ogt0 ~P%place0 ~Qkx3 ~RfH1 ~S%mark0 ~TiTup2 ~UoY1 ~Vlf1 ~W%str0 ~X%int0 ~YtNotV1 ~Ziy1 ~*%laws0 ~+%given0 ~-jw1 ~/kAny0 ~:iEnum2 ~;kq0 ~?lY1 ~[mw1 ~]%words0 ~^fX1 'ae91 'biH1 'cCP4 'doX0 'el01 'fsX1 'gcOr0 'hzE2 'i%is_joined0 'jjx2 'k%holds0 'lc72 'mjP1 'nnv1 'otGT2 'pgt_KINDS0 'qga1 'rkStr0 'sgK1 'tmy1 'umC1 'viStr1 'wtq0 'xmH1 'yrIsN0 'zgH0 'Aly1 'B.Unlike0 'C.Sum0 'D.Rising0 'E.Seen0 'F.Count0 'G.Joined0 'H.NoSquare0 'I.Ring0 'Jqj2 'Kot1 'Lg80 'MgN0 'NgI2 'Ovt0 'Pjz2 'Q%bool0 'R%tuple0 'Sox1 'TmJ2 'UiP1 'VlA2 'WiR1 'XcShr0 'YrS1 'ZrInS1 '*%name0 '+xn2 '-tIxG3 '/gd_RULES_OF_KIND0 ':qp1 ';gx2 '?j92 '[hX1 ']fY2 '^gy2 {afZ1 {bgR2 {coE2 {diX1 {erX2 {flD1 {ggS2 {htUn2 {iig2 {jii2 {kmN1 {l%has_two_beside0 {mhJ2 {niZip2 {o%has_clues0 {pmP3 {qlg3 {rcRepL0 {sik1 {tgU2 {uxB1 {vgW2 {wqm1 {xgB2 {yeJ1 {zgC2 {Asf1 {BgX2 {CgY2 {Dic2 {EiZ2 {FjS2 {GiV2 {HkA2 {IjQ2 {JjE1 {K%clues0 {LuG3 {MjG2 {NiT2 {OjK2 {PjI2 {QiI0 {RgD3 {SgJ0 {Tfm3 {Ufj3 {Vio2 {WlQ2 {Xip2 {Yi72 {ZlH2 {*kH2 {+lL2 {-kF1 {/jU1 {:lJ1 {;g73 {?jX3 {[oJ3 {]qr2 {^oM3 }arNotN0 }bj33 }cfbin3 }djZ3 }ei83 }frIn2 }gffin3 }hkJ3 }ithin3 }jkLenS1 }krIxL1 }lvC0 }md51 }nd61 }od71 }pd81 }qDn1 }rd91 }sgF1 }tDo1 }ueh1 }veH1 }wrM0 }xzw0 }ydk1 }zdm1 }Afw1 }Bfz1 }CqA6 }DtabP2 }E%_law_row0 }Fgb1 }GDp1 }Hgd1 }Ige1 }Jjd1 }Kgg1 }Ljg1 }MrIsB0 }N%meets0 }OuL3 }PqB3 }QuS3 }Rl63 }SrIxT1 }Tl73 }Ud.A1 }V.Puzzle0 }WcY3 }Xl83 }YlN1 }ZqC3 }*kMin0 }+nG3 }-nI3 }/sw3 }:sy3".splitOn " "
def tbF:List String:="arfl0 bab2 cac0 dhu0 eae1 fhr0 gad2 haf0 iai1 jkcal3 kak1 l_0 mkix3 nnd0 oao4 pav3 qap0 rOr.inl1 skset3 taq4 uaw1 var3 wau5 xaz4 yay1 zaA5 AaB1 BaF8 CBz.len_0 DaO0 EaI0 FaE0 GaT1 HaK4 Ibb1 JaX1 KaJ0 La70 Mbu6 NNo0 ONL0 PbU0 Qbr2 RbR2 SbQ1 Tbw5 UPq1 VcQ0 WbB0 Xd32 Ydb1 Zbv1 *bV5 +b60 -Or.inr1 /e51 :fD0 ;NE0 ?NF0 [bc0 ]Bz.range_0 ^gl1 ~aBz.list_0 ~be65 ~cJS0 ~diq0 ~ecW1 ~fdO1 ~gBz.all_0 ~hiu0 ~ibX5 ~jJR0 ~kfe2 ~ljn3 ~mfE0 ~nfC1 ~oJY0 ~plZ5 ~qe70 ~rlc2 ~sJU0 ~tcZ0 ~ua90 ~vdN3 ~wOw0 ~xOx0 ~yjm1 ~zkm1 ~Ap72 ~BJT0 ~CJ10 ~DfL4 ~ElX0 ~FJ00 ~GJV0 ~HKe0 ~Ijl0 ~JBz.isinstance_0 ~KeV0 ~Lme5 ~M.ty1 ~NfA1 ~Omf3 ~PJW0 ~Qrm0 ~RJ70 ~SJ50 ~TJ90 ~Uro2 ~VoS0 ~WJ30 ~XJX0 ~Yvn0 ~ZKi0 ~*ju0 ~+Bz.sorted_0 ~-ld0 ~/J40 ~:Kl0 ~;kn0 ~?JZ0 ~[J80 ~]Kt0 ~^oU= 'aKa0 'bJ60 'cvJ3 'dxg3 'eBz.enumerate_0 'fBz.tuple_0 'guw0 'hKb0 'izG1 'jKf0 'kKj0 'loq6 'mKg0 'nPk0 'oPl0 'pqc0 'qrL6 'rBz.set_0 'sng1 'tBz.sum_0 'uvw0 'vrG1 'wBz.any_0 'xzT0 'yKk0 'zBz.int_0 'AEe0 'BzD1 'CcR0 'DDS5 'EQA0 'FP30 'GP40 'Hvv0 'IxY3 'Jt40 'KKu0 'LKC0 'MKp0 'NKx0 'OzF3 'PKD0 'QKc0 'RKn0 'SLw0 'TKv0 'ULc0 'VK20 'W%int0 'X%bool0 'YBz.bool_0 'ZGR0 '*GT0 '+Ik1 '-CU0 '/Ij3 ':Bz.zip_0 ';rC0 '?vh4 '[B40 ']PySem.F.slot_list_pop0 '^PySem.F.type_list_pop0 {aEv0 {bLX0 {cIB0 {dMn0 {eIA4 {fKF0 {gLr0 {hHP0 {i%list0 {jLs0 {kLu0 {lKq0 {mEh0 {nJj2 {oHN0 {pLN0 {qL00 {rK_Sum0 {sLZ0 {tMq0 {uMb0 {vLY0 {wLE0 {xMp0 {yLO0 {zLF0 {AKG0 {BL10 {CLg0 {DLQ0 {ELv0 {FG43 {GKO0 {HLh0 {I%tuple0 {JLG0 {KKP0 {LMc0 {MKQ0 {NKH0 {OKS0 {PKR0 {QKy0 {RKm0 {SL30 {TK60 {UKU0 {VLl0 {WLi0 {XK70 {YLj0 {ZL40 {*%str0 {+Bz.str_0 {-zU0 {/QB0 {:PySem.F.slot_str_split0 {;PySem.F.type_str_split0 {?Eg0 {[K90 {]Lx0 {^LR0 }aLH0 }bMr0 }cFG0 }dKz0 }eKA0 }fKI0 }gKW0 }hLz0 }iLA0 }jKJ0 }kLa0 }lKY0 }mKL0 }nLo0 }oKK0 }pLp0 }qKw0 }rKZ0 }sKr0 }tKs0 }uK00 }vLS0 }wK10 }xLI0 }yGF0 }zGu2 }ALd0 }Bnc0 }CK30 }DKM0 }ELb0".splitOn " "
def run(s:String)(ts:Array Term):MacroM Term:=do
 let l:=s.toList
 let r:=l.head?==some ':'
 unless (r||(l.head?==some ';')) do Macro.throwUnsupported
 let (t,_)<-(dec (if r then `tVar else `pv) ts (if r then tbR else tbF) 500).run l.tail
 let h:=mkIdent `hr;let u:=mkIdent `hu;let n:=mkIdent `nd;if r then `(by exact $t) else `(fun $h $u $n=>by exact $t)
end O9
local macro_rules|`(tactic|ac_nf)=>`(tactic|dsimp only[$(Lean.mkIdent `L2.start):ident,List.map,List.length_cons,List.length_nil,Nat.reduceAdd,Nat.reduceSub,List.replicate_succ,List.replicate_zero,List.cons_append,List.nil_append])
local macro_rules|`(↑$x)=>`(some (.ref $x))
local macro_rules|`(⇑$x)=>`(some (.int $x))
local macro_rules|`(↥$x)=>`(some (.lst $x))
local macro_rules|`(∅)=>`(List Int)
local macro_rules|`(#[$ts,*])=>let a:=ts.getElems;match a[0]? with|none=>Lean.Macro.throwUnsupported|some e=>match e.raw.isStrLit? with|some s=>O9.run s (a.extract 1 a.size)|none=>match e.raw.isNatLit? with|some 0=>`(by omega)|some 4=>`(by lia)|some 1=>`(by decide)|some 3=>let i:=Lean.mkIdent;`(fun $(i `vs) $(i `H) $(i `Q) _=>$(a[1]!))|_=>Lean.Macro.throwUnsupported
local macro_rules|`(tactic|exists $t)=>if t.raw.isIdent then `(tactic|(ac_nf;unfold $(⟨t.raw⟩):ident;symm)) else `(tactic|(symm;refine $t))
local macro_rules|`(tactic|lia)=>`(tactic|first|lia-verbose|omega)
local macro_rules|`(s!$x)=>do
 let some s:=x.raw[0].isInterpolatedStrLit?|Lean.Macro.throwUnsupported
 `([$((s.toList.map fun c=>Lean.Syntax.mkNumLit (toString c.toNat)).toArray),*])
open List renaming length_map→MZ,getElem?_eq_getElem→M0,getElem?_eq_some_iff→M6,getElem?_map→M7,mem_of_getElem?→M8,all_eq_true→Na,mem_singleton→Nd,mem_filter→Nf,mem_cons→Ng,mem_cons_self→Nh,mem_cons_of_mem→Ni,mem_range→Nj,mem_map→Nl,length_filter_le→Np,mem_append→Ny,size_toArray→Nz,getElem_mem→NB,length_append→NG,map_map→NH,getElem?_eq_none→NI,length_cons→NJ,map_cons→NK,getElem?_append_left→NO,filter_append→NP,not_mem_nil→NR,mem_append_right→NT,getElem?_append_right→NW,filter_cons→NX,nodup_cons→NY,take_of_length_le→N0,lookup_cons→N5,take_length→N6,getElem?_range→N8,length_take→Oa,range_succ→Ob,length_range→Og,eq_nil_of_length_eq_zero→Oh,map_id'→Oi,append_assoc→Om,foldl_cons→Op,take_add_one→Oq,any_eq_true→Ou,mem_iff_getElem→Ov,ext_getElem?→OA,drop_eq_getElem_cons→OC,set_set→OD,nodup_append→OF,filter_cons_of_pos→OG,filter_map→OH,countP_eq_length_filter→OI,map_congr_left→OK,all_map→OL,sum_cons→OM,find?_cons→OR,map_append→OT,mem_append_left→OU,replicate_succ→OW,filter_eq_self→OX,filter_cons_of_neg→OZ,append_nil→O3,foldl_append→O6,mem_of_mem_take→O8,nodup_nil→Pa,take_succ→Pc,map_take→Pj,mem_filterMap→Pm,pairwise_cons→Pn,length_eq_zero_iff→Pp,any_eq_false→Pr,flatten_cons→Ps,findIdx_lt_length_of_exists→Pt,length_replicate→Pu,length_singleton→Pw,find?_eq_some_iff_getElem→PC,drop_length→PD,all_cons→PF,filterMap_cons→PQ,flatMap_append→PX,mergeSort_perm→PY,length_pos_iff→PZ,filter_filter→Qb,mem_of_find?_eq_some→Qe,filter_congr→Qj,pairwise_map→Qk,any_cons→Ql,set_comm→Qn,nodup_range→Qp,ext_getElem→Qq,mem_flatMap→Qr,getElem?_set_self→Qs,length_pos_of_mem→Qy,drop_eq_nil_of_le→Qz,of_mem_zip→QD,take_append_drop→QK,countP_mono_left→QL,map_id→QM,any_map→QV
open Bool renaming and_eq_true→M9,false_ne_true→Nc,true_and→Nv,false_and→Nw,eq_iff_iff→ND,not_eq_true'→Od,false_or→Of,not_false→OO,or_eq_true→OS,not_true→OV,true_or→Pg,and_self→PH
open Nat renaming le_trans→Nk,le_refl→Nr,lt_of_lt_of_le→NM,ne_of_lt→NS,le_of_lt→NU,le_of_ble_eq_true→N7,zero_le→Oc,lt_irrefl→Oj,lt_of_le_of_lt→Ot,lt_succ_of_lt→Oz,lt_succ_self→Pd,min_eq_right→Pf,le_add_right→PB,le_succ→PJ,mul_le_mul_right→PK,min_eq_left→PP,add_le_add_left→PU,ne_of_gt→P2,or_lt_two_pow→Qi,mul_le_mul→QN,succ_mul→QU
open Int renaming emod_lt_of_pos→NQ,emod_nonneg→NZ,toNat_natCast→N1,ediv_emod_unique→O9,mul_nonneg→Pb,zero_add→Pe,eq_ofNat_of_zero_le→Po,fdiv_eq_ediv_of_nonneg→P6,mul_ediv_add_emod→QH,ediv_lt_of_lt_mul→QI,one_mul→QO
open Option renaming map_eq_some_iff→Oy,map_some→QC
open Array renaming length_toList→Pi,getElem?_toList→QG
namespace L2
open PySem PySem.Spec PyProof.Rows
abbrev M2:=@decide_eq_false
abbrev M3:=@decide_eq_true
abbrev M4:=@decide_eq_true_eq
abbrev Nb:=@of_decide_eq_true
abbrev No:=@PySem.F.plainAttrs_list
abbrev Nq:=@Heap.get?_push_of_some
abbrev Nt:=@if_neg
abbrev NA:=@if_pos
abbrev NC:=@Heap.lt_size
abbrev NE:=@PySem.F.slot_list_append
abbrev NF:=@PySem.F.type_list_append
abbrev NL:=@PassesOwn.never
abbrev NN:=@Heap.get?_push_size
abbrev NV:=@wpAny_bind
abbrev N4:=@PyProof.Rows.callWith_type1
abbrev N9:=@wpAny_pure
abbrev Oe:=@decide_eq_false_iff_not
abbrev Ol:=@PySem.mem_of_lookup
abbrev On:=@wpAny_mono
abbrev Oo:=@PySem.W.kia_one
abbrev Os:=@wpAny_Call_Name_kw
abbrev Ow:=@PySem.F.slot_list_index
abbrev Ox:=@PySem.F.type_list_index
abbrev OB:=@Option.some.inj
abbrev OE:=@wpAny_truthy_bool
abbrev OJ:=@or_false
abbrev ON:=@Heap.size_push
abbrev OP:=@decide_eq_true_iff
abbrev OQ:=@wpAny_passesOwn
abbrev OY:=@wpAny_getItem_str_slice
abbrev O0:=@Calls.spliced_cons
abbrev O1:=@call_meets
abbrev O4:=@wpAny_pyIter_list
abbrev O5:=@Calls.spliced_nil
abbrev O7:=@beq_iff_eq
abbrev Ph:=@beq_eq_false_iff_ne
abbrev Pk:=@PySem.F.slot_list_extend
abbrev Pl:=@PySem.F.type_list_extend
abbrev Px:=@builtinLookup_eq_fast
abbrev Py:=@PyProof.Rows.callWith_builtin1
abbrev Pz:=@typeIs_str
abbrev PL:=@wpAny_execs_nil
abbrev PM:=@pushCells_keeps
abbrev PN:=@post_val_or_str
abbrev PR:=@PySem.W.plainGet_of
abbrev PV:=@ne_true_of_eq_false
abbrev P1:=@Ne.symm
abbrev P3:=@PySem.F.slot_int_bit_length
abbrev P4:=@PySem.F.type_int_bit_length
abbrev P5:=@Calls.Name_function_global
abbrev P7:=@PySem.W.callWith_K
abbrev P8:=@tupleKind_room_in1
abbrev P9:=@F.args_str_split_2
abbrev Qc:=@PySem.F.slot_dict_getitem
abbrev Qd:=@Decidable.byContradiction
abbrev Qf:=@Classical.byContradiction
abbrev Qg:=@Option.some.injEq
abbrev Qh:=@F.entry_str_split
abbrev Qm:=@wpAny_comprehension_free
abbrev Qo:=@F.slot_str_split
abbrev Qt:=@wpAny_Name
abbrev Qu:=@PySem.W.cellsFrom_some
abbrev Qv:=@subscriptTail_builtinR
abbrev Qw:=@Calls.callWith_builtin
abbrev Qx:=@Txt.slice_le
abbrev QA:=@PySem.F.plainAttrs_int
abbrev QB:=@PySem.F.plainAttrs_str
abbrev QE:=@typeLookup_type
abbrev QF:=@wpAny_storeName_local
abbrev QJ:=@PySem.W.methodCall_KW
abbrev QP:=@wpAny_standAt
abbrev QQ:=@Walks.list
abbrev QS:=@codeAny_mono
abbrev QT:=@if_true
abbrev QW:=@decide_false
abbrev Key:=Sum Int Str
def keyIs:Key->Value->Bool
 | .inl k,v=>Value.isInt k v
 | .inr x,v=>Value.isStrOf x v
def keyH(w:World):Key->Int
 | .inl k=>hashInt k
 | .inr x=>hashStr w x
theorem cU:∀{k:Key} {v:Value},keyIs k v=true->(∃ i t,k=Sum.inl i/\v=Value.int i t)\/(∃ x t,k=Sum.inr x/\v=Value.str x t)
 | .inl i,v,h=>by
  obtain⟨t,e⟩:=Value.isInt_shape (k:=i) (v:=v) h;exact .inl ⟨i,t,rfl,e⟩
 | .inr x,v,h=>by
  obtain⟨t,e⟩:=Value.isStrOf_shape (x:=x) (v:=v) h;exact .inr ⟨x,t,rfl,e⟩
theorem DD(i:Int)(t:Tok):keyIs (.inl i) (.int i t)=true:=by simp[keyIs,Value.isInt]
theorem DE(x:Str)(t:Tok):keyIs (.inr x) (.str x t)=true:=by simp[keyIs,Value.isStrOf]
theorem HC(a b:Int):decide ((Sum.inl a:Key)=Sum.inl b)=(a==b):=by
 by_cases e:a=b
 . subst e;simp
 . have h:¬ (Sum.inl a:Key)=Sum.inl b:=λq=>e (Sum.inl.inj q);rw[M2 h];exact(Ph.mpr e).symm
theorem HD(a b:Str):decide ((Sum.inr a:Key)=Sum.inr b)=decide (a=b):=by
 by_cases e:a=b
 . subst e;simp
 . have h:¬ (Sum.inr a:Key)=Sum.inr b:=λq=>e (Sum.inr.inj q);rw[M2 h,M2 e]
def HE(a:Int)(b:Str):decide ((Sum.inl a:Key)=Sum.inr b)=false:=M2 (λq=>nomatch q)
def HF(a:Str)(b:Int):decide ((Sum.inr a:Key)=Sum.inl b)=false:=M2 (λq=>nomatch q)
def gp(prog:Program)(w:World):PySem.KeyKind prog w Key where
 is:=keyIs
 hash:=keyH w
 inj:=λv a b f d=>by
  rcases cU f with ⟨i,t,rfl,rfl⟩ | ⟨x,t,rfl,rfl⟩
  . rcases cU d with ⟨j,u,rfl,e⟩ | ⟨y,u,rfl,e⟩
    . injection e with e1 _;rw[e1]
    . exact nomatch e
  . rcases cU d with ⟨j,u,rfl,e⟩ | ⟨y,u,rfl,e⟩
    . exact nomatch e
    . injection e with e1 _;rw[e1]
 byValue:=λk v h=>by
  rcases cU h with ⟨i,t,rfl,rfl⟩ | ⟨x,t,rfl,rfl⟩ <;> rfl
 pyHash:=λc h=>by
  rcases cU c with ⟨i,t,rfl,rfl⟩ | ⟨x,t,rfl,rfl⟩
  . exact wpAny_pyHash_int h
  . exact wpAny_pyHash_str h
 eqBool:=λg c h=>by
  rcases cU g with ⟨i,t,rfl,rfl⟩ | ⟨x,t,rfl,rfl⟩
  . rcases cU c with ⟨j,u,rfl,rfl⟩ | ⟨y,u,rfl,rfl⟩
    . rw[HC]at h;exact wpAny_eqBool_int h
    . rw[HE]at h;exact SeqAt.EqAt.int_str i t y u _ _ _ _ h
  . rcases cU c with ⟨j,u,rfl,rfl⟩ | ⟨y,u,rfl,rfl⟩
    . rw[HF]at h;exact SeqAt.EqAt.str_int x t j u _ _ _ _ h
    . rw[HD]at h;exact wpAny_eqBool_str h
 «strs»:=λk x t v h=>by
  rcases cU h with ⟨i,u,rfl,e⟩ | ⟨y,u,rfl,e⟩
  . exact nomatch e
  . injection e with e1 _;subst e1;cases v <;> rfl
def Bo(prog:Program)(w:World)(i:Int)(t:Tok):(gp prog w).is (.inl i) (.int i t)=true:=DD i t
def Bp(prog:Program)(w:World)(x:Str)(t:Tok):(gp prog w).is (.inr x) (.str x t)=true:=DE x t
inductive V where
 | non | bl (b:Bool) | int (i:Int) | str (x:Str) | byt (b:Array UInt8) | flt (b:UInt64) | ref (a:Addr) | ty (n:String)
 deriving DecidableEq
def RelV:V->Value->Prop
 | .non,u=>u=Value.none
 | .bl b,u=>u=Value.bool b
 | .int i,u=>∃ t,u=Value.int i t
 | .str x,u=>∃ t,u=Value.str x t
 | .byt b,u=>∃ t,u=Value.bytes b t
 | .flt b,u=>∃ t,u=Value.float b t
 | .ref a,u=>u=Value.ref a
 | .ty n,u=>u=Value.type n
abbrev Vals:List V->List Value->Prop:=Paired RelV
def Vals.length{xs:List V}{us:List Value}(r:Vals xs us):xs.length=us.length:=Paired.length r
theorem Vals.get:∀{xs:List V} {us:List Value} {i:Nat} {x:V},Vals xs us->xs[i]? =some x->∃ u,us[i]? =some u/\RelV x u
 | _,_,_,_,.nil,e=>by simp at e
 | _,_,0,_,.cons r _,e=>by simp at e;subst e;exact⟨_,rfl,r⟩
 | _,_,i+1,x,.cons _ t,e=>by
  obtain⟨u,h1,h2⟩:=Vals.get (i:=i) (x:=x) t (by simpa using e);exact⟨u,by simpa using h1,h2⟩
theorem Vals.append:∀{xs ys:List V} {us a:List Value},Vals xs us->Vals ys a->Vals (xs++ys) (us++a)
 | _,_,_,_,.nil,s=>s
 | _,_,_,_,.cons r t,s=>.cons r (Vals.append t s)
theorem Vals.take:∀{xs:List V} {us:List Value} (n:Nat),Vals xs us->Vals (xs.take n) (us.take n)
 | _,_,0,_=>.nil
 | _,_,_+1,.nil=>.nil
 | _,_,n+1,.cons r t=>.cons r (Vals.take n t)
theorem Vals.drop:∀{xs:List V} {us:List Value} (n:Nat),Vals xs us->Vals (xs.drop n) (us.drop n)
 | _,_,0,r=>r
 | _,_,_+1,.nil=>.nil
 | _,_,n+1,.cons _ t=>Vals.drop n t
def RelO:Option V->Option Value->Prop
 | some v,some u=>RelV v u
 | none,none=>True
 | _,_=>False
def KV{κ:Type}:List (κ × V)->List (κ × Value)->Prop:=Paired λ(p:κ × V) (q:κ × Value)=>p.1=q.1/\RelV p.2 q.2
def kV:Key->V
 | .inl i=>.int i
 | .inr x=>.str x
inductive HO where
  | lst (xs:List V)
  | tup (xs:List V)
  | dK (MR:List (Key × V)) | dT (MR:List (List Key × V))
  | set (S:Int->Bool) (n:Nat)
  | ins (C dx:Addr) (fs:List (Str × V))
  | own (x:Addr)
  | xd (fs:List (Str × V))
  | met (f x:Addr)
  | rng (lo hi:Int)
  | frz (o:Obj) (u:HO)
  | tbl (ps:Array Value)
  | ext (φ:Heap->Prop)
abbrev Hp:=Addr->Option HO
def upd(H:Hp)(a:Addr)(o:HO):Hp:=λb=>if b=a then some o else H b
variable{H:Hp}{a:Addr}
theorem ah{o:HO}:upd H a o a=some o:=by unfold upd;rw[NA rfl]
variable{b:Addr}
theorem aj{o:HO}(h:b≠a):upd H a o b=H b:=by unfold upd;rw[Nt h]
theorem ax{o:HO}(h:H a=some o)(h':H b=none):a≠b:=by
 intro e;subst e;rw[h]at h';cases h'
section
variable(P:Program)(w:World)
def ObjOk(H:Hp)(h:Heap)(a:Addr):HO->Prop
 | .lst xs=>xs.length<=sizeLine/\∃(MS:List Value) (n:Nat),Vals xs MS/\h.get? a=some {cls:=.type "list",data:=.seq MS.toArray n}
 | .tup xs=>xs.length<=sizeLine/\∃ MS:List Value,Vals xs MS/\IsTup h a MS.toArray
 | .dK c=>c.length<=sizeLine/\(a==sysModules)=false/\∃ vs,KV c vs/\h.DictOf (gp P w) a vs
 | .dT c=>c.length<=sizeLine/\(a==sysModules)=false/\∃ xs:List (List Key × Addr × Value),
   Paired (λ(p:List Key × V) (q:List Key × Addr × Value)=>p.1=q.1/\H q.2.1=some (.tup (p.1.map kV))/\RelV p.2 q.2.2) c xs/\
   ∃ o e k,h.get? a=some o/\o.ExactDict/\o.data=.dict e k/\e.toList=xs.map (entryOfKey (tupleKind (gp P w)))/\(xs.map (·.1)).Nodup
 | .set S n=>h.SetOf (intKind P w) a S n
 | .ins C d fs=>H d=some (.own a)/\fs.length<=1000/\d≠a/\h.get? a=some (PySem.W.instObj C d)/\
   ∃ b,h.Ns1 d b/\(∀ f,RelO (fs.lookup f) (b f))/\PySem.Within b (fs.map (·.1))
 | .own _=>∃ o,h.get? a=some o
 | .xd fs=>∃ b,h.Ns1 a b/\∀ f,RelO (fs.lookup f) (b f)
 | .rng g i=>∃ t u v,h.get? a=some {cls:=.type "range",data:=.fields #[.int g t,.int i u,.int 1 v]}
 | .frz o u=>h.get? a=some o/\ObjOk H h a u
 | .tbl j=>h.get? a=some {cls:=.none,data:=.fields j}
 | .met f x=>h.get? a=some (PySem.W.methodObj (.ref f) (.ref x))
 | .ext φ=>φ h/\(∃ o,h.get? a=some o)/\∀ h1 h2:Heap,φ h1->(∀ o,h1.get? a=some o->h2.get? a=some o)->φ h2
def HOk(H:Hp)(h:Heap):Prop:=∀ a o,H a=some o->ObjOk P w H h a o
end
section
variable{P:Program}{w:World}{H H':Hp}{h h':Heap}{a:Addr}{o:HO}
theorem ObjOk.lt(x:ObjOk P w H h a o):a<h.objs.size:=by
 cases o with
 | lst c=>obtain⟨_,_,_,_,e⟩:=x;exact NC e
 | tup c=>obtain⟨_,_,_,p⟩:=x;exact p.lt
 | dK d=>obtain⟨_,_,_,_,o,_,_,e,_⟩:=x;exact NC e
 | dT d=>obtain⟨_,_,_,_,o,_,_,e,_⟩:=x;exact NC e
 | set S n=>obtain⟨o,_,_,_,e,_⟩:=x;exact NC e
 | ins C j b=>obtain⟨_,_,_,e,_⟩:=x;exact NC e
 | own y=>obtain⟨_,e⟩:=x;exact NC e
 | xd b=>obtain⟨_,⟨_,_,_,e,_⟩,_⟩:=x;exact NC e
 | rng i k=>obtain⟨_,_,_,e⟩:=x;exact NC e
 | frz g u=>obtain⟨e,_⟩:=x;exact NC e
 | tbl l=>exact NC (show h.get? a=some _ from x)
 | met f y=>exact NC (show h.get? a=some _ from x)
 | ext φ=>obtain⟨_,⟨_,e⟩,_⟩:=x;exact NC e
theorem Paired.mapP{α β:Type}{F G:α->β->Prop}:∀{c:List α} {d:List β},Paired F c d->(∀ a b,F a b->G a b)->Paired G c d
 | _,_,.nil,_=>.nil
 | _,_,.cons r t,f=>.cons (f _ _ r) (Paired.mapP t f)
theorem ObjOk.stay (x:ObjOk P w H h a o) (k:∀ b u,(b=a\/H b=some (.own a))->h.get? b=some u->h'.get? b=some u)
  (J:∀ b,H b=some (.own a)->H' b=some (.own a)) (F:∀ b xs,H b=some (.tup xs)->H' b=some (.tup xs)):ObjOk P w H' h' a o:=by
 induction o with
 | lst xs=>obtain⟨z,s,n,r,e⟩:=x;exact⟨z,s,n,r,k _ _ (.inl rfl) e⟩
 | tup xs=>obtain⟨z,s,r,g,e,c⟩:=x;exact⟨z,s,r,g,k _ _ (.inl rfl) e,c⟩
 | dK G=>obtain⟨z,y,vs,r,g,i,j,e,c⟩:=x;exact⟨z,y,vs,r,g,i,j,k _ _ (.inl rfl) e,c⟩
 | dT G=>
  obtain⟨z,y,xs,r,g,i,j,e,c⟩:=x;exact⟨z,y,xs,Paired.mapP r λp q z=>⟨z.1,F _ _ z.2.1,z.2.2⟩,g,i,j,k _ _ (.inl rfl) e,c⟩
 | set S n=>obtain⟨g,i,j,t,e,c⟩:=x;exact⟨g,i,j,t,k _ _ (.inl rfl) e,c⟩
 | ins C L D=>
  obtain⟨d,z,I,e,m,⟨l,i,j,e2,c⟩,r⟩:=x;exact⟨J _ d,z,I,k _ _ (.inl rfl) e,m,⟨l,i,j,k _ _ (.inr d) e2,c⟩,r⟩
 | own y=>obtain⟨g,e⟩:=x;exact⟨g,k _ _ (.inl rfl) e⟩
 | xd D=>obtain⟨m,⟨l,i,j,e,c⟩,r⟩:=x;exact⟨m,⟨l,i,j,k _ _ (.inl rfl) e,c⟩,r⟩
 | rng K M=>obtain⟨t,u,v,e⟩:=x;exact⟨t,u,v,k _ _ (.inl rfl) e⟩
 | frz g u E=>obtain⟨e,q⟩:=x;exact⟨k _ _ (.inl rfl) e,E q⟩
 | tbl A=>
  have e:h.get? a=some {cls:=.none,data:=.fields A}:=x;show h'.get? a=some {cls:=.none,data:=.fields A};exact k a _ (.inl rfl) e
 | met f y=>
  have e:h.get? a=some (PySem.W.methodObj (.ref f) (.ref y)):=x;show h'.get? a=some (PySem.W.methodObj (.ref f) (.ref y));exact k a _ (.inl rfl) e
 | ext φ=>obtain⟨p,⟨o,e⟩,B⟩:=x;exact⟨B _ _ p λo q=>k _ _ (.inl rfl) q,⟨o,k _ _ (.inl rfl) e⟩,B⟩
def HOk.lt(x:HOk P w H h)(e:H a=some o):a<h.objs.size:=(x a o e).lt
theorem HOk.fresh(x:HOk P w H h)(e:h.objs.size<=a):H a=none:=by
 cases q:H a with
 | none=>rfl
 | some u=>exact absurd (NM (x.lt q) e) (Oj _)
def HOk.kept(x:HOk P w H h)(k:∀ b u,h.get? b=some u->h'.get? b=some u):HOk P w H h':=λa o e=>
 (x a o e).stay (λb u _ q=>k b u q) (λ_ q=>q) λ_ _ q=>q
def HOk.laid(x:HOk P w H h)(k:∀ b u,h.get? b=some u->h'.get? b=some u)(i:h.objs.size<=a)(d:ObjOk P w (upd H a o) h' a o):HOk P w (upd H a o) h':=λb u e=>by
 have f:=x.fresh i;by_cases g:b=a
 . subst g;rw[ah]at e;cases e;exact d
 . rw[aj g]at e;exact(x b u e).stay (λc v _ q=>k c v q) (λc q=>by rw[aj (ax q f)];exact q) λc j q=>by rw[aj (ax q f)];exact q
end
def Rd(H:Hp)(a:Addr)(u:HO):Prop:=H a=some u\/∃ o,H a=some (.frz o u)
variable{h:Heap}
theorem Rd.ok{P:Program}{w:World}{u:HO}(r:Rd H a u)(x:HOk P w H h):ObjOk P w H h a u:=by
 rcases r with r | ⟨o,r⟩
 . exact x a u r
 . obtain⟨_,q⟩:=x a _ r;exact q
def Mut:Option HO->Prop
 | ↥_=>True
 | some (.dK _)=>True
 | some (.dT _)=>True
 | some (.set _ _)=>True
 | some (.ins _ _ _)=>True
 | some (.ext _)=>True
 | _=>False
section
variable{P:Program}{w:World}{H:Hp}{h h':Heap}{x e:Addr}{o':HO}
def HOk.write (s:HOk P w H h) (g:Mut (H x)) (p:e=x\/H e=some (.own x)) (k:∀ b u,b≠e->h.get? b=some u->h'.get? b=some u) (m:∃ u,h'.get? e=some u)
  (n:ObjOk P w (upd H x o') h' x o'):HOk P w (upd H x o') h':=λb u q=>by
 have d:∀ c y,H c=some (.own y)->c≠x:=λc y r z=>by subst z;rw[r]at g;exact g
 have f:∀ c i,H c=some (.tup i)->c≠x:=λc i r z=>by subst z;rw[r]at g;exact g
 by_cases l:b=x
 . subst l;rw[ah]at q;cases q;exact n
 . rw[aj l]at q;by_cases a:b=e
   . have o:H b=some (.own x):=by
      rcases p with z | z
      . exact absurd (a.trans z) l
      . rw[a];exact z
     rw[q]at o;cases o;obtain⟨v,t⟩:=m;exact⟨v,by rw[a];exact t⟩
   . refine(s b u q).stay (λc v j r=>k c v ?_ r) (λc r=>by rw[aj (d c b r)];exact r) λc i r=>by rw[aj (f c i r)];exact r
     rcases j with rfl | j
     . exact a
     . rintro rfl;rcases p with z | z
       . exact d c b j z
       . rw[j]at z;cases z;exact l rfl
end
structure Un(fs ex:List Addr)(H H':Hp)(h h':Heap):Prop where
 keep:∀ b o,h.get? b=some o->H b=none->b∉fs->b∉ex->h'.get? b=some o
 slot:∀ b o,h.get? b=some o->H b=none->b∈fs->b∉ex->∃ sl,h'.get? b=some {o with slots:=sl}
 free:∀ b o,h.get? b=some o->H b=none->b∉ex->H' b=none
 there:∀ b o,h.get? b=some o->b∉ex->∃ o',h'.get? b=some o'
 tups:∀ b xs,H b=some (.tup xs)->H' b=some (.tup xs)
 frzs:∀ b o u,H b=some (.frz o u)->H' b=some (.frz o u)
 tbls:∀ b ps,H b=some (.tbl ps)->∃ more,H' b=some (.tbl (ps++more))
section
variable{fs fs' ex ex':List Addr}{H H1 H2:Hp}{h h1 h2 h':Heap}{a x e:Addr}{o:HO}
theorem Un.any(u:Un fs ex H H1 h h1){b:Addr}{a:Obj}(q:h.get? b=some a)(n:H b=none)(d:b∉ex):∃ e,h1.get? b=some {a with slots:=e}:=by
 by_cases c:b∈fs
 . exact u.slot b a q n c d
 . exact⟨a.slots,u.keep b a q n c d⟩
def Un.kept(k:∀ b u,h.get? b=some u->h'.get? b=some u):Un fs ex H H h h':=
 ⟨λb a q _ _ _=>k b a q,λb a q _ _ _=>⟨a.slots,k b a q⟩,λ_ _ _ n _=>n,λb a q _=>⟨a,k b a q⟩,λ_ _ q=>q,λ_ _ _ q=>q,λ_ c q=>⟨#[],by rw[q];simp⟩⟩
def Un.refl:Un fs ex H H h h:=Un.kept λ_ _ q=>q
def Un.laid(k:∀ b u,h.get? b=some u->h'.get? b=some u)(d:h.objs.size<=a)(c:H a=none):Un fs ex H (upd H a o) h h' where
 keep:=λb u q _ _ _=>k b u q
 slot:=λb u q _ _ _=>⟨u.slots,k b u q⟩
 free:=λb u q n _=>by rw[aj (NS (NM (NC q) d))];exact n
 there:=λb u q _=>⟨u,k b u q⟩
 tups:=λb e q=>by rw[aj (ax q c)];exact q
 frzs:=λb u e q=>by rw[aj (ax q c)];exact q
 tbls:=λb f q=>⟨#[],by rw[aj (ax q c),q];simp⟩
theorem Un.write(c:Mut (H x))(m:e=x\/H e=some (.own x))(k:∀ b u,b≠e->h.get? b=some u->h'.get? b=some u)(d:∃ u,h'.get? e=some u):Un fs ex H (upd H x o) h h':=by
 have i:∀ b,H b=none->b≠x:=λb n z=>by subst z;rw[n]at c;exact c
 have g:∀ b,H b=none->b≠e:=λb n z=>by
  subst z;rcases m with r | r
  . exact i b n r
  . rw[n]at r;cases r
 have f:∀ b u,H b=some u->¬ Mut (some u)->b≠x:=λb u q l z=>by subst z;rw[q]at c;exact l c
 refine⟨λb u q n _ _=>k b u (g b n) q,λb u q n _ _=>⟨u.slots,k b u (g b n) q⟩,λb u q n _=>by rw[aj (i b n)];exact n,λb u q _=>?_,
  λb j q=>by rw[aj (f b _ q λz=>z)];exact q,λb u j q=>by rw[aj (f b _ q λz=>z)];exact q,λb p q=>⟨#[],by rw[aj (f b _ q λz=>z),q];simp⟩⟩
 by_cases a:b=e
 . subst a;exact d
 . exact⟨u,k b u a q⟩
end
def trk(h:Heap)(H:Hp):List Addr:=(List.range h.objs.size).filter λa=>(H a).isSome
def hidT(h:Heap)(H:Hp):Heap:=PySem.W.hideAll h (trk h H)
def DF(h:Heap)(H:Hp):(hidT h H).objs.size=h.objs.size:=PySem.W.hideAll_size _ _
variable{o:Obj}
def Fv(e:h.get? b=some o)(n:H b=none):(hidT h H).get? b=some o:=
 PySem.W.hideAll_get _ e λa=>by
  have q:(H b).isSome=true:=(Nf.mp a).2;rw[n]at q;simp at q
theorem GD(e:(hidT h H).get? b=some o):h.get? b=some o/\H b=none:=by
 have a:h.get? b=some o:=PySem.W.of_hideAll (trk h H) e;refine⟨a,?_⟩
 cases q:H b with
 | none=>rfl
 | some x=>
  have c:b∈trk h H:=Nf.mpr ⟨Nj.mpr (NC a),by simp[q]⟩;have z:(hidT h H).get? b=none:=PySem.W.hideAll_none (trk h H) c;rw[z]at e;cases e
def oR(g h:Heap)(L:Addr):List (Addr × Obj):=(List.range h.objs.size).filterMap λa=>if a=L\/(g.get? a).isSome=true then none else(h.get? a).map λo=>(a,o)
variable{L:Addr}
def tU{g:Heap}(h1:a≠L)(h2:g.get? a=none)(h3:h.get? a=some o):(a,o)∈oR g h L:=
 Pm.mpr ⟨a,Nj.mpr (NC h3),by simp[h1,h2,h3]⟩
theorem wZ{g:Heap}{p:Addr × Obj}(c:p∈oR g h L):p.1≠L/\g.get? p.1=none/\h.get? p.1=some p.2:=by
 obtain⟨b,_,e⟩:=Pm.mp c
 split at e
 . cases e
 . rename_i a
   cases q:h.get? b with
   | none=>rw[q]at e;simp at e
   | some u=>
    rw[q]at e;simp only[QC,Qg]at e;subst e;refine⟨λz=>a (.inl z),?_,q⟩;show g.get? b=none
    cases r:g.get? b with
    | none=>rfl
    | some v=>exact(a (.inr (by simp[r]))).elim
def Fw{g:Heap}:News g L h (oR g h L):=λp d=>let ⟨a,b,c⟩:=wZ d;⟨c,a,b⟩
structure Mod(K:Frag)(mg:Str->Option Value)(base:Heap):Prop where
 kin:K.In base
 glob:base.Ns mainGlobals mg
 blt:∃ mb,base.Ns builtinsNs mb/\∀ x:Str,x≠"__name__"->mb x=bootBuiltins x
 nolimit:base.NoLimit
structure Cx where
 prog:Program
 w:World
 K:Frag
 mg:Str->Option Value
 base:Heap
 A:Around
 N:List Str
 s₀:Shared
 H₀:Hp
 env:Env
 outer:List Env
 stack:List Env
 ex:List Addr
 fn:Str->Bool
 calm:Bool
 pn:List (Addr × Obj)
 xe:Value->Shared->Prop
def frs(l:List Env):List Addr:=l.filterMap (·.frame)
abbrev Cx.fs(X:Cx):List Addr:=frs X.outer
def Vis(a:Scope)(x:Str):Prop:=a.names.lookup x=some .local\/a.names.lookup x=some .cell\/a.names.lookup x=some .free
def Loc(a:Scope)(x:Str):Prop:=a.names.lookup x=some .local\/a.names.lookup x=some .cell
def Look(env:Env)(h:Heap)(m:Str->Option Value)(x:Str)(u:Value):Prop:=
 (env.kindOf x=some .local/\m x=some u)\/((env.kindOf x=some .cell\/env.kindOf x=some .free)/\∃ c,env.cells.lookup x=some c/\h.IsCell c (some u))
structure Cx.Ok(X:Cx):Prop where
 mod:Mod X.K X.mg X.base
 kind:X.env.scope.kind=.function
 glob:X.env.globals=mainGlobals
 blt:X.env.builtins=builtinsNs
 above:X.s₀.heap.objs.size<=X.env.locals
 inj:∀ x y c,X.env.cells.lookup x=some c->X.env.cells.lookup y=some c->x=y
 has:∀ x,(X.env.kindOf x=some .cell\/X.env.kindOf x=some .free)->∃ c,X.env.cells.lookup x=some c
 cab:∀ x c,X.fn x=true->X.env.cells.lookup x=some c->X.s₀.heap.objs.size<=c
 hd:X.calm=true->X.A.handled=none
 frames:X.A.frames=some X.stack
 stk:X.stack=X.outer\/(X.stack=X.env::X.outer/\X.env.frame=some X.env.locals)
 exf:∀ b∈X.ex,b≠X.env.locals/\∀ x c,X.env.cells.lookup x=some c->c≠b
 bs:∀ b o,X.base.get? b=some o->X.s₀.heap.get? b=some o/\X.H₀ b=none
 bsz:X.base.objs.size<=X.s₀.heap.objs.size
 noex:∀ b o,X.base.get? b=some o->b∉X.ex
 exfs:∀ b∈X.ex,b∉X.fs
 funs:X.s₀.heap.FunFrames X.base X.outer
 frf:∀ b∈X.fs,X.H₀ b=none
structure Inv(X:Cx)(MO:List (Addr × Obj))(σ:List (Option V))(H:Hp)(s:Shared):Prop where
 ok:X.Ok
 os:s.os=X.s₀.os
 bare:AllBare s.gens
 base:Un X.fs X.ex X.H₀ H X.s₀.heap s.heap
 loc:∃ m,s.heap.Ns X.env.locals m/\∀(i:Nat) (x:Str) (v:V),X.N[i]? =some x->σ[i]? =some (some v)->Vis X.env.scope x->∃ u,RelV v u/\Look X.env s.heap m x u
 cell:∀ x c,X.env.cells.lookup x=some c->∃ v,s.heap.IsCell c v
 free:H X.env.locals=none
 freeC:∀ x c,X.env.cells.lookup x=some c->H c=none
 pin:∀ p∈X.pn++MO,s.heap.get? p.1=some p.2/\H p.1=none/\p.1≠X.env.locals/\p.1∉X.fs/\∀ v,p.2.data≠.cell v
 hok:HOk X.prog X.w H s.heap
 len:σ.length=X.N.length
section
variable{X:Cx}{MO:List (Addr × Obj)}{σ:List (Option V)}{H H':Hp}{s:Shared}{h':Heap}
def Cx.Ok.nofr(c:X.Ok){b:Addr}{o:Obj}(e:X.base.get? b=some o):b∉X.fs:=λa=>by
 have:=(c.funs.mem a).1;rw[e]at this;cases this
def Inv.bs(I:Inv X MO σ H s):∀ b o,X.base.get? b=some o->s.heap.get? b=some o/\H b=none:=λb o e=>
 ⟨I.base.keep b o (I.ok.bs b o e).1 (I.ok.bs b o e).2 (I.ok.nofr e) (I.ok.noex b o e),I.base.free b o (I.ok.bs b o e).1 (I.ok.bs b o e).2 (I.ok.noex b o e)⟩
def Inv.bk(I:Inv X MO σ H s):∀ b o,X.base.get? b=some o->s.heap.get? b=some o:=λb o e=>(I.bs b o e).1
def Inv.mod(I:Inv X MO σ H s):Mod X.K X.mg X.base:=I.ok.mod
def Inv.kIn(I:Inv X MO σ H s):X.K.In s.heap:=I.ok.mod.kin.keeps I.bk
def Inv.fr(I:Inv X MO σ H s):∃ m,Fr X.base X.env.locals s.heap m:=
 let ⟨m,a,_⟩:=I.loc
 ⟨m,a,I.bk,Nk I.ok.bsz I.ok.above⟩
def Inv.lt(I:Inv X MO σ H s):X.env.locals<s.heap.objs.size:=let ⟨_,a,_⟩:=I.loc;a.lt
def Inv.sz(I:Inv X MO σ H s):X.s₀.heap.objs.size<=s.heap.objs.size:=Nk I.ok.above (NU I.lt)
def Inv.nofs(I:Inv X MO σ H s){a:Addr}(h:s.heap.objs.size<=a):a∉X.fs:=λb=>by
 obtain⟨_,o,c,_⟩:=I.ok.funs.mem b;exact absurd (NM (NC c) (Nk I.sz h)) (Oj _)
def Inv.cne(I:Inv X MO σ H s):∀ x c,X.env.cells.lookup x=some c->c≠X.env.locals:=λx c e z=>by
 obtain⟨v,o,f,d⟩:=I.cell x c e;obtain⟨m,⟨h,g,i,b,a,_⟩,_⟩:=I.loc;rw[z,b]at f;cases f;rw[a]at d;cases d
theorem Inv.funs(I:Inv X MO σ H s):s.heap.FunFrames X.base X.outer:=by
 have f:∀(l:List Env),(∀ b∈frs l,b∈X.fs)->X.s₀.heap.FunFrames X.base l->s.heap.FunFrames X.base l:=by
  intro l
  induction l with
  | nil=>intro _ _;trivial
  | cons q r h=>
   intro g i;obtain⟨j,⟨L,o,a,k,n,m⟩,p⟩:=i;have d:L∈X.fs:=g L (by unfold frs;rw[PQ,a];exact Nh);obtain⟨t,e⟩:=I.base.slot L o n (I.ok.frf L d) d λz=>I.ok.exfs L z d;exact⟨j,⟨L,_,a,k,e,m⟩,h (λb c=>g b (by unfold frs;rw[PQ,a];exact Ni _ c)) p⟩
 exact f X.outer (λ_ c=>c) I.ok.funs
theorem Inv.stack(I:Inv X MO σ H s):s.heap.FunFrames X.base X.stack:=by
 rcases I.ok.stk with e | ⟨e,b⟩
 . rw[e];exact I.funs
 . rw[e];obtain⟨m,a,_⟩:=I.loc;refine .cons (by rw[I.ok.kind];decide) b a ?_ I.funs;exact Heap.get?_none_of_le (Nk I.ok.bsz I.ok.above)
def Inv.stkSub(I:Inv X MO σ H s):∀ b∈frs X.stack,b∈X.env.locals::X.fs:=λb a=>by
 rcases I.ok.stk with e | ⟨e,c⟩
 . rw[e]at a;exact Ni _ a
 . rw[e]at a;unfold frs at a;rw[PQ,c]at a;exact a
def Inv.stkFree(I:Inv X MO σ H s):∀ b∈frs X.stack,H b=none:=λb a=>by
 rcases Ng.mp (I.stkSub b a) with e | a
 . rw[e];exact I.free
 . obtain⟨_,o,c,_⟩:=I.ok.funs.mem a;exact I.base.free b o c (I.ok.frf b a) λz=>I.ok.exfs b z a
def Inv.step {g':Array GenState} {t':Nat} {d':Drawn} {ch:List Addr} (I:Inv X MO σ H s)
  (t:∀ b∈ch,(b∈X.ex\/X.s₀.heap.objs.size<=b)/\b≠X.env.locals/\(∀ x c,X.env.cells.lookup x=some c->c≠b)/\∀ p∈X.pn++MO,p.1≠b)
  (h:∀ b o,b≠X.env.locals->b∉X.fs->b∉ch->s.heap.get? b=some o->H b=none->h'.get? b=some o)
  (A:∀ b o,b≠X.env.locals->b∈X.fs->b∉ch->s.heap.get? b=some o->H b=none->∃ M,h'.get? b=some {o with slots:=M}) (f:∀ b o,b∉ch->s.heap.get? b=some o->H b=none->H' b=none)
  (C:∀ b o,b∉ch->s.heap.get? b=some o->∃ F,h'.get? b=some F)
  (J:∀ b xs,H b=some (.tup xs)->H' b=some (.tup xs)) (E:∀ b o u,H b=some (.frz o u)->H' b=some (.frz o u)) (G:∀ b L,H b=some (.tbl L)->∃ more,H' b=some (.tbl (L++more)))
  (ns:∀ m,s.heap.Ns X.env.locals m->h'.Ns X.env.locals m) (P:HOk X.prog X.w H' h') (hg:AllBare g'):
  Inv X MO σ H' {s with heap:=h',gens:=g',drawn:=d',toks:=t'}:=by
 have K:∀ b o,X.s₀.heap.get? b=some o->b≠X.env.locals:=λb o e=>NS (NM (NC e) I.ok.above)
 have y:∀ b o,X.s₀.heap.get? b=some o->b∉X.ex->b∉ch:=λb o e a B=>by
  rcases(t b B).1 with z | z
  . exact a z
  . exact absurd (NM (NC e) z) (Oj _)
 have j:∀ x c,X.env.cells.lookup x=some c->∀ v,s.heap.IsCell c v->h'.IsCell c v:=λx c e v ⟨o,D,N⟩=>by
  have g:c∉ch:=λz=>(t c z).2.2.1 x c e rfl;by_cases R:c∈X.fs
  . obtain⟨M,q⟩:=A c o (I.cne x c e) R g D (I.freeC x c e);exact⟨_,q,N⟩
  . exact⟨o,h c o (I.cne x c e) R g D (I.freeC x c e),N⟩
 refine⟨I.ok,I.os,hg,⟨λb o e n B a=>?_,λb o e n B a=>?_,λb o e n a=>?_,λb o e a=>?_,λb xs e=>J b xs (I.base.tups b xs e),λb o xs e=>E b o xs (I.base.frzs b o xs e),λb L e=>?_⟩,?_,λx c e=>?_,?_,λx c e=>?_,λp T=>?_,P,I.len⟩
 . exact h b o (K b o e) B (y b o e a) (I.base.keep b o e n B a) (I.base.free b o e n a)
 . obtain⟨M,e1⟩:=I.base.slot b o e n B a;obtain⟨O,e2⟩:=A b _ (K b o e) B (y b o e a) e1 (I.base.free b o e n a);exact⟨O,e2⟩
 . obtain⟨F,e1⟩:=I.base.there b o e a;exact f b F (y b o e a) e1 (I.base.free b o e n a)
 . obtain⟨F,e1⟩:=I.base.there b o e a;exact C b F (y b o e a) e1
 . obtain⟨m1,e1⟩:=I.base.tbls b L e;obtain⟨Z,e2⟩:=G b _ e1;exact⟨m1++Z,by rw[e2,Array.append_assoc]⟩
 . obtain⟨m,Y,W⟩:=I.loc;refine⟨m,ns m Y,λi x v e1 e2 U=>?_⟩;obtain⟨u,r,l⟩:=W i x v e1 e2 U;refine⟨u,r,?_⟩;rcases l with l | ⟨k,c,e,z⟩
   . exact .inl l
   . exact .inr ⟨k,c,e,j x c e _ z⟩
 . obtain⟨v,z⟩:=I.cell x c e;exact⟨v,j x c e v z⟩
 . obtain⟨m,⟨o,_,_,D,_⟩,_⟩:=I.loc;exact f _ o (λz=>(t _ z).2.1 rfl) D I.free
 . obtain⟨v,o,D,N⟩:=I.cell x c e;exact f c o (λz=>(t c z).2.2.1 x c e rfl) D (I.freeC x c e)
 . obtain⟨e,n,S,Q,d⟩:=I.pin p T;have g:p.1∉ch:=λz=>(t p.1 z).2.2.2 p T rfl;exact⟨h p.1 p.2 S Q g e n,f p.1 p.2 g e n,S,Q,d⟩
theorem Inv.un{t':Nat}(I:Inv X MO σ H s)(u:Un X.fs [] H H' s.heap h')(d:HOk X.prog X.w H' h'):Inv X MO σ H' {s with heap:=h',toks:=t'}:=by
 obtain⟨m,⟨o,l,t,h,r⟩,_⟩:=id I.loc;obtain⟨v,i⟩:=u.any h I.free (by simp)
 exact I.step (g':=s.gens) (d':=s.drawn) (ch:=[]) (λ_ z=>nomatch z) (λb o _ f _ e n=>u.keep b o e n f (by simp)) (λb o _ f _ e n=>u.slot b o e n f (by simp)) (λb o _ e n=>u.free b o e n (by simp)) (λb o _ e=>u.there b o e (by simp)) u.tups u.frzs u.tbls (λp k=>by
  obtain⟨q,c,g,a,j⟩:=k;rw[h]at a;cases a;exact⟨_,c,g,i,j⟩) d I.bare
theorem Inv.call {g':Array GenState} {t':Nat} {d':Drawn} {ch:List Addr} (I:Inv X MO σ H s) (u:Un (frs X.stack) ch H H' s.heap h') (h:HOk X.prog X.w H' h') (l:AllBare g')
  (d:∀ b∈ch,(b∈X.ex\/X.s₀.heap.objs.size<=b)/\b≠X.env.locals/\(∀ x c,X.env.cells.lookup x=some c->c≠b)/\∀ p∈X.pn++MO,p.1≠b):
  Inv X MO σ H' {s with heap:=h',gens:=g',drawn:=d',toks:=t'}:=by
 obtain⟨m,⟨o,y,C,k,r⟩,_⟩:=id I.loc;obtain⟨D,i⟩:=u.any k I.free λz=>(d _ z).2.1 rfl
 exact I.step (ch:=ch) d (λb o i q a e n=>u.keep b o e n (λz=>(Ng.mp (I.stkSub b z)).elim i q) a) (λb o _ _ a e n=>u.any e n a) (λb o a e n=>u.free b o e n a) (λb o a e=>u.there b o e a) u.tups u.frzs u.tbls (λA v=>by
  obtain⟨B,g,j,f,t⟩:=v;rw[k]at f;cases f;exact⟨_,g,j,i,t⟩) h l
theorem Inv.turned {t':Nat} {it:Addr} (I:Inv X MO σ H s) (k:∀ b o,b≠it->s.heap.get? b=some o->h'.get? b=some o) (h:H it=none) (f:it≠X.env.locals)
  (h1:it∈X.ex\/X.s₀.heap.objs.size<=it) (h2:∀ x c,X.env.cells.lookup x=some c->c≠it) (h3:∀ p∈X.pn++MO,p.1≠it):Inv X MO σ H {s with heap:=h',toks:=t'}:=by
 have d:∀ b u,H b=some u->b≠it:=λb u e z=>by rw[z,h]at e;cases e
 refine I.step (g':=s.gens) (d':=s.drawn) (ch:=[it]) (λb i=>?_) (λb o _ _ a e _=>k b o (λz=>a (by simp[z])) e) (λb o _ _ a e _=>⟨o.slots,k b o (λz=>a (by simp[z])) e⟩) (λ_ _ _ _ n=>n)
  (λb o a e=>⟨o,k b o (λz=>a (by simp[z])) e⟩) (λ_ _ e=>e) (λ_ _ _ e=>e) (λb w e=>⟨#[],by rw[e];simp⟩) (λm l=>?_) (λb u e=>?_) I.bare
 . have e:b=it:=by simpa using i
   subst e;exact⟨h1,f,h2,h3⟩
 . obtain⟨o,g,t,j,r⟩:=l;exact⟨o,g,t,k _ o (P1 f) j,r⟩
 . refine(I.hok b u e).stay (λc v a q=>k c v ?_ q) (λ_ q=>q) λ_ _ q=>q;rcases a with z | z
   . rw[z];exact d b u e
   . exact d c _ z
def Inv.tok(I:Inv X MO σ H s)(t:Nat):Inv X MO σ H {s with toks:=t}:=I.un (h':=s.heap) (t':=t) Un.refl I.hok
def Inv.kept{t':Nat}(I:Inv X MO σ H s)(k:∀ b u,s.heap.get? b=some u->h'.get? b=some u):Inv X MO σ H {s with heap:=h',toks:=t'}:=I.un (Un.kept k) (I.hok.kept k)
def Inv.laid{a:Addr}{o:HO}{t':Nat}(I:Inv X MO σ H s)(k:∀ b u,s.heap.get? b=some u->h'.get? b=some u)(c:s.heap.objs.size<=a)(d:ObjOk X.prog X.w (upd H a o) h' a o):
  Inv X MO σ (upd H a o) {s with heap:=h',toks:=t'}:=I.un (Un.laid k c (I.hok.fresh c)) (I.hok.laid k c d)
def Inv.write {x e:Addr} {o:HO} {t':Nat} (I:Inv X MO σ H s) (d:Mut (H x)) (f:e=x\/H e=some (.own x)) (k:∀ b u,b≠e->s.heap.get? b=some u->h'.get? b=some u) (a:∃ u,h'.get? e=some u)
  (c:ObjOk X.prog X.w (upd H x o) h' x o):Inv X MO σ (upd H x o) {s with heap:=h',toks:=t'}:=I.un (Un.write d f k a) (I.hok.write d f k a c)
def Inv.pins_of{a:List (Addr × Obj)}(I:Inv X MO σ H s)(h:∀ p∈a,s.heap.get? p.1=some p.2/\H p.1=none/\p.1≠X.env.locals/\p.1∉X.fs/\∀ v,p.2.data≠.cell v):Inv X a σ H s:=
 ⟨I.ok,I.os,I.bare,I.base,I.loc,I.cell,I.free,I.freeC,λp b=>(Ny.mp b).elim (λz=>I.pin p (OU _ z)) (h p),I.hok,I.len⟩
theorem zB{N:List Str}(c:N.Nodup){i j:Nat}{x:Str}(a:N[i]? =some x)(b:N[j]? =some x):i=j:=by
 obtain⟨h1,e1⟩:=M6.mp a;obtain⟨h2,e2⟩:=M6.mp b;exact(List.getElem_inj c).mp (e1.trans e2.symm)
theorem xX {M:Model} {A:Around} {E:Value->Shared->Prop} {i:Nat} {x:Str} {v:V} {u:Value} {Q:Unit->Shared->Prop} (I:Inv X MO σ H s) (hN:X.N.Nodup) (O:X.N[i]? =some x) (t:Loc X.env.scope x) (r:RelV v u)
  (h:∀ s',Inv X MO (σ.set i (some v)) H s'->(∃ a,Heap.SameBut a s.heap s'.heap/\(a=X.env.locals\/X.env.cells.lookup x=some a))->Q () s') (hf:X.fn x=true\/X.env.scope.names.lookup x=some .local:=by first | exact .inl rfl | exact .inr rfl | assumption):wpAny M A (storeName X.env x u) Q E s:=by
 obtain⟨m,hn,hl⟩:=id I.loc;have S:(X.env.scope.kind==.class||(X.env.scope.kind==.module&&X.env.locals != X.env.globals))=false:=by rw[I.ok.kind];rfl
 have T:i<σ.length:=by rw[I.len];exact(M6.mp O).1
 have G:=I.cne
 have g:∀{a:Addr} {h':Heap},(∃ o,s.heap.get? a=some o/\H a=none)->Heap.SameBut a s.heap h'->HOk X.prog X.w H h':=λ{a h'} ha f b ob e=>by
  obtain⟨_,_,B⟩:=ha;refine(I.hok b ob e).stay (λc Y l q=>(f.2 c ?_).trans q) (λ_ q=>q) λ_ _ q=>q;rintro rfl;rcases l with rfl | l
  . rw[B]at e;cases e
  . rw[B]at l;cases l
 rcases t with C | C
 . refine QF C hn (λh' aa f=>?_) S;obtain⟨oL,_,_,ab,_⟩:=id hn;refine h _ ⟨I.ok,I.os,I.bare,⟨λb o e n D t=>?_,λb o e n D t=>?_,I.base.free,λb o e t=>?_,I.base.tups,I.base.frzs,I.base.tbls⟩,⟨_,aa,λj y v' e1 e2 e3=>?_⟩,λy c e=>?_,I.free,I.freeC,λp hp=>?_,g ⟨oL,ab,I.free⟩ f,by simpa using I.len⟩ ⟨_,f,.inl rfl⟩
   . exact(f.2 b (NS (NM (NC e) I.ok.above))).trans (I.base.keep b o e n D t)
   . obtain⟨sl,e1⟩:=I.base.slot b o e n D t;exact⟨sl,(f.2 b (NS (NM (NC e) I.ok.above))).trans e1⟩
   . obtain⟨Z,e1⟩:=I.base.there b o e t;exact⟨Z,(f.2 b (NS (NM (NC e) I.ok.above))).trans e1⟩
   . by_cases J:j=i
     . subst J;rw[O]at e1;cases e1;rw[Qs T]at e2;cases e2;exact⟨u,r,.inl ⟨C,by simp⟩⟩
     . rw[List.getElem?_set_ne (P1 J)]at e2;obtain⟨u',r',q⟩:=hl j y v' e1 e2 e3;refine⟨u',r',?_⟩;rcases q with ⟨k,e⟩ | ⟨k,c,e,z⟩
       . refine .inl ⟨k,?_⟩;have:y≠x:=λe=>J (zB hN e1 (e ▸ O));simp[this,e]
       . exact .inr ⟨k,c,e,z.sameBut f (G y c e)⟩
   . obtain⟨Y,z⟩:=I.cell y c e;exact⟨Y,z.sameBut f (G y c e)⟩
   . obtain⟨e,n,W,nf,d⟩:=I.pin p hp;exact⟨(f.2 p.1 W).trans e,n,W,nf,d⟩
 . have F:X.fn x=true:=by
    rcases hf with z | z
    . exact z
    . rw[z]at C;cases C
   obtain⟨c,l⟩:=I.ok.has x (.inl C);obtain⟨Y,z⟩:=I.cell x c l;refine wpAny_storeName_cell I.ok.kind C l z (λh' L f=>?_);obtain⟨oc,P,R⟩:=id z;refine h {s with heap:=h'} ⟨I.ok,I.os,I.bare,⟨λb o e n D t=>?_,λb o e n D t=>?_,I.base.free,λb o e t=>?_,I.base.tups,I.base.frzs,I.base.tbls⟩,⟨m,hn.sameBut f (P1 (G x c l)),λj y v' e1 e2 e3=>?_⟩,λy U e=>?_,I.free,I.freeC,λp hp=>?_,g ⟨oc,P,I.freeC x c l⟩ f,by simpa using I.len⟩ ⟨c,f,.inr l⟩
   . exact(f.2 b (NS (NM (NC e) (I.ok.cab x c F l)))).trans (I.base.keep b o e n D t)
   . obtain⟨sl,e1⟩:=I.base.slot b o e n D t;exact⟨sl,(f.2 b (NS (NM (NC e) (I.ok.cab x c F l)))).trans e1⟩
   . obtain⟨Z,e1⟩:=I.base.there b o e t;exact⟨Z,(f.2 b (NS (NM (NC e) (I.ok.cab x c F l)))).trans e1⟩
   . by_cases J:j=i
     . subst J;rw[O]at e1;cases e1;rw[Qs T]at e2;cases e2;exact⟨u,r,.inr ⟨.inl C,c,l,L⟩⟩
     . rw[List.getElem?_set_ne (P1 J)]at e2;obtain⟨u',r',q⟩:=hl j y v' e1 e2 e3;refine⟨u',r',?_⟩;rcases q with q | ⟨k,U,e,z'⟩
       . exact .inl q
       . refine .inr ⟨k,U,e,z'.sameBut f ?_⟩;rintro rfl;exact J (zB hN e1 (I.ok.inj _ _ _ e l ▸ O))
   . by_cases K:U=c
     . subst K;exact⟨_,L⟩
     . obtain⟨w2,z2⟩:=I.cell y U e;exact⟨w2,z2.sameBut f K⟩
   . obtain⟨e,n,W,nf,d⟩:=I.pin p hp;refine⟨(f.2 p.1 ?_).trans e,n,W,nf,d⟩;intro q;rw[q,P]at e;have q':oc=p.2:=OB e;exact d Y (by rw[← q'];exact R)
def zC {M:Model} {A:Around} {E:Value->Shared->Prop} {i:Nat} {x:Str} {v:V} {u:Value} {Q:Unit->Shared->Prop} (I:Inv X MO σ H s) (d:X.N.Nodup) (c:X.N[i]? =some x) (e:Loc X.env.scope x) (r:RelV v u)
  (h:∀ s',Inv X MO (σ.set i (some v)) H s'->Q () s') (b:X.fn x=true\/X.env.scope.names.lookup x=some .local:=by first | exact .inl rfl | exact .inr rfl | assumption):wpAny M A (storeName X.env x u) Q E s:=
 xX I d c e r (λs' a _=>h s' a) b
theorem Inv.call' {s':Shared} {ch:List Addr} (I:Inv X MO σ H s) (j:s'.os=s.os) (u:Un (frs X.stack) ch H H' s.heap s'.heap) (d:HOk X.prog X.w H' s'.heap) (i:AllBare s'.gens)
  (a:∀ b∈ch,(b∈X.ex\/X.s₀.heap.objs.size<=b)/\b≠X.env.locals/\(∀ x c,X.env.cells.lookup x=some c->c≠b)/\∀ p∈X.pn++MO,p.1≠b):Inv X MO σ H' s':=by
 obtain⟨h',g,h,f,k⟩:=s';have e:k=s.os:=j;subst e;exact I.call (g':=g) (t':=f) (d':=h) u d i a
end
abbrev XK:=Value->Option Addr->Hp->Prop
abbrev St:=List (Option V)
abbrev VK:=V->Hp->Prop
abbrev TE:=St->Hp->VK->Prop
abbrev TT:=St->Hp->(Bool->Hp->Prop)->Prop
abbrev TA:=St->Hp->(List V->Hp->Prop)->Prop
structure Ends where
 nx:St->Hp->Prop
 rt:VK
 bk:St->Hp->Prop:=λ_ _=>False
 ct:St->Hp->Prop:=λ_ _=>False
abbrev TS:=Ends->St->Hp->Prop
def EP(X:Cx)(b:List (Addr × Obj))(σ:St)(Q:VK)(u:Value)(s':Shared):Prop:=∃ v a,Inv X b σ a s'/\RelV v u/\Q v a
def TP(X:Cx)(c:List (Addr × Obj))(σ:St)(Q:Bool->Hp->Prop)(b:Bool)(s':Shared):Prop:=∃ a,Inv X c σ a s'/\Q b a
def AP(X:Cx)(b:List (Addr × Obj))(σ:St)(Q:List V->Hp->Prop)(us:List Value)(s':Shared):Prop:=∃ vs a,Inv X b σ a s'/\Vals vs us/\Q vs a
def SP(X:Cx)(c:List (Addr × Obj))(D:Ends)(f:Flow)(s':Shared):Prop:=
 match f with
 | .next=>∃ b a,Inv X c b a s'/\D.nx b a
 | .brk=>∃ b a,Inv X c b a s'/\D.bk b a
 | .cont=>∃ b a,Inv X c b a s'/\D.ct b a
 | .ret u=>∃ v b a,Inv X c b a s'/\RelV v u/\D.rt v a
def PE(X:Cx)(e:Expr)(t:TE):Prop:=
 ∀(a:List (Addr × Obj)) (s:Shared) (σ:St) (H:Hp) (Q:VK),Inv X a σ H s->t σ H Q->wpAny (model X.prog X.w) X.A (eval e X.env) (EP X a σ Q) X.xe s
def PT(X:Cx)(e:Expr)(t:TT):Prop:=
 ∀(a:List (Addr × Obj)) (s:Shared) (σ:St) (H:Hp) (Q:Bool->Hp->Prop),Inv X a σ H s->t σ H Q->wpAny (model X.prog X.w) X.A (isTrue e X.env (eval e X.env)) (TP X a σ Q) X.xe s
def PW(X:Cx)(e:Expr)(t:TT):Prop:=
 ∀(b:Sem Value) (a:List (Addr × Obj)) (s:Shared) (σ:St) (H:Hp) (Q:Bool->Hp->Prop),Inv X a σ H s->t σ H Q->wpAny (model X.prog X.w) X.A (isTrue e X.env b) (TP X a σ Q) X.xe s
def PW.pt{X:Cx}{e:Expr}{t:TT}(h:PW X e t):PT X e t:=h _
abbrev Pq:=@PW.pt
def PA(X:Cx)(c:List Expr)(t:TA):Prop:=
 ∀(a:Pos) (b:List (Addr × Obj)) (s:Shared) (σ:St) (H:Hp) (Q:List V->Hp->Prop),Inv X b σ H s->t σ H Q->wpAny (model X.prog X.w) X.A (spliced (backTo a (starEach c X.env))) (AP X b σ Q) X.xe s
def PS(X:Cx)(st:Stmt)(t:TS):Prop:=
 ∀(a:List (Addr × Obj)) (s:Shared) (σ:St) (H:Hp) (D:Ends),Inv X a σ H s->t D σ H->wpAny (model X.prog X.w) X.A (exec st X.env) (SP X a D) X.xe s
def PSs(X:Cx)(st:List Stmt)(t:TS):Prop:=
 ∀(a:List (Addr × Obj)) (s:Shared) (σ:St) (H:Hp) (D:Ends),Inv X a σ H s->t D σ H->wpAny (model X.prog X.w) X.A (execs st X.env) (SP X a D) X.xe s
def thn{α:Type}{t:Sem α}{Q b:α->Shared->Prop}{M:Model}{A:Around}{E:Value->Shared->Prop}{s:Shared}(h:wpAny M A t Q E s)(c:∀ a s,Q a s->b a s):wpAny M A t b E s:=On h c λ_ _ x=>x
section
variable{X:Cx}
def vB:Option (Option V)->(V->Prop)->Prop
 | some (some v),k=>k v
 | _,_=>False
theorem Gi{o:Option (Option V)}{k:V->Prop}(h:vB o k):∃ v,o=some (some v)/\k v:=by
 rcases o with _ | _ | v
 . cases h
 . cases h
 . exact⟨v,rfl,h⟩
def kR{o:Option (Option V)}{k:V->Prop}{v:V}(e:o=some (some v))(h:k v):vB o k:=by subst e;exact h
def tVar(i:Nat):TE:=λσ H Q=>vB σ[i]? λv=>Q v H
def tC(v:V):TE:=λ_ H Q=>Q v H
theorem HG{i:Nat}{x:Str}{pos:Pos}(o:X.N[i]? =some x)(t:Vis X.env.scope x)(f:(x==("__debug__":Str))=false:=by decide)(g:(x==("__classdict__":Str))=false:=by decide):PE X (.Name x pos) (tVar i):=by
 intro q s σ H Q I h;obtain⟨v,e,h⟩:=Gi h;obtain⟨m,n,k⟩:=I.loc;obtain⟨u,r,l⟩:=k i x v o e t;have d:EP X q σ Q u s:=⟨v,H,I,r,h⟩;rcases l with ⟨b,p⟩ | ⟨b,c,j,a⟩
 . exact Qt (wpAny_loadName_local I.ok.kind b n p d) f
 . rcases b with b | b
   . exact Qt (wpAny_loadName_cell I.ok.kind b j a d) f
   . exact Qt (wpAny_loadName_free I.ok.kind b j a d g) f
def af{i j pos}:PE X (.Constant (.int i) j pos) (tC (.int i)):=λ_ _ _ H _ I h=>wpAny_Constant_int ⟨.int i,H,I.tok _,⟨_,rfl⟩,h⟩
def bU{b j pos}:PE X (.Constant (.bool b) j pos) (tC (.bl b)):=λ_ _ _ H _ I h=>Constant_bool ⟨.bl b,H,I,rfl,h⟩
def rm{j pos}:PE X (.Constant .none j pos) (tC .non):=λ_ _ _ H _ I h=>Constant_none ⟨.non,H,I,rfl,h⟩
def aI{x j pos}:PE X (.Constant (.str x) j pos) (tC (.str x)):=λ_ _ _ H _ I h=>Calls.Constant_str ⟨.str x,H,I.tok _,⟨_,rfl⟩,h⟩
def Gl(X:Cx)(x:Str):Prop:=X.env.kindOf x=some .globalImplicit
def w5 {E:Value->Shared->Prop} {c:List (Addr × Obj)} {s:Shared} {σ:St} {H:Hp} {x:Str} {u:Value} {pos:Pos} {Q:Value->Shared->Prop} (I:Inv X c σ H s) (b:Gl X x) (a:X.mg x=some u) (h:Q u s)
  (d:(x==("__debug__":Str))=false:=by decide):wpAny (model X.prog X.w) X.A (eval (.Name x pos) X.env) Q E s:=
 P5 I.ok.kind b (Calls.loadGlobal_global (by rw[I.ok.glob];exact I.mod.glob.keeps I.bk) a h) d
theorem gj {E:Value->Shared->Prop} {e:List (Addr × Obj)} {s:Shared} {σ:St} {H:Hp} {x:Str} {u:Value} {pos:Pos} {Q:Value->Shared->Prop} (I:Inv X e σ H s) (c:Gl X x) (d:X.mg x=none) (f:bootBuiltins x=some u) (h:Q u s)
  (b:x≠"__name__":=by decide) (a:(x==("__debug__":Str))=false:=by decide):wpAny (model X.prog X.w) X.A (eval (.Name x pos) X.env) Q E s:=by
 obtain⟨g,h1,h2⟩:=I.mod.blt;exact P5 I.ok.kind c (Calls.loadGlobal_builtin (by rw[I.ok.glob];exact I.mod.glob.keeps I.bk) d (by rw[I.ok.blt];exact h1.keeps I.bk) ((h2 x b).trans f) h) a
theorem dQ{x:Str}{v:V}{u:Value}{pos:Pos}(b:Gl X x)(a:X.mg x=some u)(r:RelV v u)(c:(x==("__debug__":Str))=false:=by decide):PE X (.Name x pos) (tC v):=
 λ_ _ _ H _ I h=>w5 I b a ⟨v,H,I,r,h⟩ c
theorem me{x:Str}{v:V}{u:Value}{pos:Pos}(c:Gl X x)(d:X.mg x=none)(e:bootBuiltins x=some u)(r:RelV v u)(b:x≠"__name__":=by decide)(a:(x==("__debug__":Str))=false:=by decide):PE X (.Name x pos) (tC v):=
 λ_ _ _ H _ I h=>gj I c d e ⟨v,H,I,r,h⟩ b a
variable{a b:Expr}{ta tb:TE}{pos:Pos}
def tB(t:TE):TT:=λσ H Q=>t σ H λx a=>∃ c,x=.bl c/\Q c a
theorem aT{e:Expr}{t:TE}(h:PE X e t)(f:∀ a,isTrue e X.env a=(do let v ← a;standAt e.pos;holding [v] (truthy v)):=by intro _;rfl):PT X e (tB t):=by
 intro i s σ H Q I hw;refine isTrue_plain (thn (h i s σ H _ I hw) λv s1 ⟨x,b,g,r1,c⟩=>?_) (f _);obtain⟨d,rfl,q⟩:=c;cases r1;exact OE ⟨b,g,q⟩
variable{tA tB':TT}{rest:List Expr}
def tAnd(t u:TT):TT:=λσ H Q=>t σ H λc a=>if c=true then u σ a Q else Q false a
def tOr(t u:TT):TT:=λσ H Q=>t σ H λc a=>if c=true then Q true a else u σ a Q
def tNot(t:TT):TT:=λσ H Q=>t σ H λc a=>Q (!c) a
theorem km(d:PT X a tA):PW X (.BoolOp .And [a] pos) tA:=by
 intro f b s σ H Q I h;refine isTrue_and (thn (d b s σ H Q I h) λc s1 e=>?_)
 cases c with
 | true=>exact isTrue_and_nil e
 | false=>exact e
theorem e5(d:PT X a tA):PW X (.BoolOp .Or [a] pos) tA:=by
 intro f b s σ H Q I h;refine isTrue_or (thn (d b s σ H Q I h) λc s1 e=>?_)
 cases c with
 | false=>exact isTrue_or_nil e
 | true=>exact e
theorem lc(k:PT X a tA)(j:PW X (.BoolOp .And (b::rest) pos) tB'):PW X (.BoolOp .And (a::b::rest) pos) (tAnd tA tB'):=by
 intro i g s σ H Q I h;refine isTrue_and (thn (k g s σ H _ I h) λc s1 ⟨d,f,e⟩=>?_)
 cases c with
 | true=>exact j i g s1 σ d Q f e
 | false=>exact⟨d,f,e⟩
theorem d3(k:PT X a tA)(j:PW X (.BoolOp .Or (b::rest) pos) tB'):PW X (.BoolOp .Or (a::b::rest) pos) (tOr tA tB'):=by
 intro i g s σ H Q I h;refine isTrue_or (thn (k g s σ H _ I h) λc s1 ⟨d,f,e⟩=>?_)
 cases c with
 | true=>exact⟨d,f,e⟩
 | false=>exact j i g s1 σ d Q f e
theorem db(e:PT X a tA):PT X (.UnaryOp .Not a pos) (tNot tA):=by
 intro d s σ H Q I h;exact isTrue_not (e d s σ H (λc b=>Q (!c) b) I h)
def tAndV(ta tb:TE):TE:=λσ H Q=>ta σ H λx a=>∃ c,x=.bl c/\if c=true then tb σ a Q else Q (.bl false) a
def tOrV(ta tb:TE):TE:=λσ H Q=>ta σ H λx a=>∃ c,x=.bl c/\if c=true then Q (.bl true) a else tb σ a Q
def tNotV(ta:TE):TE:=λσ H Q=>ta σ H λx a=>∃ c,x=.bl c/\Q (.bl (!c)) a
def bQ{op}{t:TE}(h:PE X a t):PE X (.BoolOp op [a] pos) t:=λb s σ H Q I hw=>BoolOp_one (h b s σ H Q I hw)
theorem bR(j:PE X a ta)(i:PE X (.BoolOp .And (b::rest) pos) tb):PE X (.BoolOp .And (a::b::rest) pos) (tAndV ta tb):=by
 intro g s σ H Q I h;refine BoolOp_and (thn (j g s σ H _ I h) λv s1 ⟨x,e,f,r1,d⟩=>?_);obtain⟨c,rfl,d⟩:=d;cases r1;refine OE ?_
 cases c with
 | true=>exact i g s1 σ e Q f d
 | false=>exact⟨.bl false,e,f,rfl,d⟩
theorem p7(j:PE X a ta)(i:PE X (.BoolOp .Or (b::rest) pos) tb):PE X (.BoolOp .Or (a::b::rest) pos) (tOrV ta tb):=by
 intro g s σ H Q I h;refine BoolOp_or (thn (j g s σ H _ I h) λv s1 ⟨x,e,f,r1,d⟩=>?_);obtain⟨c,rfl,d⟩:=d;cases r1;refine OE ?_
 cases c with
 | false=>exact i g s1 σ e Q f d
 | true=>exact⟨.bl true,e,f,rfl,d⟩
theorem zD(g:PE X a ta):PE X (.UnaryOp .Not a pos) (tNotV ta):=by
 intro f s σ H Q I h;refine UnaryOp_ (thn (g f s σ H _ I h) λv s1 ⟨x,d,e,r1,b⟩=>?_);obtain⟨c,rfl,b⟩:=b;cases r1;exact not_of (OE ⟨.bl (!c),d,e,rfl,b⟩)
def tIf(t:TT)(ta tb:TE):TE:=λσ H Q=>t σ H λc a=>if c=true then ta σ a Q else tb σ a Q
theorem mf{c:Expr}(j:PT X c tA)(l:PE X a ta)(k:PE X b tb):PE X (.IfExp c a b pos) (tIf tA ta tb):=by
 intro e s σ H Q I h;refine wpAny_IfExp (thn (j e s σ H _ I h) λd s1 ⟨f,i,g⟩=>?_)
 cases d with
 | true=>exact l e s1 σ f Q i g
 | false=>exact k e s1 σ f Q i g
end
def SqL(K:Frag)(H:Hp)(a:Addr)(xs:List V):Prop:=
 Rd H a (.lst xs)\/
  ∃(o:Obj) (b:Array Value) (n:Nat),K.lookup a=some o/\o.cls=.type "list"/\o.dict=none/\o.data=.seq b n/\b.size<=sizeLine/\Vals xs b.toList
def SqT(K:Frag)(H:Hp)(a:Addr)(xs:List V):Prop:=
 Rd H a (.tup xs)\/
  ∃(o:Obj) (b:Array Value) (n:Nat),K.lookup a=some o/\o.cls=.type "tuple"/\o.data=.seq b n/\b.size<=sizeLine/\Vals xs b.toList
def absV:Value->Option V
 | .none=>some .non
 | .bool b=>some (.bl b)
 | .int i _=>⇑i
 | .str x _=>some (.str x)
 | .bytes b _=>some (.byt b)
 | .float b _=>some (.flt b)
 | .ref a=>↑a
 | .type n=>some (.ty n)
 | _=>none
variable{u:Value}
theorem RelV.abs{x:V}(r:RelV x u):absV u=some x:=by
 cases x with
 | non=>cases r;rfl
 | bl _=>cases r;rfl
 | int _=>obtain⟨t,rfl⟩:=r;rfl
 | str _=>obtain⟨t,rfl⟩:=r;rfl
 | byt _=>obtain⟨t,rfl⟩:=r;rfl
 | flt _=>obtain⟨t,rfl⟩:=r;rfl
 | ref _=>cases r;rfl
 | ty _=>cases r;rfl
def RelV.inj{x y:V}(r:RelV x u)(q:RelV y u):x=y:=OB (r.abs.symm.trans q.abs)
theorem Vals.inj:∀{xs ys:List V} {us:List Value},Vals xs us->Vals ys us->xs=ys
 | _,_,_,.nil,.nil=>rfl
 | _,_,_,.cons r t,.cons r' t'=>by rw[r.inj r',Vals.inj t t']
section
variable{X:Cx}{MO:List (Addr × Obj)}{σ:St}{H:Hp}{s:Shared}{a:Addr}{xs ys:List V}
def SqL.of{K:Frag}(h:H a=↥xs):SqL K H a xs:=.inl (.inl h)
abbrev Nm:=@SqL.of
def SqT.of{K:Frag}(h:H a=some (.tup xs)):SqT K H a xs:=.inl (.inl h)
abbrev QY:=@SqT.of
theorem Inv.list(I:Inv X MO σ H s)(h:SqL X.K H a xs):∃ MS:List Value,Vals xs MS/\PlainL s.heap a MS.toArray/\xs.length<=sizeLine:=by
 rcases h with h | ⟨o,MS,n,d,b,c,f,g,r⟩
 . obtain⟨z,MS,n,r,e⟩:=h.ok I.hok;exact⟨MS,r,⟨_,n,e,rfl,rfl,rfl⟩,z⟩
 . refine⟨MS.toList,r,⟨o,n,I.kIn a o d,b,c,by simpa using f⟩,?_⟩;have e:=r.length;simp only[Pi]at e;lia
theorem Inv.tuple(I:Inv X MO σ H s)(h:SqT X.K H a xs):∃ MS:List Value,Vals xs MS/\IsTup s.heap a MS.toArray/\xs.length<=sizeLine:=by
 rcases h with h | ⟨o,MS,n,d,b,c,f,r⟩
 . obtain⟨z,MS,r,p⟩:=h.ok I.hok;exact⟨MS,r,p,z⟩
 . refine⟨MS.toList,r,⟨o,I.kIn a o d,b,n,by simpa using c⟩,?_⟩;have e:=r.length;simp only[Pi]at e;lia
theorem Inv.list_inj(I:Inv X MO σ H s)(h:SqL X.K H a xs)(h':SqL X.K H a ys):xs=ys:=by
 obtain⟨i,r,⟨o,n,e,_,_,d⟩,_⟩:=I.list h;obtain⟨b,g,⟨k,j,c,_,_,f⟩,_⟩:=I.list h';rw[e]at c;cases c;rw[d]at f;injection f with d1 _;have:i=b:=by simpa using congrArg Array.toList d1
 subst this;exact r.inj g
theorem Inv.tuple_inj(I:Inv X MO σ H s)(h:SqT X.K H a xs)(h':SqT X.K H a ys):xs=ys:=by
 obtain⟨i,r,⟨o,e,_,n,d⟩,_⟩:=I.tuple h;obtain⟨b,g,⟨k,c,_,j,f⟩,_⟩:=I.tuple h';rw[e]at c;cases c;rw[d]at f;injection f with d1 _;have:i=b:=by simpa using congrArg Array.toList d1
 subst this;exact r.inj g
end
abbrev Cx.wish(X:Cx)(E:Value->Shared->Prop):Cx:={X with xe:=E}
abbrev Cx.nox(X:Cx):Cx:=X.wish λ_ _=>False
variable{X:Cx}
def Cx.Ok.wish(a:X.Ok)(E:Value->Shared->Prop):(X.wish E).Ok:=
 ⟨a.mod,a.kind,a.glob,a.blt,a.above,a.inj,a.has,a.cab,a.hd,a.frames,a.stk,a.exf,a.bs,a.bsz,a.noex,a.exfs,a.funs,a.frf⟩
variable{E:Value->Shared->Prop}
def Cx.Ok.unwish(a:(X.wish E).Ok):X.Ok:=
 ⟨a.mod,a.kind,a.glob,a.blt,a.above,a.inj,a.has,a.cab,a.hd,a.frames,a.stk,a.exf,a.bs,a.bsz,a.noex,a.exfs,a.funs,a.frf⟩
section
variable{X:Cx}{MO:List (Addr × Obj)}{σ:St}{H:Hp}{s:Shared}{E:Value->Shared->Prop}
def Inv.wish(I:Inv X MO σ H s)(E:Value->Shared->Prop):Inv (X.wish E) MO σ H s:=⟨I.ok.wish E,I.os,I.bare,I.base,I.loc,I.cell,I.free,I.freeC,I.pin,I.hok,I.len⟩
def Inv.unwish(I:Inv (X.wish E) MO σ H s):Inv X MO σ H s:=⟨I.ok.unwish,I.os,I.bare,I.base,I.loc,I.cell,I.free,I.freeC,I.pin,I.hok,I.len⟩
theorem SP.unwish{D:Ends}{f:Flow}{s':Shared}(h:SP (X.wish E) MO D f s'):SP X MO D f s':=by
 cases f with
 | next=>obtain⟨b,a,I,q⟩:=h;exact⟨b,a,I.unwish,q⟩
 | brk=>obtain⟨b,a,I,q⟩:=h;exact⟨b,a,I.unwish,q⟩
 | cont=>obtain⟨b,a,I,q⟩:=h;exact⟨b,a,I.unwish,q⟩
 | ret u=>obtain⟨v,b,a,I,r,q⟩:=h;exact⟨v,b,a,I.unwish,r,q⟩
def PSs.nox{st:List Stmt}{t:TS}(h:PSs X.nox st t):PSs X st t:=λMO s σ H D I hw=>
 On (h MO s σ H D (I.wish _) hw) (λ_ _ q=>q.unwish) λ_ _ z=>False.elim z
end
section
variable{X:Cx}{st:Stmt}{rest:List Stmt}{t u:TS}{e:Expr}{te:TE}{pos:Pos}
def tNext:TS:=λD σ H=>D.nx σ H
def tSeq(t u:TS):TS:=λD σ H=>t {D with nx:=u D} σ H
def ap:PSs X [] tNext:=λ_ _ σ H _ I h=>PL ⟨σ,H,I,h⟩
theorem ad(h1:PS X st t)(h2:PSs X rest u):PSs X (st::rest) (tSeq t u):=by
 intro a s σ H D I h;refine wpAny_execs_cons (thn (h1 a s σ H {D with nx:=u D} I h) λf s1 q=>?_)
 cases f with
 | next=>
  obtain⟨c,b,d,q⟩:=q;exact h2 a s1 c b D d q
 | ret v=>exact q
 | brk=>exact q
 | cont=>exact q
theorem ae(h1:PS X st t):PSs X [st] t:=by
 intro a s σ H D I h;refine wpAny_execs_cons (thn (h1 a s σ H D I h) λf s1 q=>?_)
 cases f with
 | next=>exact PL q
 | ret v=>exact q
 | brk=>exact q
 | cont=>exact q
theorem Inv.quiet{a:List (Addr × Obj)}{σ:St}{H:Hp}{s:Shared}(I:Inv X a σ H s):interactive X.env=false:=by simp[interactive,I.ok.kind]
def tDrop(te:TE):TS:=λD σ H=>te σ H λ_ a=>D.nx σ a
theorem bv(c:PE X e te)(d:swapsWith e none pos.line X.env=pure false:=by rfl):PS X (.Expr e pos) (tDrop te):=by
 intro g s σ H D I h;exact wpAny_Expr_any (thn (c g s σ H _ I h) λv s1 ⟨x,a,f,r1,b⟩=>⟨σ,a,f,b⟩) I.quiet d
def tRet(te:TE):TS:=λD σ H=>te σ H D.rt
theorem ai(c:PE X e te):PS X (.Return (some e) pos) (tRet te):=by
 intro f s σ H D I h;exact wpAny_Return_some (thn (c f s σ H _ I h) λv s1 ⟨x,a,d,r1,b⟩=>⟨x,σ,a,d,r1,b⟩)
def tRetN:TS:=λD _ H=>D.rt .non H
def tIfS(c:TT)(t u:TS):TS:=λD σ H=>c σ H λb a=>if b=true then t D σ a else u D σ a
theorem av{c:Expr}{a b:List Stmt}{g:TT}(k:PT X c g)(m:PSs X a t)(l:PSs X b u):PS X (.If c a b pos) (tIfS g t u):=by
 intro e s σ H D I h;refine wpAny_If (thn (k e s σ H _ I h) λd s1 ⟨f,j,i⟩=>?_)
 cases d with
 | true=>exact m e s1 σ f D j i
 | false=>exact l e s1 σ f D j i
def dU:TS:=λ_ _ _=>False
def b6:PS X st dU:=λ_ _ _ _ _ _ h=>h.elim
end
abbrev TG:=V->St->Hp->(St->Hp->Prop)->Prop
abbrev TGs:=List V->St->Hp->(St->Hp->Prop)->Prop
def PG(X:Cx)(a:Expr)(t:TG):Prop:=
 ∀(d:List (Addr × Obj)) (s:Shared) (σ:St) (H:Hp) (v:V) (u:Value) (Q:St->Hp->Prop),Inv X d σ H s->RelV v u->t v σ H Q->
  wpAny (model X.prog X.w) X.A (assign a X.env u) (λ_ e=>∃ b c,Inv X d b c e/\Q b c) X.xe s
def PGs(X:Cx)(ts:List Expr)(t:TGs):Prop:=
 ∀(d:List (Addr × Obj)) (s:Shared) (σ:St) (H:Hp) (vs:List V) (a:List Value) (Q:St->Hp->Prop),Inv X d σ H s->Vals vs a->t vs σ H Q->
  wpAny (model X.prog X.w) X.A (assignInOrder ((assignEach ts X.env).map (·.2)) a) (λ_ e=>∃ b c,Inv X d b c e/\Q b c) X.xe s
abbrev TSet:=V->V->V->Hp->(Hp->Prop)->Prop
section
variable{X:Cx}{pos:Pos}
def gName(i:Nat):TG:=λv σ H Q=>Q (σ.set i (some v)) H
theorem aq{i:Nat}{x:Str}(d:X.N.Nodup)(c:X.N[i]? =some x)(e:Loc X.env.scope x)(b:X.fn x=true\/X.env.scope.names.lookup x=some .local:=by first | exact .inl rfl | exact .inr rfl | assumption):PG X (.Name x pos) (gName i):=by
 intro g s σ H v u Q I r h;exact wpAny_assign_Name (zC I d c e r (λf a=>⟨_,H,a,h⟩) b)
def gNil:TGs:=λvs σ H Q=>vs=[]/\Q σ H
def gCons(t:TG)(u:TGs):TGs:=λvs σ H Q=>∃ v r,vs=v::r/\t v σ H λb a=>u r b a Q
theorem oS:PGs X [] gNil:=by
 intro a s σ H vs b Q I r h;obtain⟨e,h⟩:=h;subst e;cases r;exact assignInOrder_nil ⟨σ,H,I,h⟩
theorem fe {e:Expr} {a:List Expr} {t:TG} {u:TGs} (h1:PG X e t) (h2:PGs X a u)
  (i:(assignEach (e::a) X.env).map (·.2)=assign e X.env::(assignEach a X.env).map (·.2):=by rfl):PGs X (e::a) (gCons t u):=by
 intro b s σ H vs l Q I r h;obtain⟨v,k,e1,h⟩:=h;subst e1
 cases r with
 | cons r d=>
  rw[i];refine assignInOrder_cons (thn (h1 b s σ H _ _ _ I r h) λ_ s1 ⟨f,c,j,g⟩=>?_);exact h2 b s1 f c _ _ Q j d g
def gTup(K:Frag)(n:Nat)(t:TGs):TG:=λv σ H Q=>∃ a b,v=.ref a/\SqT K H a b/\b.length=n/\t b σ H Q
theorem ro {c:List Expr} {k:Nat} {t:TGs} {n:Nat} (j:X.calm=true) (h:PGs X c t)
  (m:(assignEach c X.env).length=n:=by rfl) (d:(assignEach c X.env).findIdx? (·.1)=none:=by rfl):PG X (.Tuple c k pos) (gTup X.K n t):=by
 intro g s σ H v u Q I r hw;obtain⟨a,i,e1,q,l,hw⟩:=hw;subst e1;cases r;obtain⟨A,f,p,z⟩:=I.tuple q;refine assign_Tuple_tuple (I.ok.hd j) p (by simp[m,← l,f.length]) d λw x=>?_;have y:Inv X g σ H {s with heap:=w}:=I.kept (t':=s.toks) λb o e=>x b o (NS (NC e)) e;exact h g _ σ H i _ Q y (by simpa using f) hw
def gSub(a e:TE)(t:TSet):TG:=λv σ H Q=>a σ H λo b=>e σ b λi d=>t o i v d λc=>Q σ c
def tAsg(te:TE)(g:TG):TS:=λD σ H=>te σ H λx a=>g x σ a D.nx
def HH {a e:Expr} {te:TE} {g:TG} (i:PE X e te) (d:PG X a g) (j:swapsWithSole [a] e pos.line X.env=pure false:=by rfl) (hw:swappedStores [a] e X.env=pure none:=by rfl)
  (h1:(assignEach [a] X.env).map (·.2)=[assign a X.env]:=by rfl):PS X (.Assign [a] e pos) (tAsg te g):=by
 intro b s σ H D I h;refine wpAny_Assign_stores (thn (i b s σ H _ I h) λv s1 ⟨x,c,k,r1,f⟩=>?_) j hw;rw[h1];exact thn (d b s1 σ c x v _ k r1 f) λ_ l q=>q
def e6{i:Nat}{x:Str}{e:Expr}{te:TE}{a:Pos}(l:X.N.Nodup)(g:X.N[i]? =some x)(m:Loc X.env.scope x)(k:PE X e te)(f:swapsWith e (some (.Name x a)) pos.line X.env=pure false:=by rfl)(d:X.fn x=true\/X.env.scope.names.lookup x=some .local:=by first | exact .inl rfl | exact .inr rfl | assumption):
  PS X (.Assign [.Name x a] e pos) (tAsg te (gName i)):=by
 intro o s σ H D I h;refine wpAny_Assign_Name (thn (k o s σ H _ I h) λv s1 ⟨y,b,c,r1,j⟩=>?_) f;exact zC c l g m r1 (λp n=>⟨_,b,n,j⟩) d
end
section
variable{X:Cx}{pos:Pos}
def zE(c:TT)(g:TS):TS:=λD σ H=>∃ W:Nat->St->Hp->Prop,(∃ m,W m σ H)/\∀ m σ H,W m σ H->
 c σ H λb a=>if b=true then ∃ N:St->Hp->Prop,(∀ d f,N d f->∃ e,e<m/\W e d f)/\g {D with nx:=N,ct:=N,bk:=D.nx} σ a else D.nx σ a
theorem zF{c:Expr}{a:List Stmt}{z:TT}{u:TS}(B:PassesOwn (model X.prog X.w) X.A X.env X.xe)(L:PT X c z)(G:PSs X a u):PS X (.While c a [] pos) (zE z u):=by
 intro q s σ H D I h;obtain⟨W,⟨K,O⟩,e⟩:=h;refine wpAny_While (codeAny_whileLoop (λn P=>∃ E y,Inv X q E y P/\W n E y) ?_ K ⟨σ,H,I,O⟩);rintro n s1 ⟨k,t,M,Q⟩;refine OQ B (thn (L q s1 k t _ M (e n k t Q)) λb J ⟨F,x,j⟩=>?_)
 cases b with
 | true=>
  obtain⟨N,C,j⟩:=j;rw[NA rfl];refine OQ B (thn (G q J k F _ x j) λf R i=>?_)
  cases f with
  | next=>
   obtain⟨g,d,o,r⟩:=i;obtain⟨p,m,l⟩:=C g d r;exact⟨p,m,g,d,o,l⟩
  | cont=>
   obtain⟨g,d,o,r⟩:=i;obtain⟨p,m,l⟩:=C g d r;exact⟨p,m,g,d,o,l⟩
  | brk=>exact i
  | ret v=>exact i
 | false=>
  rw[Nt Nc];exact PL ⟨k,F,x,j⟩
end
structure It where
 go:Nat->Hp->Prop
 yld:Nat->Hp->V->Hp->Prop
 stop:Nat->Hp->Prop
def FpOk(X:Cx)(a:List (Addr × Obj))(H:Hp)(b:Addr):Prop:=
 H b=none/\b≠X.env.locals/\b∉X.fs/\(b∈X.ex\/X.s₀.heap.objs.size<=b)/\(∀ x c,X.env.cells.lookup x=some c->c≠b)/\∀ p∈X.pn++a,p.1≠b
variable{s:Shared}
theorem Inv.fpOk{f:List (Addr × Obj)}{σ:St}{H d:Hp}{b:Addr}(I:Inv X f σ H s)(a:s.heap.objs.size<=b)(g:d b=none):FpOk X f d b:=by
 refine⟨g,P2 (NM I.lt a),I.nofs a,.inr (Nk I.sz a),λx c e z=>?_,λp h z=>?_⟩
 . obtain⟨v,q⟩:=I.cell x c e;exact absurd (NM q.lt (by rw[z];exact a)) (Oj _)
 . exact absurd (NM (NC (I.pin p h).1) (by rw[z];exact a)) (Oj _)
structure Turn(P:Program)(w:World)(K:Frag)(tg:Expr)(J:It)(fp:List Addr)(it:Addr)(tn:Nat->Heap->Prop):Prop where
 mem:it∈fp
 obj:∀ i h,tn i h->∀ b∈fp,∃ o,h.get? b=some o/\∀ v,o.data≠.cell v
 keep:∀ i h h',tn i h->(∀ b∈fp,∀ o,h.get? b=some o->h'.get? b=some o)->tn i h'
 item:∀(X:Cx),X.prog=P->X.w=w->X.K=K->X.calm=true->∀(i:Nat) (MO:List (Addr × Obj)) (s:Shared) (σ:St) (H:Hp) (E:Value->Shared->Prop),Inv X MO σ H s->(∀ b∈fp,FpOk X MO H b)->tn i s.heap->J.go i H->
  wpAny (model P w) X.A (pyNext (.ref it)) (λr s1=>∃ u,r=some u/\
   wpAny (model P w) X.A (letOwnedTupleGo tg (.ref it) u) (λ_ s2=>∃ x H',Inv X MO σ H' s2/\RelV x u/\J.yld i H x H'/\tn (i+1) s2.heap/\∀ b∈fp,H' b=none) E s1) E s
 done:∀(X:Cx),X.prog=P->X.w=w->X.K=K->X.calm=true->∀(i:Nat) (MO:List (Addr × Obj)) (s:Shared) (σ:St) (H:Hp) (E:Value->Shared->Prop),Inv X MO σ H s->(∀ b∈fp,FpOk X MO H b)->tn i s.heap->J.stop i H->
  wpAny (model P w) X.A (pyNext (.ref it)) (λr s1=>r=none/\Inv X MO σ H s1) E s
 self:∀(A:Around) (i:Nat) (s:Shared) (Q:Value->Shared->Prop) (E:Value->Shared->Prop),tn i s.heap->Q (.ref it) s->wpAny (model P w) A (pyIter (.ref it)) Q E s
abbrev TI:=St->Hp->(It->Hp->Prop)->Prop
def PIE(X:Cx)(g:List (Addr × Obj))(σ:St)(i:Expr)(R:It->Hp->Prop)(a:Value)(f:Shared):Prop:=
 ∃(h:Addr) (d:List Addr) (e:Nat->Heap->Prop) (J:It) (c:Hp),a=.ref h/\Inv X g σ c f/\Turn X.prog X.w X.K i J d h e/\e 0 f.heap/\(∀ b∈d,FpOk X g c b)/\R J c
def PI(X:Cx)(c a:Expr)(d:TI):Prop:=
 ∀(b:List (Addr × Obj)) (s:Shared) (σ:St) (H:Hp) (R:It->Hp->Prop),Inv X b σ H s->d σ H R->
  wpAny (model X.prog X.w) X.A (eval a X.env) (λv s1=>wpAny (model X.prog X.w) X.A (pyIter v) (PIE X b σ c R) X.xe s1) X.xe s
variable{tg:Expr}
theorem zp {M:Model} {A:Around} {it:Addr} {o:Obj} {n:String} {vs:Array Value} {Q:Unit->Shared->Prop} (e:s.heap.get? it=some o) (b:o.cls=.type n) (c:o.data=.fields vs)
  (d:["enumerate","zip","dict_itemiterator","dict_reverseitemiterator","odict_iterator","itertools.zip_longest","itertools.pairwise"].contains n=false) (a:Q () s):wpAny M A (letOwnedTupleGo tg (.ref it) u) Q E s:=by
 unfold letOwnedTupleGo
 cases tg <;> first
  | exact N9 a
  | (cases u <;> first
    | exact N9 a
    | (refine NV (wpAny_load e ?_)
       rw[b,c];show wpAny M A (if (["enumerate","zip","dict_itemiterator","dict_reverseitemiterator","odict_iterator","itertools.zip_longest","itertools.pairwise"].contains n&&vs[0]? ==some (rawInt _))=true then _ else _) Q E s;rw[Nt (by intro h;rw[d,Nw]at h;cases h)];exact N9 a))
def Itl(K:Frag)(a:Addr):It:=
 ⟨λi H=>∃ b x,SqL K H a b/\b[i]? =some x,λi H x c=>c=H/\∀ b,SqL K H a b->b[i]? =some x,λi H=>∃ b,SqL K H a b/\b.length<=i⟩
def Itt(K:Frag)(a:Addr):It:=
 ⟨λi H=>∃ b x,SqT K H a b/\b[i]? =some x,λi H x c=>c=H/\∀ b,SqT K H a b->b[i]? =some x,λi H=>∃ b,SqT K H a b/\b.length<=i⟩
def Itr(b:Int)(n:Nat):It:=⟨λi _=>i<n,λi H x a=>a=H/\x=.int (b+i),λi _=>n<=i⟩
variable{P:Program}{w:World}{K:Frag}
def DG(a it:Addr):Turn P w K tg (Itl K a) [it] it (λi h=>h.IsListIter it a i) where
 mem:=by simp
 obj:=λi h f b g=>by
  have e:b=it:=by simpa using g
  subst e;obtain⟨o,e,c,d⟩:=f;exact⟨o,e,λv z=>by rw[d]at z;cases z⟩
 keep:=λi h n f k=>f.at λo e=>k it (by simp) o e
 item:=by
  intro X t hw A J i L s σ H E I m f G;subst t hw A;obtain⟨N,x,l,y⟩:=G;obtain⟨W,F,p,U⟩:=I.list l;obtain⟨u,O,Y⟩:=F.get y;obtain⟨D,B,Q,q,C,r⟩:=m it (by simp);refine wpAny_pyNext_list_item f p.isList (x:=u) (by simpa using O) λn j S=>?_;have T:Inv X L σ H {s with heap:=n}:=I.turned (t':=s.toks) (λb o g e=>(S.2 b g).trans e) D B q C r;obtain⟨o,e,c,d⟩:=id j;exact⟨u,rfl,zp (s:={s with heap:=n}) e c d #[1] ⟨x,H,T,Y,⟨rfl,λys M=>by rw[I.list_inj M l];exact y⟩,j,λb g=>(m b g).1⟩⟩
 done:=by
  intro X t hw A J i L s σ H E I m f G;subst t hw A;obtain⟨N,l,y⟩:=G;obtain⟨W,F,p,U⟩:=I.list l;obtain⟨D,B,Q,q,C,r⟩:=m it (by simp);have Z:=F.length;exact wpAny_pyNext_list_end (I.ok.hd J) f p.isList (by simp;omega) λn R=>⟨rfl,I.turned (t':=s.toks) (λb o g e=>R b o g e) D B q C r⟩
 self:=λ_ _ _ _ _ f h=>wpAny_pyIter_listiter f h
def CB(a it:Addr):Turn P w K tg (Itt K a) [it] it (λi h=>h.IsTupleIter it a i) where
 mem:=by simp
 obj:=λi h f b g=>by
  have e:b=it:=by simpa using g
  subst e;obtain⟨o,e,c,d⟩:=f;exact⟨o,e,λv z=>by rw[d]at z;cases z⟩
 keep:=λi h n f k=>f.at λo e=>k it (by simp) o e
 item:=by
  intro X t hw A L i M s σ H E I m f J;subst t hw A;obtain⟨O,x,l,y⟩:=J;obtain⟨F,G,p,W⟩:=I.tuple l;obtain⟨u,Q,Y⟩:=G.get y;obtain⟨D,B,R,q,C,r⟩:=m it (by simp);refine wpAny_pyNext_tuple_item f (show s.heap.IsTuple a F.toArray from p) (x:=u) (by simpa using Q) λn j T=>?_;have U:Inv X M σ H {s with heap:=n}:=I.turned (t':=s.toks) (λb o g e=>(T.2 b g).trans e) D B q C r;obtain⟨o,e,c,d⟩:=id j;exact⟨u,rfl,zp (s:={s with heap:=n}) e c d #[1] ⟨x,H,U,Y,⟨rfl,λys N=>by rw[I.tuple_inj N l];exact y⟩,j,λb g=>(m b g).1⟩⟩
 done:=by
  intro X t hw A L i M s σ H E I m f J;subst t hw A;obtain⟨O,l,y⟩:=J;obtain⟨F,G,p,W⟩:=I.tuple l;obtain⟨D,B,R,q,C,r⟩:=m it (by simp);have Z:=G.length;exact wpAny_pyNext_tuple_end (I.ok.hd L) f (show s.heap.IsTuple a F.toArray from p) (by simp;omega) λn S=>⟨rfl,I.turned (t':=s.toks) (λb o g e=>S b o g e) D B q C r⟩
 self:=λ_ _ _ _ _ f h=>wpAny_pyIter_tupleiter f h
def CD(it:Addr)(f:Int)(n:Nat):Turn P w K tg (Itr f n) [it] it (λi h=>IsRangeIter h it (f+(i:Nat)*1) ((n:Int) - (i:Nat)) 1) where
 mem:=by simp
 obj:=λi h a b c=>by
  have e:b=it:=by simpa using c
  subst e
  exact⟨_,a,λv z=>by
   have D:Data.fields _=Data.cell v:=z;cases D⟩
 keep:=λi h j a k=>k it (by simp) _ a
 item:=by
  intro X p hw q u i C s σ H E I g a A;subst p hw q;obtain⟨y,r,F,l,x,m⟩:=g it (by simp);have W:=Walks.range (prog:=X.prog) (w:=X.w) (I.ok.hd u) it f 1 n;refine W.item i s _ _ A a λv j B L d M=>?_;obtain⟨t,rfl⟩:=L;have J:Inv X C σ H {s with heap:=j,toks:=B}:=I.turned (λb o c e=>M b o (by simpa using c) e) y r l x m;refine⟨_,rfl,zp (s:={s with heap:=j,toks:=B}) (n:="range_iterator") d rfl rfl #[1] ⟨.int (f+i),H,J,⟨t,?_⟩,⟨rfl,rfl⟩,d,λb c=>(g b c).1⟩⟩;rw[Int.mul_one]
 done:=by
  intro X p hw q u i C s σ H E I g a A;subst p hw q;obtain⟨y,r,F,l,x,m⟩:=g it (by simp);exact wpAny_pyNext_range_end (I.ok.hd u) a (by have:n<=i:=A;omega) λj G=>⟨rfl,I.turned (t':=s.toks) (λb o c e=>G b o c e) y r l x m⟩
 self:=λ_ _ _ _ _ a h=>wpAny_pyIter_rangeiter a h
section
variable{X:Cx}{tg:Expr}
def iList(K:Frag)(c:TE):TI:=λσ H R=>c σ H λx b=>∃ a,x=.ref a/\(∃ d,SqL K b a d)/\R (Itl K a) b
def iTup(K:Frag)(c:TE):TI:=λσ H R=>c σ H λx b=>∃ a,x=.ref a/\(∃ d,SqT K b a d)/\R (Itt K a) b
theorem ay{l:Expr}{d:TE}(g:PE X l d):PI X tg l (iList X.K d):=by
 intro m s σ H R I h;refine thn (g m s σ H _ I h) λv s1 ⟨x,f,c,r1,k⟩=>?_;obtain⟨a,e,⟨r,i⟩,q⟩:=k;subst e;cases r1;obtain⟨u,n,p,t⟩:=c.list i;refine O4 p.isList ?_;refine⟨s1.heap.objs.size,[s1.heap.objs.size],_,_,f,rfl,c.kept (t':=s1.toks) λb o e=>Nq _ e,DG a _,⟨_,NN _ rfl,rfl,rfl⟩,λb j=>?_,q⟩;have e:b=s1.heap.objs.size:=by simpa using j
 subst e;exact c.fpOk (Nr _) (c.hok.fresh (Nr _))
theorem zG{l:Expr}{d:TE}(g:PE X l d):PI X tg l (iTup X.K d):=by
 intro m s σ H R I h;refine thn (g m s σ H _ I h) λv s1 ⟨x,f,c,r1,k⟩=>?_;obtain⟨a,e,⟨t,i⟩,q⟩:=k;subst e;cases r1;obtain⟨n,r,p,u⟩:=c.tuple i;refine wpAny_pyIter_tuple (show s1.heap.IsTuple a n.toArray from p) ?_;refine⟨s1.heap.objs.size,[s1.heap.objs.size],_,_,f,rfl,c.kept (t':=s1.toks) λb o e=>Nq _ e,CB a _,⟨_,NN _ rfl,rfl,rfl⟩,λb j=>?_,q⟩;have e:b=s1.heap.objs.size:=by simpa using j
 subst e;exact c.fpOk (Nr _) (c.hok.fresh (Nr _))
theorem zH {g:List (Addr × Obj)} {σ:St} {H:Hp} {s:Shared} {R:It->Hp->Prop} {E:Value->Shared->Prop} {a c:Int} {t u v:Tok} {d:Nat} (I:Inv X g σ H s) (h1: -(2^62)<=a) (h2:a<2^62) (h3: -(2^62)<=c) (h4:c<2^62)
  (q:R (Itr a (c-a).toNat) H):wpAny (model X.prog X.w) X.A (pyIter (.ref s.heap.objs.size)) (PIE X g σ tg R) E {s with heap:=s.heap.push {cls:=.type "range",data:=.fields #[.int a t,.int c u,.int 1 v]},toks:=d}:=by
 refine wpAny_pyIter_range (IsRange.new ..) (small_one h1 h2 h3 h4) ?_;have f:Inv X g σ H {s with heap:=s.heap.push {cls:=.type "range",data:=.fields #[.int a t,.int c u,.int 1 v]},toks:=d}:=I.kept λb o e=>Nq _ e
 refine⟨(s.heap.push {cls:=.type "range",data:=.fields #[.int a t,.int c u,.int 1 v]}).objs.size,[(s.heap.push {cls:=.type "range",data:=.fields #[.int a t,.int c u,.int 1 v]}).objs.size],_,_,H,rfl,
  f.kept (t':=d) λb o e=>Nq _ e,CD _ a (c-a).toNat,?_,λb h=>?_,q⟩
 . have e1:a+((0:Nat):Int)*1=a:=by simp
   have e2:(((c-a).toNat:Nat):Int) - ((0:Nat):Int)=Builtin.Range.rangeSize a c 1:=by rw[rangeSize_one];split <;> lia
   show IsRangeIter _ _ (a+((0:Nat):Int)*1) ((((c-a).toNat:Nat):Int) - ((0:Nat):Int)) 1;rw[e1,e2];exact NN _ rfl
 . have e:b=(s.heap.push {cls:=.type "range",data:=.fields #[.int a t,.int c u,.int 1 v]}).objs.size:=by simpa using h
   subst e;exact f.fpOk (Nr _) (f.hok.fresh (Nr _))
def gG(b:TA):TI:=λσ H R=>b σ H λvs a=>∃ j:Int,vs=[.int j]/\ -(2^62)<=j/\j<2^62/\R (Itr 0 j.toNat) a
def sX(b:TA):TI:=λσ H R=>b σ H λvs a=>∃ i j:Int,vs=[.int i,.int j]/\(-(2^62)<=i/\i<2^62/\ -(2^62)<=j/\j<2^62)/\R (Itr i (j-i).toNat) a
theorem dN{a:Expr}{c:TA}{p pos:Pos}(i:Gl X "range")(l:X.mg "range"=none)(n:PA X [a] c)(k:starEach [a] X.env=[(false,eval a X.env)]:=by rfl):PI X tg (.Call (.Name "range" p) [a] [] pos) (gG c):=by
 intro m s σ H R I h;refine Call_ (gj I i l boot_range (N4 (thn (n pos m s σ H _ I h) λu s1 ⟨vs,o,d,r1,b⟩=>?_) k rfl));obtain⟨j,e,b,f,q⟩:=b;subst e
 cases r1 with
 | cons r g=>
  cases g;obtain⟨t,rfl⟩:=r;exact call_range_1 (zH d #[4] #[4] b f (by simpa using q))
theorem xY{a b:Expr}{g:TA}{p pos:Pos}(n:Gl X "range")(w:X.mg "range"=none)(y:PA X [a,b] g)(v:starEach [a,b] X.env=[(false,eval a X.env),(false,eval b X.env)]:=by rfl)(c:starEach [b] X.env=[(false,eval b X.env)]:=by rfl):
  PI X tg (.Call (.Name "range" p) [a,b] [] pos) (sX g):=by
 intro x s σ H R I h;refine Call_ (gj I n w boot_range (N4 (thn (y pos x s σ H _ I h) λB s1 ⟨vs,A,l,r1,f⟩=>?_) (by rw[v,c]) (by rw[c];rfl)));obtain⟨i,j,e,⟨f,m,k,o⟩,q⟩:=f;subst e
 cases r1 with
 | cons r d=>
  cases d with
  | cons u d=>
   cases d;obtain⟨t,rfl⟩:=r;obtain⟨z,rfl⟩:=u;exact call_range_2 (zH l f m k o q)
def tFor(e:TI)(g:TG)(f:TS):TS:=λD σ H=>e σ H λJ d=>∃ W:Nat->Nat->St->Hp->Prop,(∃ m,W 0 m σ d)/\∀ i m σ H,W i m σ H->
 (J.stop i H/\D.nx σ H)\/(J.go i H/\∃ N:St->Hp->Prop,(∀ b a,N b a->∃ c,c<m/\W (i+1) c b a)/\∀ x a,J.yld i H x a->g x σ a λh j=>f {D with nx:=N,ct:=N,bk:=D.nx} h j)
def rp(fp:List Addr)(h:Heap):List (Addr × Obj):=fp.filterMap λb=>(h.get? b).map λo=>(b,o)
def lV{fp:List Addr}{h:Heap}{b:Addr}{o:Obj}(a:b∈fp)(e:h.get? b=some o):(b,o)∈rp fp h:=Pm.mpr ⟨b,a,by rw[e];rfl⟩
theorem DH{fp:List Addr}{h:Heap}{p:Addr × Obj}(a:p∈rp fp h):p.1∈fp/\h.get? p.1=some p.2:=by
 obtain⟨b,d,e⟩:=Pm.mp a
 cases q:h.get? b with
 | none=>rw[q]at e;cases e
 | some o=>
  rw[q]at e;have c:(b,o)=p:=OB e;subst c;exact⟨d,q⟩
def Inv.pinned{a:List (Addr × Obj)}{σ:St}{H:Hp}{s:Shared}{fp:List Addr}(I:Inv X a σ H s)(g:∀ b∈fp,FpOk X a H b)(j:∀ b∈fp,∃ o,s.heap.get? b=some o/\∀ v,o.data≠.cell v):Inv X (a++rp fp s.heap) σ H s:=
 I.pins_of λp i=>(Ny.mp i).elim (λz=>I.pin p (NT _ z)) λz=>by
  obtain⟨f,e⟩:=DH z;obtain⟨k,l,h,_⟩:=g p.1 f;obtain⟨o,c,d⟩:=j p.1 f;rw[e]at c;cases c;exact⟨e,k,l,h,d⟩
def Inv.unpinned{a pl:List (Addr × Obj)}{σ:St}{H:Hp}{s:Shared}(I:Inv X (a++pl) σ H s):Inv X a σ H s:=I.pins_of λp b=>I.pin p (NT _ (OU _ b))
theorem bw {j:Expr} {z:List Stmt} {wi:TI} {g:TG} {tb:TS} {pos:Pos} (L:PassesOwn (model X.prog X.w) X.A X.env X.xe) (hc:X.calm=true) (hi:PI X tg j wi) (hg:PG X tg g) (a:PSs X z tb)
  (hs:∀ x,foldedSetIterable j X.env x=pure x:=by intro _;rfl):PS X (.For tg j z [] pos) (tFor wi g tb):=by
 intro B s σ H D I h;refine wpAny_For (thn (hi B s σ H _ I h) λv s1 h1=>thn h1 λac s2 h2=>?_) hs;obtain⟨it,E,tn,J,H2,e,I2,T,ab,f2,W,⟨m0,w0⟩,G⟩:=h2;subst e;have q:∀{t:Hp},(∀ b∈E,t b=none)->∀ b∈E,FpOk X B t b:=λhn b a=>⟨hn b a,(f2 b a).2⟩;refine codeAny_forLoop_any (λn s'=>∃ i R t,Inv X B R t s'/\tn i s'.heap/\(∀ b∈E,t b=none)/\W i n R t) ?_ m0 ⟨0,σ,H2,I2,ab,λb a=>(f2 b a).1,w0⟩;rintro n s3 ⟨i,O,S,I3,F,K,w3⟩;rcases G i n O S w3 with ⟨P,qn⟩ | ⟨go,N,hN,Q⟩
 . refine OQ L (thn (T.done X rfl rfl rfl hc i B s3 O S X.xe I3 (q K) F P) λr s4 ⟨Y,I4⟩=>?_);subst Y;exact PL ⟨O,S,I4,qn⟩
 . refine OQ L (thn (T.item X rfl rfl rfl hc i B s3 O S X.xe I3 (q K) F go) λr s4 ⟨u,Y,h4⟩=>?_);subst Y;refine OQ L (thn h4 λ_ s5 ⟨x,H5,I5,r5,y5,C,Z⟩=>?_);have aa:=I5.pinned (q Z) (T.obj _ _ C);refine OQ L (thn (hg _ s5 O H5 x u _ aa r5 (Q x H5 y5)) λ_ s6 ⟨σ6,H6,I6,q6⟩=>?_);refine OQ L (thn (a _ s6 σ6 H6 _ I6 q6) λf U y=>?_)
   have c:∀{p:St} {k:Hp},Inv X (B++rp E s5.heap) p k U->N p k->∃ m,m<n/\∃ i R t,Inv X B R t U/\tn i U.heap/\(∀ b∈E,t b=none)/\W i m R t:=λ{p k} l M=>by
    obtain⟨m',hm,w7⟩:=hN p k M;refine⟨m',hm,i+1,p,k,l.unpinned,T.keep _ _ _ C λb a o e=>(l.pin (b,o) (NT _ (NT _ (lV a e)))).1,λb a=>?_,w7⟩;obtain⟨o,e,d⟩:=T.obj _ _ C b a;exact(l.pin (b,o) (NT _ (NT _ (lV a e)))).2.1
   cases f with
   | next=>obtain⟨p,k,l,M⟩:=y;exact c l M
   | cont=>obtain⟨p,k,l,M⟩:=y;exact c l M
   | brk=>obtain⟨p,k,l,y⟩:=y;exact⟨p,k,l.unpinned,y⟩
   | ret v=>obtain⟨x7,p,k,l,r7,y⟩:=y;exact⟨x7,p,k,l.unpinned,r7,y⟩
end
theorem bz {K:Frag} {a:Addr} {xs:List V} {g:TG} {k:TS} {D:Ends} {σ:St} {H:Hp} (b:Nat->St->Hp->Prop) (h0:b 0 σ H) (l:∀ i σ H,i<=xs.length->b i σ H->SqL K H a xs)
  (s:∀ i x σ H,xs[i]? =some x->b i σ H->g x σ H λf j=>k {D with nx:=b (i+1),ct:=b (i+1),bk:=D.nx} f j) (n:∀ σ H,b xs.length σ H->D.nx σ H):
  ∃ W:Nat->Nat->St->Hp->Prop,(∃ m,W 0 m σ H)/\∀ i m σ H,W i m σ H->
   ((Itl K a).stop i H/\D.nx σ H)\/((Itl K a).go i H/\∃ N:St->Hp->Prop,(∀ h c,N h c->∃ m',m'<m/\W (i+1) m' h c)/\∀ x c,(Itl K a).yld i H x c->g x σ c λf j=>k {D with nx:=N,ct:=N,bk:=D.nx} f j):=by
 refine⟨λi m σ H=>m=xs.length-i/\i<=xs.length/\b i σ H,⟨xs.length,by simp,Oc _,h0⟩,?_⟩;rintro i m σ H ⟨rfl,o,p⟩;have q:=l i σ H o p;by_cases d:i<xs.length
 . refine .inr ⟨⟨xs,xs[i],q,by simp[d]⟩,b (i+1),λh c r=>⟨xs.length - (i+1),by lia,rfl,d,r⟩,λx c y=>?_⟩;obtain⟨e,y⟩:=y;subst e;exact s i x σ _ (y xs q) p
 . have e:i=xs.length:=by lia
   subst e;exact .inl ⟨⟨xs,q,Nr _⟩,n σ H p⟩
theorem jj {d:Int} {n:Nat} {g:TG} {k:TS} {D:Ends} {σ:St} {H:Hp} (a:Nat->St->Hp->Prop) (h0:a 0 σ H)
  (q:∀ i σ H,i<n->a i σ H->g (.int (d+i)) σ H λf j=>k {D with nx:=a (i+1),ct:=a (i+1),bk:=D.nx} f j) (l:∀ σ H,a n σ H->D.nx σ H):
  ∃ W:Nat->Nat->St->Hp->Prop,(∃ m,W 0 m σ H)/\∀ i m σ H,W i m σ H->
   ((Itr d n).stop i H/\D.nx σ H)\/((Itr d n).go i H/\∃ N:St->Hp->Prop,(∀ h c,N h c->∃ m',m'<m/\W (i+1) m' h c)/\∀ x c,(Itr d n).yld i H x c->g x σ c λf j=>k {D with nx:=N,ct:=N,bk:=D.nx} f j):=by
 refine⟨λi m σ H=>m=n-i/\i<=n/\a i σ H,⟨n,by simp,Oc _,h0⟩,?_⟩;rintro i m σ H ⟨rfl,r,p⟩;by_cases b:i<n
 . refine .inr ⟨b,a (i+1),λh c o=>⟨n - (i+1),by lia,rfl,b,o⟩,λx c y=>?_⟩;obtain⟨e,y⟩:=y;subst e y;exact q i σ _ b p
 . have e:i=n:=by lia
   subst e;exact .inl ⟨Nr _,l σ H p⟩
abbrev R2:=V->V->Hp->VK->Prop
def OpR(X:Cx)(f:Value->Value->Sem Value)(r:R2):Prop:=
 ∀(a:List (Addr × Obj)) (s:Shared) (σ:St) (H:Hp) (x y:V) (v u:Value) (Q:VK),Inv X a σ H s->RelV x v->RelV y u->r x y H Q->
  wpAny (model X.prog X.w) X.A (f v u) (EP X a σ Q) X.xe s
def UnR(X:Cx)(f:Value->Sem Value)(r:V->Hp->VK->Prop):Prop:=
 ∀(a:List (Addr × Obj)) (s:Shared) (σ:St) (H:Hp) (x:V) (v:Value) (Q:VK),Inv X a σ H s->RelV x v->r x H Q->
  wpAny (model X.prog X.w) X.A (f v) (EP X a σ Q) X.xe s
def CallR(X:Cx)(f:Value)(r:List V->Hp->VK->Prop):Prop:=
 ∀(b:List (Addr × Obj)) (s:Shared) (σ:St) (H:Hp) (c:List V) (a:List Value) (Q:VK),Inv X b σ H s->Vals c a->r c H Q->
  wpAny (model X.prog X.w) X.A (call f a) (EP X b σ Q) X.xe s
def tOp(r:R2)(d b:TE):TE:=λσ H Q=>d σ H λx a=>b σ a λy c=>r x y c Q
def tUn(r:V->Hp->VK->Prop)(b:TE):TE:=λσ H Q=>b σ H λx a=>r x a Q
def rI(C:Int->Int->Prop)(g:Int->Int->V):R2:=λx y H Q=>∃ i j,x=.int i/\y=.int j/\C i j/\Q (g i j) H
def rI0(g:Int->Int->V):R2:=λx y H Q=>∃ i j,x=.int i/\y=.int j/\Q (g i j) H
def rU(g:Int->V):V->Hp->VK->Prop:=λx H Q=>∃ i,x=.int i/\Q (g i) H
section
variable{X:Cx}{a b c:Expr}{ta tb tc:TE}{pos:Pos}
theorem binT (r:PE X a ta) (l:PE X b tb) {e:List (Addr × Obj)} {s:Shared} {σ:St} {H:Hp} {R:V->V->Hp->Prop} (I:Inv X e σ H s)
  (h:ta σ H λx g=>tb σ g λy c=>R x y c) {Q:Value->Shared->Prop} {f:Value->Value->Sem Value}
  (k:∀ v u d x y c,Inv X e σ c d->RelV x v->RelV y u->R x y c->wpAny (model X.prog X.w) X.A (f v u) Q X.xe d):
  wpAny (model X.prog X.w) X.A (eval a X.env) (λv n=>wpAny (model X.prog X.w) X.A (eval b X.env) (λu j=>wpAny (model X.prog X.w) X.A (f v u) Q X.xe j) X.xe n) X.xe s:=by
 refine thn (r e s σ H _ I h) λv s1 ⟨x,g,q,r1,o⟩=>?_;refine thn (l e s1 σ g _ q o) λu d ⟨y,c,p,m,i⟩=>?_;exact k v u d x y c p r1 m i
theorem ar{c:Operator}{r:R2}(g:OpR X (binaryOp c) r)(m:PE X a ta)(d:PE X b tb):PE X (.BinOp a c b pos) (tOp r ta tb):=by
 intro l s σ H Q I h;exact wpAny_BinOp (binT m d I h λv u j x y i k e f q=>g l j σ i x y v u Q k e f q)
theorem Jj{c:UnaryOp}{r:V->Hp->VK->Prop}(f:UnR X (unaryOp c) r)(i:PE X a ta):PE X (.UnaryOp c a pos) (tUn r ta):=by
 intro b s σ H Q I h;exact UnaryOp_ (thn (i b s σ H _ I h) λv s1 ⟨x,d,g,r1,e⟩=>f b s1 σ d x v Q g r1 e)
theorem opI {f:Value->Value->Sem Value} {C:Int->Int->Prop} {g:Int->Int->Int}
  (a:∀(i j:Int) (t u:Tok) (s:Shared) (Q:Value->Shared->Prop) (E:Value->Shared->Prop),C i j->Q (.int (g i j) s.toks) {s with toks:=s.toks+1}->wpAny (model X.prog X.w) X.A (f (.int i t) (.int j u)) Q E s):
  OpR X f (rI C λi j=>.int (g i j)):=by
 intro k s σ H x y v u Q I d e h;obtain⟨i,j,rfl,rfl,c,q⟩:=h;obtain⟨t,rfl⟩:=d;obtain⟨b,rfl⟩:=e;exact a i j t b s _ _ c ⟨.int (g i j),H,I.tok _,⟨_,rfl⟩,q⟩
theorem Fx {f:Value->Value->Sem Value} {g:Int->Int->Int}
  (a:∀(i j:Int) (t u:Tok) (s:Shared) (Q:Value->Shared->Prop) (E:Value->Shared->Prop),Q (.int (g i j) s.toks) {s with toks:=s.toks+1}->wpAny (model X.prog X.w) X.A (f (.int i t) (.int j u)) Q E s):
  OpR X f (rI0 λi j=>.int (g i j)):=by
 intro e s σ H x y v u Q I c d h;obtain⟨i,j,rfl,rfl,q⟩:=h;obtain⟨t,rfl⟩:=c;obtain⟨b,rfl⟩:=d;exact a i j t b s _ _ ⟨.int (g i j),H,I.tok _,⟨_,rfl⟩,q⟩
theorem CF {f:Value->Value->Sem Value} {g:Int->Int->Bool}
  (a:∀(i j:Int) (t u:Tok) (s:Shared) (Q:Value->Shared->Prop) (E:Value->Shared->Prop),Q (.bool (g i j)) s->wpAny (model X.prog X.w) X.A (f (.int i t) (.int j u)) Q E s):
  OpR X f (rI0 λi j=>.bl (g i j)):=by
 intro e s σ H x y v u Q I c d h;obtain⟨i,j,rfl,rfl,q⟩:=h;obtain⟨t,rfl⟩:=c;obtain⟨b,rfl⟩:=d;exact a i j t b s _ _ ⟨.bl (g i j),H,I,rfl,q⟩
def CDiv(i j:Int):Prop:=0<j/\j<1073741824
def CPow(i j:Int):Prop:=0<=j/\j<=1000000/\i.natAbs<2^64
def CMul(i j:Int):Prop:=(-(2^64)<i/\i<2^64)\/(-(2^64)<j/\j<2^64)
theorem CMul.ok{i j:Int}(h:CMul i j):IntMulOk i j:=by
 rcases h with ⟨h1,h2⟩ | ⟨h1,h2⟩
 . exact .of_left (intBits_le_64 h1 h2)
 . exact .of_right (intBits_le_64 h1 h2)
theorem CG(k:Nat):(0:Int)<=2^k:=by
 rw[two_pow_cast];exact Int.natCast_nonneg _
def HI:OpR X (binaryOp .Add) (rI0 λi j=>.int (i+j)):=Fx λ_ _ _ _ _ _ _ q=>add_int q
def HJ:OpR X (binaryOp .Sub) (rI0 λi j=>.int (i-j)):=Fx λ_ _ _ _ _ _ _ q=>sub_int q
def HK:OpR X (binaryOp .Mult) (rI CMul λi j=>.int (i*j)):=opI λ_ _ _ _ _ _ _ a q=>mul_int q a.ok
def GE:OpR X (binaryOp .FloorDiv) (rI CDiv λi j=>.int (i/j)):=opI λi j _ _ _ _ _ a q=>by
 have h1:(0:Int)<j:=a.1;have h2:j<1073741824:=a.2;exact floordiv_int #[0] (by rw[P6 i #[0]];exact q) (.inl (PyProof.noPylong_small #[0]))
def HL:OpR X (binaryOp .Mod) (rI (λ_ j=>0<j) λi j=>.int (i%j)):=opI λi j _ _ _ _ _ a q=>by
 have h1:(0:Int)<j:=a;exact mod_int' #[0] (by rw[Int.fmod_eq_emod_of_nonneg i #[0]];exact q)
def HM:OpR X (binaryOp .RShift) (rI (λ_ j=>0<=j) λi j=>.int (i/2^j.toNat)):=opI λi j _ _ _ _ _ a q=>
 rshift_int a (by rw[P6 i (CG _)];exact q)
def Jk:OpR X (binaryOp .BitOr) (rI0 λi j=>.int (Builtin.bitOr i j)):=Fx λ_ _ _ _ _ _ _ q=>or_int q
theorem unI {f:Value->Sem Value} {g:Int->Int}
  (a:∀(i:Int) (t:Tok) (s:Shared) (Q:Value->Shared->Prop) (E:Value->Shared->Prop),Q (.int (g i) s.toks) {s with toks:=s.toks+1}->wpAny (model X.prog X.w) X.A (f (.int i t)) Q E s):
  UnR X f (rU λi=>.int (g i)):=by
 intro c s σ H x v Q I b h;obtain⟨i,rfl,q⟩:=h;obtain⟨t,rfl⟩:=b;exact a i t s _ _ ⟨.int (g i),H,I.tok _,⟨_,rfl⟩,q⟩
def HN:UnR X (unaryOp .USub) (rU λi=>.int (-i)):=unI λ_ _ _ _ _ q=>neg_int q
end
def scal:V->V->Bool
 | .non,.non=>true | .non,.int _=>true | .int _,.non=>true | .non,.bl _=>true | .bl _,.non=>true | .non,.str _=>true | .str _,.non=>true
 | .int _,.int _=>true | .bl _,.bl _=>true | .str _,.str _=>true | .byt _,.byt _=>true
 | .int _,.str _=>true | .str _,.int _=>true | .bl _,.str _=>true | .str _,.bl _=>true
 | _,_=>false
def rEq:R2:=λx y H Q=>scal x y=true/\Q (.bl (decide (x=y))) H
def rNe:R2:=λx y H Q=>scal x y=true/\Q (.bl (!decide (x=y))) H
theorem B1{i j:Int}:decide (V.int i=V.int j)=(i==j):=by
 rw[ND];simp
theorem DI{i j:Bool}:decide (V.bl i=V.bl j)=(i==j):=by
 rw[ND];simp
theorem B2{i j:Str}:decide (V.str i=V.str j)=(i==j):=by
 rw[ND];simp
theorem B3{i j:Array UInt8}:decide (V.byt i=V.byt j)=(i.toList==j.toList):=by
 rw[ND];cases i;cases j;simp
section
variable{X:Cx}{a b c:Expr}{ta tb tc:TE}{pos:Pos}
theorem aU{a:List (Addr × Obj)}{σ:St}{H:Hp}{s:Shared}{Q:VK}{k b:Bool}(I:Inv X a σ H s)(q:Q (.bl k) H)(e:k=b):EP X a σ Q (.bool b) s:=by
 subst e;exact⟨.bl k,H,I,rfl,q⟩
theorem CH:OpR X (compareOp .Eq) rEq:=by
 intro e s σ H x y v u Q I d a h;obtain⟨c,q⟩:=h
 cases x with
 | non=>
  cases d
  cases y with
  | non=>cases a;exact PySem.EqNone.eq_none_none (aU I q (by simp))
  | bl j=>cases a;exact PySem.EqNone.eq_none_bool (aU I q (by simp))
  | int j=>obtain⟨b,rfl⟩:=a;exact PySem.EqNone.eq_none_int (aU I q (by simp))
  | str j=>obtain⟨b,rfl⟩:=a;exact PySem.EqNone.eq_none_str (aU I q (by simp))
  | _=>exact absurd (show false=true from c) Nc
 | bl i=>
  cases d
  cases y with
  | non=>cases a;exact PySem.EqNone.eq_bool_none (aU I q (by simp))
  | bl j=>cases a;exact eq_bool (aU I q DI)
  | str j=>obtain⟨b,rfl⟩:=a;exact PySem.EqMixed.eq_bool_str (aU I q (by simp))
  | _=>exact absurd (show false=true from c) Nc
 | int i=>
  obtain⟨t,rfl⟩:=d
  cases y with
  | non=>cases a;exact PySem.EqNone.eq_int_none (aU I q (by simp))
  | int j=>obtain⟨b,rfl⟩:=a;exact eq_int (aU I q B1)
  | str j=>obtain⟨b,rfl⟩:=a;exact PySem.EqMixed.eq_int_str (aU I q (by simp))
  | _=>exact absurd (show false=true from c) Nc
 | str i=>
  obtain⟨t,rfl⟩:=d
  cases y with
  | non=>cases a;exact PySem.EqNone.eq_str_none (aU I q (by simp))
  | bl j=>cases a;exact PySem.EqMixed.eq_str_bool (aU I q (by simp))
  | int j=>obtain⟨b,rfl⟩:=a;exact PySem.EqMixed.eq_str_int (aU I q (by simp))
  | str j=>obtain⟨b,rfl⟩:=a;exact eq_str (aU I q B2)
  | _=>exact absurd (show false=true from c) Nc
 | byt i=>
  obtain⟨t,rfl⟩:=d
  cases y with
  | byt j=>obtain⟨b,rfl⟩:=a;exact PySem.W.eq_bytes (aU I q B3)
  | _=>exact absurd (show false=true from c) Nc
 | _=>cases y <;> exact absurd (show false=true from c) Nc
theorem CI:OpR X (compareOp .NotEq) rNe:=by
 intro e s σ H x y v u Q I d a h;obtain⟨c,q⟩:=h
 cases x with
 | non=>
  cases d
  cases y with
  | non=>cases a;exact PySem.EqNone.ne_none_none (aU I q (by simp))
  | bl j=>cases a;exact PySem.EqNone.ne_none_bool (aU I q (by simp))
  | int j=>obtain⟨b,rfl⟩:=a;exact PySem.EqNone.ne_none_int (aU I q (by simp))
  | str j=>obtain⟨b,rfl⟩:=a;exact PySem.EqNone.ne_none_str (aU I q (by simp))
  | _=>exact absurd (show false=true from c) Nc
 | bl i=>
  cases d
  cases y with
  | non=>cases a;exact PySem.EqNone.ne_bool_none (aU I q (by simp))
  | bl j=>cases a;exact ne_bool (aU I q (congrArg not DI))
  | str j=>obtain⟨b,rfl⟩:=a;exact PySem.EqMixed.ne_bool_str (aU I q (by simp))
  | _=>exact absurd (show false=true from c) Nc
 | int i=>
  obtain⟨t,rfl⟩:=d
  cases y with
  | non=>cases a;exact PySem.EqNone.ne_int_none (aU I q (by simp))
  | int j=>obtain⟨b,rfl⟩:=a;exact ne_int (aU I q (congrArg not B1))
  | str j=>obtain⟨b,rfl⟩:=a;exact PySem.EqMixed.ne_int_str (aU I q (by simp))
  | _=>exact absurd (show false=true from c) Nc
 | str i=>
  obtain⟨t,rfl⟩:=d
  cases y with
  | non=>cases a;exact PySem.EqNone.ne_str_none (aU I q (by simp))
  | bl j=>cases a;exact PySem.EqMixed.ne_str_bool (aU I q (by simp))
  | int j=>obtain⟨b,rfl⟩:=a;exact PySem.EqMixed.ne_str_int (aU I q (by simp))
  | str j=>obtain⟨b,rfl⟩:=a;exact ne_str (aU I q (congrArg not B2))
  | _=>exact absurd (show false=true from c) Nc
 | byt i=>
  obtain⟨t,rfl⟩:=d
  cases y with
  | byt j=>obtain⟨b,rfl⟩:=a;exact PySem.W.ne_bytes (aU I q (congrArg not B3))
  | _=>exact absurd (show false=true from c) Nc
 | _=>cases y <;> exact absurd (show false=true from c) Nc
def Jl:OpR X (compareOp .Lt) (rI0 λi j=>.bl (decide (i<j))):=CF λ_ _ _ _ _ _ _ q=>lt_int q
def Jm:OpR X (compareOp .LtE) (rI0 λi j=>.bl (decide (i<=j))):=CF λ_ _ _ _ _ _ _ q=>le_int q
def Jn:OpR X (compareOp .Gt) (rI0 λi j=>.bl (decide (j<i))):=CF λ_ _ _ _ _ _ _ q=>gt_int q
def Jo:OpR X (compareOp .GtE) (rI0 λi j=>.bl (decide (j<=i))):=CF λ_ _ _ _ _ _ _ q=>ge_int q
theorem DJ:OpR X (compareOp .In) (λx y H Q=>∃ i j,x=.str i/\y=.str j/\Q (.bl (!(Builtin.Str.occurrences j i 0 j.length 1).isEmpty)) H):=by
 intro d s σ H x y v u Q I a b h;obtain⟨i,j,rfl,rfl,q⟩:=h;obtain⟨t,rfl⟩:=a;obtain⟨c,rfl⟩:=b;exact in_str (aU I q rfl)
theorem HP:OpR X (compareOp .Is) (λx y H Q=>y=.non/\Q (.bl (decide (x=.non))) H):=by
 intro c s σ H x y v u Q I a b h;obtain⟨rfl,q⟩:=h;cases b;refine is_none_gen (aU I q ?_)
 cases x <;> first
  | (cases a;rfl)
  | (obtain⟨t,rfl⟩:=a;rfl)
theorem GF:OpR X (compareOp .IsNot) (λx y H Q=>y=.non/\Q (.bl (!decide (x=.non))) H):=by
 intro c s σ H x y v u Q I a b h;obtain⟨rfl,q⟩:=h;cases b;refine isnot_none_gen (aU I q ?_)
 cases x <;> first
  | (cases a;rfl)
  | (obtain⟨t,rfl⟩:=a;rfl)
theorem ak(b:Expr){a:CmpOp}(h:a≠.In:=by decide)(h2:a≠.NotIn:=by decide):behindInMarks a b=false:=by
 have e1:(a==CmpOp.In)=false:=by cases a <;> first | rfl | exact absurd rfl h
 have e2:(a==CmpOp.NotIn)=false:=by cases a <;> first | rfl | exact absurd rfl h2
 cases b <;> simp[behindInMarks,e1,e2]
theorem az{c:CmpOp}{r:R2}(g:OpR X (compareOp c) r)(n:PE X a ta)(d:PE X b tb)(l:behindInMarks c b=false):PE X (.Compare a [c] [b] pos) (tOp r ta tb):=by
 intro m s σ H Q I h;exact wpAny_Compare1 (binT n d I h λv u j x y i k e f q=>g m j σ i x y v u Q k e f q) l
def tTest(t:TE):TT:=λσ H Q=>t σ H λx a=>∃ k,x=.bl k/\Q k a
theorem ao{f:CmpOp}{r:R2}(m:OpR X (compareOp f) r)(B:PE X a ta)(j:PE X b tb)(p:behindInMarks f b=false):PT X (.Compare a [f] [b] pos) (tTest (tOp r ta tb)):=by
 intro d s σ H Q I h
 refine wpAny_isTrue_Compare1 (thn (B d s σ H _ I h) λv s1 ⟨x,i,A,r1,C⟩=>thn (j d s1 σ i _ A C) λu n ⟨y,E,o,w,t⟩=>
  thn (m d n σ E x y v u _ o r1 w t) λc F ⟨z,l,q,D,k,e,g⟩=>?_) p
 subst e;cases D;exact OE ⟨l,q,g⟩
theorem rq:(sizeLine:Nat)<2^63:=by rw[sizeLine_eq];decide
theorem CJ:OpR X (binaryOp .Add) (λx y H Q=>∃ i j,x=.str i/\y=.str j/\i.length+j.length<=sizeLine/\Q (.str (i++j)) H):=by
 intro f s σ H x y v u Q I b c h;obtain⟨i,j,rfl,rfl,d,q⟩:=h;obtain⟨t,rfl⟩:=b;obtain⟨a,rfl⟩:=c;exact add_str (λa e=>⟨.str (i++j),H,I.tok _,⟨_,rfl⟩,q⟩) d
theorem d4{x:V}{us:List Value}(r:Vals [x] us):∃ u,us=[u]/\RelV x u:=by
 cases r with
 | cons r1 a=>cases a;exact⟨_,rfl,r1⟩
theorem CK{x y:V}{us:List Value}(r:Vals [x,y] us):∃ u a,us=[u,a]/\RelV x u/\RelV y a:=by
 cases r with
 | cons r1 d=>
  cases d with
  | cons c b=>cases b;exact⟨_,_,rfl,r1,c⟩
theorem DK(b:X.calm=true):CallR X (.builtin "min") (λxs H Q=>∃ i j,xs=[.int i,.int j]/\Q (.int (if j<i then j else i)) H):=by
 intro f s σ H xs d Q I r h;obtain⟨i,j,rfl,q⟩:=h;obtain⟨u,g,rfl,⟨t,rfl⟩,⟨c,rfl⟩⟩:=CK r;refine min_two_ints (I.ok.hd b) λl e k=>⟨_,H,I.kept k,?_,q⟩;by_cases a:j<i
 . rw[NA a,NA a];exact⟨_,rfl⟩
 . rw[Nt a,Nt a];exact⟨_,rfl⟩
theorem xZ:CallR X (.type "int") (λxs H Q=>(∃ i,xs=[.int i]/\Q (.int i) H)\/∃ k,xs=[.bl k]/\Q (.int (if k then 1 else 0)) H):=by
 intro a s σ H xs b Q I r h;rcases h with ⟨i,rfl,q⟩ | ⟨k,rfl,q⟩
 . obtain⟨u,rfl,t,rfl⟩:=d4 r;exact call_int_int ⟨.int i,H,I,⟨_,rfl⟩,q⟩
 . obtain⟨u,rfl,r1⟩:=d4 r;cases r1;exact call_int_bool ⟨.int (if k then 1 else 0),H,I.tok _,⟨_,rfl⟩,q⟩
end
structure ObjM(h:Heap)(x dx C:Addr)(mA:Str->Option Value):Prop where
 obj:h.get? x=some (PySem.W.instObj C dx)
 ns:h.Ns1 dx mA
 ne:dx≠x
variable{mA:Str->Option Value}
theorem DL{h:Heap}{g:Addr}(n:h.Ns1 g mA):∃ f,h.get? g=some f/\∀ b,PySem.W.lookIn b f=some (mA b):=by
 obtain⟨o,d,r,m,j,i,_,p⟩:=n;refine⟨o,m,λb=>?_⟩;have e:=p b;unfold nsFind findBy at e;rw[← Array.find?_toList]at e;unfold PySem.W.lookIn;rw[j];dsimp only
 split
 . rename_i y q
   rw[q]at e;exact congrArg some e
 . rename_i q
   rw[q]at e
   have a:d.toList.any (·.refKey)=false:=by
    rw[Pr];intro y k;obtain⟨z,t,c⟩:=i y (Array.mem_toList_iff.mp k);simp[DictEntry.refKey,c]
   have l:¬ d.toList.any (·.refKey)=true:=by rw[a];exact Nc
   rw[Nt l];exact congrArg some e
variable{C:Addr}
def ObjM.look{h:Heap}{x c:Addr}(I:ObjM h x c C mA):∃ b,PySem.W.InstAt h x (PySem.W.instObj C c) C (some b)/\∀ a,PySem.W.lookIn a b=some (mA a):=
 let ⟨b,e,d⟩:=DL I.ns
 ⟨b,⟨I.obj,rfl,rfl,e⟩,d⟩
section
variable{prog:Program}{w:World}{A:Around}{E:Value->Shared->Prop}{s:Shared}{K:Frag}{x dx C f:Addr}{mA:Str->Option Value}{name:Str}{v:Value}
theorem GG {a:Bool} {Q:Value->Shared->Prop} (X:K.In s.heap) (I:ObjM s.heap x dx C mA) (e:PySem.W.plainGet K C name=true) (c:PySem.W.hasDictIn K C=true)
  (f:findIn K (.ref C) name=some none) (g:mA name=some v) (b:PySem.W.handedIn v=true) (h:Q v {s with toks:=s.toks+1}):
  wpAny (model prog w) A (getAttr (.ref x) name a) Q E s:=by
 obtain⟨i,J,d⟩:=I.look;exact PySem.W.get_value X J (PR e).1 (PySem.W.findObj_own c f rfl (by rw[d,g])) b h
theorem Fy {pl:Sem Bool} {Q:Value × List Value->Shared->Prop} (X:K.In s.heap) (I:ObjM s.heap x dx C mA) (a:PySem.W.plainGet K C name=true)
  (c:findIn K (.ref C) name=some ↑f) (d:isFn K (.ref f)=true) (g:mA name=none) (h:Q (.ref f,[.ref x]) s):
  wpAny (model prog w) A (getMethod (.ref x) name pl) Q E s:=by
 obtain⟨e,J,b⟩:=I.look;exact PySem.W.method_fn X J (PR a).1 (PR a).2 c (O7.mp d) (by show(PySem.W.lookIn name e).map (·.isSome)=some false;rw[b,g];rfl) h
theorem GH {ns:List Str} {Q:Unit->Shared->Prop} (X:K.In s.heap) (I:ObjM s.heap x dx C mA)
  (q:findIn K (.ref C) "__setattr__"=some (some (.builtin "object.__setattr__"))) (p:PySem.W.plainOver K C=true) (o:PySem.W.takerIn K C name=some none) (k:PySem.W.hasDictIn K C=true)
  (hw:PySem.Within mA ns) (j:ns.length<=sizeLine)
  (h:∀ h',ObjM h' x dx C (λy=>if y=name then some v else mA y)->Heap.SameBut dx s.heap h'->Q () {s with heap:=h',toks:=s.toks+2}):
  wpAny (model prog w) A (setAttr (.ref x) name v) Q E s:=by
 obtain⟨B,J,z⟩:=I.look;refine PySem.W.set_plain X J q (PySem.W.osa_open (s:={s with toks:=s.toks+1}) (r:=none) X J p o λb=>?_);obtain⟨D,n,g⟩:=PySem.W.any_some k;have l:s.heap.get? x=some ⟨.ref C,some dx,.plain,#[]⟩:=I.obj;refine NV (N9 (NV (NV (wpAny_loadPart l (NV (PySem.W.Looks.here (s:={s with toks:=s.toks+1}) (PySem.W.looks_clsIn X n) ?_))))));rw[g];refine N9 (a:=some dx) (NV (N9 (NV ?_)));refine wpAny_nsSet1 (s:={s with toks:=s.toks+1}) I.ns λh' d c=>?_;obtain⟨u,m,t,i,f,e⟩:=d.count (PySem.Within.cons name v hw);refine NV (wpAny_lookBehind i (by rw[f];exact pastItsLine_dict (Nk e (by rw[NJ];lia))) ?_);exact N9 (h _ ⟨(c.2 _ (P1 I.ne)).trans I.obj,d,I.ne⟩ c)
theorem Fz {R:Result->Shared->Prop} {vs:List Value} {b:List (Str × Value)} (X:K.In s.heap) (e:PySem.W.makesIn K C=true)
  (i:findIn K (.ref C) "__init__"=some ↑f) (c:PySem.W.typeIn K (.ref f)=some (.type "function"))
  (h:codeAny (model prog w) (A.under (.builtin "type.__call__" ⟨.ref C::vs,b⟩)) (.call (.ref f) ⟨.ref (s.heap.objs.size+1)::vs,b⟩) (PySem.W.InitBack (s.heap.objs.size+1) R)
   {s with heap:=(s.heap.push PySem.W.emptyDict).push (PySem.W.instObj C s.heap.objs.size)}):
  codeAny (model prog w) A (.call (.ref C) ⟨vs,b⟩) R s:=by
 obtain⟨j,g,d,t,k⟩:=s;exact PySem.W.make_core (PySem.W.makes_of X e) (PySem.W.looks_findIn X i) (λa=>PySem.W.bind_fn X a c) (.inl rfl) h
end
def putF(f:Str)(v:V):List (Str × V)->List (Str × V)
 | []=>[(f,v)]
 | (g,x)::r=>if g=f then(g,v)::r else(g,x)::putF f v r
theorem tV(f g:Str)(v:V):∀ fs:List (Str × V),(putF f v fs).lookup g=if g=f then some v else fs.lookup g
 | []=>by
  show List.lookup g [(f,v)]=_;by_cases h:g=f
  . have a:(g==f)=true:=O7.mpr h;simp only[List.lookup,a,NA h]
  . have a:(g==f)=false:=Ph.mpr h;simp only[List.lookup,a,Nt h]
 | (k,x)::r=>by
  have c:=tV f g v r;rw[show putF f v ((k,x)::r)=(if k=f then(k,v)::r else(k,x)::putF f v r) from rfl];by_cases b:k=f
  . rw[NA b];by_cases h:g=k
    . have a:(g==k)=true:=O7.mpr h;simp only[List.lookup,a,NA (h.trans b)]
    . have a:(g==k)=false:=Ph.mpr h;simp only[List.lookup,a,Nt (λe:g=f=>h (e.trans b.symm))]
  . rw[Nt b];by_cases h:g=k
    . have a:(g==k)=true:=O7.mpr h;simp only[List.lookup,a,Nt (λe:g=f=>b (h.symm.trans e))]
    . have a:(g==k)=false:=Ph.mpr h;simp only[List.lookup,a];exact c
theorem rz(f:Str)(v:V):∀ fs:List (Str × V),f∈(putF f v fs).map (·.1)/\∀ g,g∈fs.map (·.1)->g∈(putF f v fs).map (·.1)
 | []=>⟨by simp[putF],λg h=>by simp at h⟩
 | (k,x)::r=>by
  obtain⟨b,c⟩:=rz f v r;rw[show putF f v ((k,x)::r)=(if k=f then(k,v)::r else(k,x)::putF f v r) from rfl];by_cases a:k=f
  . rw[NA a];subst a;exact⟨by simp,λg h=>by simpa using h⟩
  . rw[Nt a];refine⟨?_,λg h=>?_⟩
    . rw[NK];exact Ni _ b
    . rw[NK]at h ⊢;rcases Ng.mp h with e | e
      . exact Ng.mpr (.inl e)
      . exact Ni _ (c g e)
theorem tW(f:Str)(v:V):∀ fs:List (Str × V),(putF f v fs).length<=fs.length+1
 | []=>by simp[putF]
 | (k,x)::r=>by
  have b:=tW f v r;rw[show putF f v ((k,x)::r)=(if k=f then(k,v)::r else(k,x)::putF f v r) from rfl];by_cases a:k=f
  . rw[NA a,NJ,NJ];lia
  . rw[Nt a,NJ,NJ];lia
variable{o:Option Value}
theorem RelO.some_of{v:V}(r:RelO (some v) o):∃ u,o=some u/\RelV v u:=by
 cases o with
 | none=>exact(show False from r).elim
 | some u=>exact⟨u,rfl,r⟩
abbrev QR:=@RelO.some_of
theorem RelO.none_of(r:RelO none o):o=none:=by
 cases o with
 | none=>rfl
 | some u=>exact(show False from r).elim
theorem DM{v:V}{u:Value}(r:RelV v u):PySem.W.handedIn u=true:=by
 cases v with
 | non=>cases (show u=Value.none from r);rfl
 | bl b=>cases (show u=Value.bool b from r);rfl
 | int i=>obtain⟨t,e⟩:=(show ∃ t,u=Value.int i t from r);cases e;rfl
 | str x=>obtain⟨t,e⟩:=(show ∃ t,u=Value.str x t from r);cases e;rfl
 | byt b=>obtain⟨t,e⟩:=(show ∃ t,u=Value.bytes b t from r);cases e;rfl
 | flt b=>obtain⟨t,e⟩:=(show ∃ t,u=Value.float b t from r);cases e;rfl
 | ref a=>cases (show u=Value.ref a from r);rfl
 | ty n=>cases (show u=Value.type n from r);rfl
section
variable{P:Program}{w:World}{H H':Hp}{h h':Heap}{a C dx:Addr}{fs fs':List (Str × V)}
theorem sY(b:HOk P w H h)(e:H a=some (.ins C dx fs)):∃ mA,ObjM h a dx C mA/\(∀ f,RelO (fs.lookup f) (mA f))/\PySem.Within mA (fs.map (·.1))/\fs.length<=1000/\H dx=some (.own a):=by
 obtain⟨d,z,c,g,mA,n,r,q⟩:=(show ObjOk P w H h a (.ins C dx fs) from b a _ e);exact⟨mA,⟨g,n,c⟩,r,q,z,d⟩
end
structure Cls(K:Frag)(C:Addr):Prop where
 pg:PySem.W.plainGet K C Str.empty=true
 hd:PySem.W.hasDictIn K C=true
 po:PySem.W.plainOver K C=true
 sa:findIn K (.ref C) "__setattr__"=some (some (.builtin "object.__setattr__"))
def Cls.get{K:Frag}(c:Cls K C)(f:Str):PySem.W.plainGet K C f=true:=c.pg
def NoAttr(K:Frag)(C:Addr)(f:Str):Prop:=findIn K (.ref C) f=some none
theorem NoAttr.taker{K:Frag}{f:Str}(n:NoAttr K C f):PySem.W.takerIn K C f=some none:=by
 unfold PySem.W.takerIn;rw[show findIn K (.ref C) f=some none from n];rfl
structure Meth(K:Frag)(C:Addr)(m:Str)(f:Addr):Prop where
 at_:findIn K (.ref C) m=some ↑f
 fn:isFn K (.ref f)=true
 kp:keepIn K (.ref f)=true
section
variable{X:Cx}{MO:List (Addr × Obj)}{σ:St}{H:Hp}{s:Shared}{a C dx:Addr}{fs:List (Str × V)}{f:Str}{v:V}{A:Around}{E:Value->Shared->Prop}
theorem CL {b:Bool} {Q:Value->Shared->Prop} (I:Inv X MO σ H s) (e:H a=some (.ins C dx fs)) (c:Cls X.K C) (n:NoAttr X.K C f) (l:fs.lookup f=some v)
  (h:∀ u s',Inv X MO σ H s'->RelV v u->Q u s'):wpAny (model X.prog X.w) A (getAttr (.ref a) f b) Q E s:=by
 obtain⟨mA,O,r,_,_,_⟩:=sY I.hok e;obtain⟨u,g,d⟩:=QR (v:=v) (o:=mA f) (by rw[← l];exact r f);exact GG I.kIn O (c.get f) c.hd n g (DM d) (h u _ (I.tok _) d)
theorem vf {m:Str} {g:Addr} {pl:Sem Bool} {Q:Value × List Value->Shared->Prop} (I:Inv X MO σ H s) (e:H a=some (.ins C dx fs)) (c:Cls X.K C) (k:Meth X.K C m g) (l:fs.lookup m=none)
  (h:Q (.ref g,[.ref a]) s):wpAny (model X.prog X.w) A (getMethod (.ref a) m pl) Q E s:=by
 obtain⟨mA,O,r,_,_,_⟩:=sY I.hok e;have b:mA m=none:=RelO.none_of (by rw[← l];exact r m);exact Fy I.kIn O (c.get m) k.at_ k.fn b h
theorem CM {y:V} {u:Value} {Q:Unit->Shared->Prop} (I:Inv X MO σ H s) (e:H a=some (.ins C dx fs)) (c:Cls X.K C) (n:NoAttr X.K C f) (F:fs.length<1000) (v:RelV y u)
  (h:∀ s',Inv X MO σ (upd H a (.ins C dx (putF f y fs))) s'->Q () s'):wpAny (model X.prog X.w) A (setAttr (.ref a) f u) Q E s:=by
 obtain⟨mA,O,r,i,_,j⟩:=sY I.hok e;have B:(fs.map (·.1)).length<=sizeLine:=by rw[MZ,sizeLine_eq];lia
 refine GH I.kIn O c.sa c.po n.taker c.hd i B λD d t=>h _ ?_;have l:∃ o,D.get? dx=some o:=let ⟨o,_,_,k,_⟩:=d.ns;⟨o,k⟩;refine I.write (x:=a) (e:=dx) (by rw[e];exact True.intro) (.inr j) (λb q p z=>(t.2 b p).trans z) l ?_;refine⟨by rw[aj O.ne];exact j,?_,O.ne,d.obj,_,d.ns,λg=>?_,λg m=>?_⟩
 . have:=tW f y fs;lia
 . show RelO ((putF f y fs).lookup g) (if g=f then some u else mA g);rw[tV];by_cases q:g=f
   . rw[NA q,NA q];exact v
   . rw[Nt q,Nt q];exact r g
 . by_cases q:g=f
   . rw[q];exact(rz f y fs).1
   . refine(rz f y fs).2 g (i g λz=>m ?_);show(if g=f then some u else mA g)=none;rw[Nt q];exact z
theorem Inv.made(I:Inv X MO σ H s):Inv X MO σ (upd (upd H s.heap.objs.size (.own (s.heap.objs.size+1))) (s.heap.objs.size+1) (.ins C s.heap.objs.size []))
  {s with heap:=(s.heap.push PySem.W.emptyDict).push (PySem.W.instObj C s.heap.objs.size)}:=by
 have e1:(s.heap.push PySem.W.emptyDict).get? s.heap.objs.size=some PySem.W.emptyDict:=NN s.heap rfl
 have e2:((s.heap.push PySem.W.emptyDict).push (PySem.W.instObj C s.heap.objs.size)).get? (s.heap.objs.size+1)=some (PySem.W.instObj C s.heap.objs.size):=by
  have:=NN (s.heap.push PySem.W.emptyDict) (o:=PySem.W.instObj C s.heap.objs.size) rfl
  rwa [ON]at this
 have d:(s.heap.push PySem.W.emptyDict).Ns s.heap.objs.size (λ_=>none):=⟨PySem.W.emptyDict,#[],_,e1,rfl,(λe g=>absurd g (by simp)),λ_=>rfl⟩;have h:=I.laid (a:=s.heap.objs.size) (o:=.own (s.heap.objs.size+1)) (h':=s.heap.push PySem.W.emptyDict) (t':=s.toks) (λb u q=>Nq _ q) (Nr _) ⟨_,e1⟩;refine h.laid (a:=s.heap.objs.size+1) (o:=.ins C s.heap.objs.size []) (t':=s.toks) (λb u q=>Nq _ q) (Nat.le_of_eq (ON _ _)) ?_;have c:s.heap.objs.size≠s.heap.objs.size+1:=NS (Pd _);refine⟨by rw[aj c,ah],Oc _,c,e2,λ_=>none,(Heap.Ns1.of_empty d).at λo q=>Nq _ q,λ_=>True.intro,λy f=>absurd rfl f⟩
def GI {prog:Program} {w:World} {env:Env} {e:Expr} {f:Str} {pos:Pos} {s:Shared} {Q:Value->Shared->Prop} (b:attributeBase e f env (eval e env)=eval e env)
  (h:wpAny (model prog w) A (eval e env) (λo a=>wpAny (model prog w) A (getAttr o f true) Q E a) E s):wpAny (model prog w) A (eval (.Attribute e f pos) env) Q E s:=
 Attribute_any_ h (by rw[arm_eval_Attribute,b])
end
section
variable{X:Cx}{o e value:Expr}{f:Str}{pos pos' tpos:Pos}{ta tv:TE}
end
section
variable{X:Cx}{MO:List (Addr × Obj)}{σ:St}{H:Hp}{s:Shared}{A:Around}{E:Value->Shared->Prop}{Q:Value->Shared->Prop}{c:Value}{b:Bool}
inductive TyOf(K:Frag)(H:Hp):V->Value->Prop where
 | non:TyOf K H .non (.type "NoneType")
 | bl (x:Bool):TyOf K H (.bl x) (.type "bool")
 | int (i:Int):TyOf K H (.int i) (.type "int")
 | str (x:Str):TyOf K H (.str x) (.type "str")
 | flt (x:UInt64):TyOf K H (.flt x) (.type "float")
 | lst {a:Addr} {xs:List V} (e:H a=↥xs):TyOf K H (.ref a) (.type "list")
 | frz {a:Addr} {o:Obj} {xs:List V} (e:H a=some (.frz o (.lst xs))):TyOf K H (.ref a) (.type "list")
 | tup {a:Addr} {xs:List V} (e:H a=some (.tup xs)):TyOf K H (.ref a) (.type "tuple")
 | dK {a:Addr} {MR:List (Key × V)} (e:H a=some (.dK MR)):TyOf K H (.ref a) (.type "dict")
 | dT {a:Addr} {MR:List (List Key × V)} (e:H a=some (.dT MR)):TyOf K H (.ref a) (.type "dict")
 | ins {a C dx:Addr} {fs:List (Str × V)} (e:H a=some (.ins C dx fs)) (cl:Cls K C) (ha:findIn K (.ref C) "__class__"=some (some (.builtin "object.__class__")))
   (hn:PySem.W.specialIn K (.builtin "object.__class__") "__get__"=some (some (.builtin "getset_descriptor.__get__"))) (htk:PySem.W.takesIn K (.builtin "object.__class__")=some true)
   (hm:PySem.W.mroIn K C (.type "object")=some true):TyOf K H (.ref a) (.ref C)
theorem DN{x:V}{u t:Value}(I:Inv X MO σ H s)(d:RelV x u)(B:TyOf X.K H x t)(e:PySem.W.kitOne X.K t c=some b)(h:∀ D,Q (.bool b) {s with toks:=D}):
  wpAny (model X.prog X.w) A (call (.builtin "isinstance") [u,c]) Q E s:=by
 cases B with
 | non=>cases (show u=Value.none from d);exact Oo PySem.W.kitx_none I.kIn True.intro e (λz=>nomatch z) h
 | bl y=>cases (show u=Value.bool y from d);exact Oo PySem.W.kitx_bool I.kIn True.intro e (λz=>nomatch z) h
 | int i=>obtain⟨t,q⟩:=(show ∃ t,u=Value.int i t from d);cases q;exact Oo PySem.W.kitx_int I.kIn True.intro e (λz=>nomatch z) h
 | str y=>obtain⟨t,q⟩:=(show ∃ t,u=Value.str y t from d);cases q;exact Oo PySem.W.kitx_str I.kIn True.intro e (λz=>nomatch z) h
 | flt y=>obtain⟨t,q⟩:=(show ∃ t,u=Value.float y t from d);cases q;exact Oo PySem.W.kitx_float I.kIn True.intro e (λz=>nomatch z) h
 | @lst a g f=>
  cases (show u=Value.ref a from d);obtain⟨_,_,n,_,h1⟩:=(show ObjOk X.prog X.w H s.heap a (.lst g) from I.hok a _ f);exact Oo PySem.W.kitx_list I.kIn ⟨_,h1,rfl⟩ e (λz=>nomatch z) h
 | @frz a m g f=>
  cases (show u=Value.ref a from d);obtain⟨_,_,_,n,_,h1⟩:=(show ObjOk X.prog X.w H s.heap a (.frz m (.lst g)) from I.hok a _ f);exact Oo PySem.W.kitx_list I.kIn ⟨_,h1,rfl⟩ e (λz=>nomatch z) h
 | @tup a g f=>
  cases (show u=Value.ref a from d);obtain⟨_,_,_,p⟩:=(show ObjOk X.prog X.w H s.heap a (.tup g) from I.hok a _ f);obtain⟨o,h1,h2,_⟩:=p;exact Oo PySem.W.kitx_tuple I.kIn ⟨o,h1,h2⟩ e (λz=>nomatch z) h
 | @dK a j f=>
  cases (show u=Value.ref a from d);obtain⟨_,_,vs,_,p⟩:=(show ObjOk X.prog X.w H s.heap a (.dK j) from I.hok a _ f);obtain⟨o,r,G,h1,h2,_⟩:=p;exact Oo PySem.W.kitx_dict I.kIn ⟨o,h1,h2.1⟩ e (λz=>nomatch z) h
 | @dT a j f=>
  cases (show u=Value.ref a from d);obtain⟨_,_,g,_,o,r,G,h1,h2,_⟩:=(show ObjOk X.prog X.w H s.heap a (.dT j) from I.hok a _ f);exact Oo PySem.W.kitx_dict I.kIn ⟨o,h1,h2.1⟩ e (λz=>nomatch z) h
 | @ins a C P M f l L v k F=>
  cases (show u=Value.ref a from d);obtain⟨mA,O,_⟩:=sY I.hok f;obtain⟨N,J,_⟩:=O.look;exact Oo (PySem.W.kitx_own (l.get _) l.hd L v k F) I.kIn J e (λz=>nomatch z) h
end
structure Room(k:Nat)(A:Around):Prop where
 hd:A.handled=none
 dp:A.depth+3*k+5<recursionLimit
 un:A.units+16*k+200<cLine
variable{A:Around}
def Room.mono{j k:Nat}(r:Room k A)(h:j<=k):Room j A:=⟨r.hd,by have:=r.dp;omega,by have:=r.un;omega⟩
def Room.deeper{k:Nat}(r:Room (k+1) A)(env:Env):Room k (A.deeper env):=
 ⟨r.hd,by have:=r.dp;show A.depth+1+3*k+5<_;omega,by have:=r.un;show A.units+3+16*k+200<_;omega⟩
variable{us:List Value}{kw:List (Str × Value)}
theorem CN{C:Addr}:(A.under (.builtin "type.__call__" ⟨.ref C::us,kw⟩)).depth=A.depth+1:=by
 first | rfl | simp[Around.under,Code.weight,Code.isCreation,Code.isGuard,Code.isCaller,Code.frames,Code.isFrame,guardIds]
theorem CO{C:Addr}:(A.under (.builtin "type.__call__" ⟨.ref C::us,kw⟩)).units=A.units+1:=by
 first | rfl | simp[Around.under,Code.cUnits,Code.frames,Code.isFrame]
def Room.make{k:Nat}(r:Room (k+1) A)(C:Addr)(us:List Value)(kw:List (Str × Value)):Room k (A.under (.builtin "type.__call__" ⟨.ref C::us,kw⟩)):=
 ⟨r.hd,by have:=r.dp;rw[CN];omega,by have:=r.un;rw[CO];omega⟩
def Room.depth{k:Nat}(r:Room k A):A.depth<recursionLimit:=by have:=r.dp;omega
def Room.units{k:Nat}(r:Room k A):A.units+64<cLine:=by have:=r.un;omega
def tNil:TA:=λ_ H Q=>Q [] H
def tCons(e:TE)(c:TA):TA:=λσ H Q=>e σ H λx a=>c σ a λb d=>Q (x::b) d
section
variable{X:Cx}{e:Expr}{es:List Expr}{te:TE}{t:TA}{pos:Pos}
def ac:PA X [] tNil:=λ_ _ _ _ H Q I h=>O5 ⟨[],H,I,.nil,h⟩
theorem ab(c:PE X e te)(n:PA X es t)(i:starEach (e::es) X.env=(false,eval e X.env)::starEach es X.env:=by rfl):PA X (e::es) (tCons te t):=by
 intro pos a s σ H Q I h;rw[i];show wpAny _ _ (spliced ((false,eval e X.env)::backTo pos (starEach es X.env))) _ _ s;refine O0 (thn (c a s σ H _ I h) λu s1 ⟨x,b,m,r1,j⟩=>?_);exact thn (n pos a s1 σ b _ m j) λus o ⟨d,k,l,g,f⟩=>⟨x::d,k,l,.cons r1 g,f⟩
def tTup(t:TA):TE:=λσ H Q=>t σ H λb a=>b.length<=sizeLine/\∀ p,a p=none->Q (.ref p) (upd a p (.tup b))
def tLst(t:TA):TE:=λσ H Q=>t σ H λb a=>b.length<=sizeLine/\∀ p,a p=none->Q (.ref p) (upd a p (.lst b))
theorem fA{x1}(h:PA X es t):PE X (.Tuple es x1 pos) (tTup t):=by
 intro i s σ H Q I g;refine wpAny_Tuple_spliced (thn (h pos i s σ H _ I g) λus s1 ⟨d,a,c,r,z,q⟩=>⟨by rw[← r.length];exact z,?_⟩);have f:a s1.heap.objs.size=none:=c.hok.fresh (Nr _);refine⟨.ref s1.heap.objs.size,upd a s1.heap.objs.size (.tup d),c.laid (t':=s1.toks) (λb u e=>Nq _ e) (Nr _) ?_,rfl,q _ f⟩;exact⟨z,us,r,⟨_,NN _ rfl,rfl,_,rfl⟩⟩
theorem aB(h:PA X es t):PE X (.List es pos) (tLst t):=by
 intro i s σ H Q I g;refine wpAny_List_spliced (thn (h pos i s σ H _ I g) λus s1 ⟨d,a,c,r,z,q⟩=>⟨by rw[← r.length];exact z,?_⟩);have f:a s1.heap.objs.size=none:=c.hok.fresh (Nr _);refine⟨.ref s1.heap.objs.size,upd a s1.heap.objs.size (.lst d),c.laid (t':=s1.toks) (λb u e=>Nq _ e) (Nr _) ?_,rfl,q _ f⟩;exact⟨z,us,0,r,NN _ rfl⟩
end
abbrev Sp:=List V->Hp->VK->XK->Prop
abbrev CXT:=List Env->Hp->Shared->XK->Value->Shared->Prop
structure Env0(P:Program)(w:World)(K:Frag)(mg:Str->Option Value)(base:Heap)(A:Around)(outer:List Env)(s:Shared)(H:Hp):Prop where
 frames:A.frames=some outer
 mod:Mod K mg base
 bs:∀ b o,base.get? b=some o->s.heap.get? b=some o/\H b=none
 bsz:base.objs.size<=s.heap.objs.size
 funs:s.heap.FunFrames base outer
 frf:∀ b∈frs outer,H b=none
 hok:HOk P w H s.heap
 bare:AllBare s.gens
def CE(a:List Env)(P:Program)(w:World)(H:Hp)(s:Shared)(Q:VK)(u:Value)(s':Shared):Prop:=
 ∃ v b,s'.os=s.os/\AllBare s'.gens/\Un (frs a) [] H b s.heap s'.heap/\HOk P w b s'.heap/\RelV v u/\Q v b
def CR(CX:CXT)(a:List Env)(P:Program)(w:World)(H:Hp)(s:Shared)(Q:VK)(E:XK)(r:Result)(s':Shared):Prop:=
 match r with
 | .ok (.ret u)=>CE a P w H s Q u s'
 | .ok _=>False
 | .error e=>CX a H s E e s'
structure FnOk(P:Program)(w:World)(K:Frag)(mg:Str->Option Value)(base:Heap)(CX:CXT)(k:Nat)(f:Addr)(fd:FuncData)(ps:List Str)(sp:Sp):Prop where
 len:∀ vs H Q E,sp vs H Q E->vs.length=ps.length
 run:∀(A:Around) (outer:List Env) (s:Shared) (H:Hp) (args:Args) (us:List Value) (vs:List V) (Q:VK) (E:XK),Room k A->Env0 P w K mg base A outer s H->BindsTo s fd args (ps.zip us)->Vals vs us->sp vs H Q E->
  codeAny (model P w) A (.call (.ref f) args) (CR CX outer P w H s Q E) s
variable{P:Program}{w:World}{K:Frag}{mg:Str->Option Value}{base:Heap}{CX:CXT}{f:Addr}{fd:FuncData}{ps:List Str}
def FnOk.mono{j k:Nat}{sp:Sp}(F:FnOk P w K mg base CX j f fd ps sp)(h:j<=k):
  FnOk P w K mg base CX k f fd ps sp:=⟨F.len,λA a s H b us vs Q E c=>F.run A a s H b us vs Q E (c.mono h)⟩
def FnOk.imp {k:Nat} {sp b:Sp} (F:FnOk P w K mg base CX k f fd ps sp)
  (h:∀ vs H Q E,b vs H Q E->sp vs H Q E):FnOk P w K mg base CX k f fd ps b:=
 ⟨λvs H Q E q=>F.len vs H Q E (h _ _ _ _ q),λA a s H c us vs Q E i e d j g=>F.run A a s H c us vs Q E i e d j (h _ _ _ _ g)⟩
variable{outer:List Env}
def Env0.make{s:Shared}{H:Hp}(e:Env0 P w K mg base A outer s H)(C:Addr)(us:List Value)(kw:List (Str × Value)):
  Env0 P w K mg base (A.under (.builtin "type.__call__" ⟨.ref C::us,kw⟩)) outer s H:=⟨by first | exact e.frames | (simpa [Around.under,Code.envs,Code.isFrame,pushEnvs] using e.frames),e.mod,e.bs,e.bsz,e.funs,e.frf,e.hok,e.bare⟩
section
variable{X:Cx}{MO:List (Addr × Obj)}{σ:St}{H:Hp}{s s':Shared}
def Inv.env0(I:Inv X MO σ H s):Env0 X.prog X.w X.K X.mg X.base X.A X.stack s H:=
 ⟨I.ok.frames,I.ok.mod,I.bs,Nk I.ok.bsz I.sz,I.stack,I.stkFree,I.hok,I.bare⟩
theorem Inv.after{Q:VK}{u:Value}(I:Inv X MO σ H s)(h:CE X.stack X.prog X.w H s Q u s'):EP X MO σ Q u s':=by
 obtain⟨v,k,j,a,i,c,r,q⟩:=h;obtain⟨f,g,d,t,e⟩:=s';obtain rfl:e=s.os:=j;exact⟨v,k,I.call (h':=f) (g':=g) (d':=d) (t':=t) (ch:=[]) i c a (λb z=>absurd z (by simp)),r,q⟩
end
def tCall(sp:Sp)(a:List V)(E:XK)(t:TA):TE:=λσ H Q=>t σ H λvs b=>sp (vs++a) b Q E
def tMake(C:Addr)(sp:Sp)(c:List V)(E:XK)(t:TA):TE:=λσ H Q=>t σ H λvs b=>∀ x a,b x=none->b a=none->a≠x->
 sp (.ref x::(vs++c)) (upd (upd b a (.own x)) x (.ins C a [])) (λv d=>v=.non/\Q (.ref x) d) E
def Binds(K:Frag)(fd:FuncData)(ps:List Str)(a:List Value):Prop:=
 ∀(s:Shared) (us:List Value),K.In s.heap->(us++a).length=ps.length->BindsTo s fd ⟨us,[]⟩ (ps.zip (us++a))
def Binds.all(h:∀ us:List Value,us.length=ps.length->bindArgs fd ⟨us,[]⟩=pure (ps.zip us)):Binds K fd ps []:=λs us _ a=>by
 rw[O3]at a ⊢;exact .of_eq (h us a)
def rA(CX:CXT)(X:Cx)(E:XK):Prop:=∀(b:List (Addr × Obj)) (σ:St) (H:Hp) (s:Shared) (e:Value) (a:Shared),Inv X b σ H s->CX X.stack H s E e a->X.xe e a
section
variable{X:Cx}{CX:CXT}{k:Nat}{f C:Addr}{fd:FuncData}{ps:List Str}{sp:Sp}{dvs:List V}{ds:List Value}{E:XK}{x m:Str}{p pos apos:Pos}{e o:Expr}{es:List Expr}{ta:TE}{t:TA}
theorem zI {b:List (Addr × Obj)} {σ:St} {H:Hp} {s:Shared} {Q:VK} {us:List Value} {vs:List V} (F:FnOk X.prog X.w X.K X.mg X.base CX k f fd ps sp) (n:Room k X.A) (i:Binds X.K fd ps ds) (d:Vals dvs ds) (m:rA CX X E)
  (I:Inv X b σ H s) (r:Vals vs us) (h:sp (vs++dvs) H Q E):wpAny (model X.prog X.w) X.A (call (.ref f) us) (EP X b σ Q) X.xe s:=by
 have c:Vals (vs++dvs) (us++ds):=r.append d;have g:(us++ds).length=ps.length:=by rw[← c.length];exact F.len _ _ _ _ h
 refine wpAny_call (QS (F.run X.A X.stack s H ⟨us,[]⟩ (us++ds) (vs++dvs) Q E n I.env0 (i s us I.kIn g) c h) λr j a=>?_)
 cases r with
 | error e=>exact m b σ H s e j I a
 | ok l=>
  cases l with
  | ret u=>exact I.after a
  | next=>exact False.elim a
  | brk=>exact False.elim a
  | cont=>exact False.elim a
theorem GJ (F:FnOk X.prog X.w X.K X.mg X.base CX k f fd ps sp) (v:Room k X.A) (j:Gl X x) (o:X.mg x=↑f) (i:keepIn X.K (.ref f)=true) (l:Binds X.K fd ps ds) (g:Vals dvs ds) (n:rA CX X E)
  (d:PA X (e::es) t) (b:(x==("__debug__":Str))=false:=by decide) (m:starEach (e::es) X.env=(false,eval e X.env)::starEach es X.env:=by rfl) (a:(backTo pos (starEach es X.env)).any (·.1)=false:=by rfl):
  PE X (.Call (.Name x p) (e::es) [] pos) (tCall sp dvs E t):=by
 intro u s σ H Q I h;refine Os (w5 I j o ?_ b);refine P7 (h₀:=X.base) I.ok.mod.kin i (thn (d pos u s σ H _ I h) λus s1 ⟨vs,y,c,r,q⟩=>⟨c.kIn,?_⟩) m a;exact zI F v l g n c r q
structure Mk(K:Frag)(C f:Addr):Prop where
 makes:PySem.W.makesIn K C=true
 init:findIn K (.ref C) "__init__"=some ↑f
 fn:isFn K (.ref f)=true
 kp:keepIn K (.ref C)=true
theorem FA {d:List (Addr × Obj)} {σ:St} {H:Hp} {s:Shared} {Q:VK} {us:List Value} {vs:List V} (M:Mk X.K C f) (F:FnOk X.prog X.w X.K X.mg X.base CX k f fd ps sp) (n:Room (k+1) X.A) (m:Binds X.K fd ps ds) (y:Vals dvs ds)
  (p:rA CX X E) (I:Inv X d σ H s) (r:Vals vs us)
  (h:∀ x c,H x=none->H c=none->c≠x->sp (.ref x::(vs++dvs)) (upd (upd H c (.own x)) x (.ins C c [])) (λv G=>v=.non/\Q (.ref x) G) E):
  wpAny (model X.prog X.w) X.A (call (.ref C) us) (EP X d σ Q) X.xe s:=by
 have g:=h (s.heap.objs.size+1) s.heap.objs.size (I.hok.fresh (PJ _)) (I.hok.fresh (Nr _)) (NS (Pd _));have b:=Inv.made (C:=C) I;have i:Vals (V.ref (s.heap.objs.size+1)::(vs++dvs)) (Value.ref (s.heap.objs.size+1)::(us++ds)):=.cons rfl (r.append y)
 have o:(Value.ref (s.heap.objs.size+1)::us++ds).length=ps.length:=by
  have e:=i.length;rw[F.len _ _ _ _ g]at e;exact e.symm
 refine wpAny_call (Fz (f:=f) I.kIn M.makes M.init (O7.mp M.fn) (QS (F.run _ X.stack _ _ ⟨Value.ref (s.heap.objs.size+1)::us,[]⟩ (Value.ref (s.heap.objs.size+1)::(us++ds)) _ _ E (n.make C us [])
  (b.env0.make C us []) (m _ (Value.ref (s.heap.objs.size+1)::us) b.kIn o) i g) λr B a=>?_))
 cases r with
 | error e=>exact p d σ _ _ e B b a
 | ok D=>
  cases D with
  | ret u=>
   obtain⟨v,q,t,z,l,j⟩:=b.after a;subst l;exact⟨z,⟨V.ref (s.heap.objs.size+1),q,t,rfl,j⟩⟩
  | next=>exact False.elim a
  | brk=>exact False.elim a
  | cont=>exact False.elim a
theorem GK (M:Mk X.K C f) (F:FnOk X.prog X.w X.K X.mg X.base CX k f fd ps sp) (u:Room (k+1) X.A) (i:Gl X x) (n:X.mg x=↑C) (j:Binds X.K fd ps ds) (g:Vals dvs ds) (m:rA CX X E)
  (d:PA X (e::es) t) (b:(x==("__debug__":Str))=false:=by decide) (l:starEach (e::es) X.env=(false,eval e X.env)::starEach es X.env:=by rfl) (a:(backTo pos (starEach es X.env)).any (·.1)=false:=by rfl):
  PE X (.Call (.Name x p) (e::es) [] pos) (tMake C sp dvs E t):=by
 intro o s σ H Q I h;refine Os (w5 I i n ?_ b);refine P7 (h₀:=X.base) I.ok.mod.kin M.kp (thn (d pos o s σ H _ I h) λus s1 ⟨vs,v,c,r,q⟩=>⟨c.kIn,?_⟩) l a;exact FA M F u j g m c r q
end
section
variable{X:Cx}{CX:CXT}{k:Nat}{f C:Addr}{fd:FuncData}{ps ks:List Str}{sp:Sp}{E:XK}{x m:Str}{p pos apos kpos:Pos}{e o:Expr}{es:List Expr}{kws:List Keyword}{te ta:TE}{t tk:TA}{nm:Option Str}
variable{g:List Value->List Value->List Value}{gV:List V->List V->List V}
end
structure jk(N P:List Str)(sc:Scope):Prop where
 kind:sc.kind=.function
 co:sc.isCoroutine=false
 gen:sc.isGenerator=false
 nd:N.Nodup
 pre:N.take P.length=P
 par:∀ x∈P,sc.names.lookup x=some .local\/sc.names.lookup x=some .cell
 nofree:∀ y∈sc.names,y.2≠.free
theorem x9{b:Str->Option NameKind}{x:Str}:∀{a:List (Str × Value)} {m:Str->Option Value},(∀ v,(x,v)∉a)->bindL b a m x=m x
 | [],_,_=>rfl
 | (n,v)::r,m,h=>by
  unfold bindL;rw[x9 λw hw=>h w (Ni _ hw)]
  split
  . have:x≠n:=by rintro rfl;exact h v Nh
    simp[this]
  . rfl
theorem ya{b:Str->Option NameKind}{x:Str}:∀{a:List (Str × Value)} {m:Str->Option Value},(∀ v,(x,v)∉a)->bindC b a m x=m x
 | [],_,_=>rfl
 | (n,v)::r,m,h=>by
  unfold bindC;rw[ya λw hw=>h w (Ni _ hw)]
  split
  . rfl
  . have:x≠n:=by rintro rfl;exact h v Nh
    simp[this]
theorem yb{a:Str->Option NameKind}{x:Str}{v:Value}:∀{P:List Str} {vs:List Value} {i:Nat} {m:Str->Option Value},P.Nodup->P[i]? =some x->vs[i]? =some v->a x=some .local->
  bindL a (P.zip vs) m x=some v
 | [],_,_,_,_,h,_,_=>by simp at h
 | _::_,[],_,_,_,_,h,_=>by simp at h
 | p::P,w::vs,0,m,nd,h1,h2,hk=>by
  simp at h1 h2;subst h1;subst h2;show bindL a ((p,w)::P.zip vs) m p=_;unfold bindL;rw[x9 λv b=>(NY.mp nd).1 (QD b).1,NA hk];simp
 | p::P,w::vs,i+1,m,nd,h1,h2,hk=>by
  show bindL a ((p,w)::P.zip vs) m x=_;unfold bindL;exact yb (i:=i) (NY.mp nd).2 (by simpa using h1) (by simpa using h2) hk
theorem yc{a:Str->Option NameKind}{x:Str}{v:Value}:∀{P:List Str} {vs:List Value} {i:Nat} {m:Str->Option Value},P.Nodup->P[i]? =some x->vs[i]? =some v->a x≠some .local->
  bindC a (P.zip vs) m x=some v
 | [],_,_,_,_,h,_,_=>by simp at h
 | _::_,[],_,_,_,_,h,_=>by simp at h
 | p::P,w::vs,0,m,nd,h1,h2,hk=>by
  simp at h1 h2;subst h1;subst h2;show bindC a ((p,w)::P.zip vs) m p=_;unfold bindC;rw[ya λv b=>(NY.mp nd).1 (QD b).1,Nt hk];simp
 | p::P,w::vs,i+1,m,nd,h1,h2,hk=>by
  show bindC a ((p,w)::P.zip vs) m x=_;unfold bindC;exact yc (i:=i) (NY.mp nd).2 (by simpa using h1) (by simpa using h2) hk
def start(N:List Str)(vs:List V):St:=vs.map some++List.replicate (N.length-vs.length) none
def cxOf(CX:CXT)(P:Program)(w:World)(K:Frag)(mg:Str->Option Value)(base:Heap)(N:List Str)(a:Str)(scope:Scope)(f:Addr)(c:Value)(A:Around)(outer:List Env)(s:Shared)(H:Hp)(E:XK):Cx where
 prog:=P
 w:=w
 K:=K
 mg:=mg
 base:=base
 A:=A.deeper (envOfC a scope s.heap.objs.size f c)
 N:=N
 s₀:=s
 H₀:=H
 env:=envOfC a scope s.heap.objs.size f c
 outer:=outer
 stack:=envOfC a scope s.heap.objs.size f c::outer
 ex:=[]
 calm:=true
 fn:=λ_=>true
 pn:=[]
 xe:=λe g=>wpAny (model P w) (A.deeper (envOfC a scope s.heap.objs.size f c)) (leaving (envOfC a scope s.heap.objs.size f c) e) (λ_ b=>CX outer H s E e b) (λd b=>CX outer H s E d b) g
theorem p8{a:Scope}{n:Nat}{x:Str}(h:a.names.lookup x=some .cell):∃ c,(cellsFrom n a.names []).lookup x=some c:=by
 have q:=Qu a.names n [] (.inl h);exact Option.isSome_iff_exists.mp q
variable{scope:Scope}
theorem DO {N:List Str} {d:Str} {B:Value} {s s1:Shared} {H:Hp} {E:XK} {vs:List V}
  (S:jk N ps scope) (I:A.handled=none) (g:Env0 P w K mg base A outer s H) (L:vs.length=ps.length) (r:Vals vs us)
  (x:InCallC s s.heap.objs.size (bindL (envOfC d scope s.heap.objs.size f B).kindOf (ps.zip us) λ_=>none) (cellsFrom (s.heap.objs.size+1) scope.names []) (bindC (envOfC d scope s.heap.objs.size f B).kindOf (ps.zip us) λ_=>none) s1):
  Inv (cxOf CX P w K mg base N d scope f B A outer s H E) [] (start N vs) H s1:=by
 have G:ps.length<=N.length:=by have:=congrArg List.length S.pre;rw[Oa]at this;lia
 obtain⟨h1,M,rfl,C⟩:=x.done;have j:∀ b:Addr,b∉(cxOf CX P w K mg base N d scope f B A outer s H E).ex:=λb z=>absurd (show b∈([]:List Addr) from z) (by simp)
 refine⟨⟨g.mod,S.kind,rfl,rfl,Nr _,λy z c h1 h2=>?_,λy l=>?_,λy c _ h=>?_,λ_=>I,Around.frames_deeper g.frames,.inr ⟨rfl,rfl⟩,λb z=>absurd z (j b),g.bs,g.bsz,λb _ _=>j b,λb z=>absurd z (j b),g.funs,g.frf⟩,
  rfl,g.bare,Un.kept C,⟨_,x.toInCall.ns,λi y v h1 h2 h3=>?_⟩,λy c h=>⟨_,x.cell y c h⟩,g.hok.fresh (Nr _),λy c h=>?_,λp m=>absurd (show p∈([]:List (Addr × Obj)) from m) (by simp),g.hok.kept C,?_⟩
 . exact name_of_addr x.apart (Ol h1) (Ol h2)
 . have l:scope.names.lookup y=some .cell\/scope.names.lookup y=some .free:=l;rcases l with l | l
   . exact p8 l
   . exact absurd rfl (S.nofree _ (Ol l))
 . exact NU (x.above y c (Ol h))
 . have t:i<vs.length:=by
    unfold start at h2;by_cases t:i<vs.length
    . exact t
    . rw[NW (by simpa using t)]at h2;rw[List.getElem?_replicate]at h2
      split at h2 <;> cases h2
   have J:vs[i]? =some v:=by
    unfold start at h2;rw[NO (by simpa using t),M7]at h2
    cases e:vs[i]? with
    | none=>rw[e]at h2;cases h2
    | some a=>rw[e]at h2;cases h2;rfl
   obtain⟨u,D,F⟩:=r.get J
   have m:ps[i]? =some y:=by
    rw[← S.pre,List.getElem?_take_of_lt #[4]];exact h1
   have o:ps.Nodup:=by rw[← S.pre];exact S.nd.sublist (List.take_sublist _ _)
   refine⟨u,F,?_⟩;rcases S.par y (M8 m) with k | k
   . exact .inl ⟨k,yb o m D k⟩
   . obtain⟨c,e⟩:=p8 (n:=s.heap.objs.size+1) k;refine .inr ⟨.inl k,c,e,?_⟩;have q:=x.cell y c e;rw[yc o m D (by show scope.names.lookup y≠_;rw[k];decide)]at q;exact q
 . exact g.hok.fresh (NU (x.above y c (Ol h)))
 . unfold start;show _=N.length;rw[NG,MZ,Pu];lia
theorem Gj {k:Nat} {h a:Str} {c:Arguments} {d:List Stmt} {U kV z Y i ct oc:Value} {Z od:Option Addr}
  {R:Array (Option Value)} {N ps:List Str} {sp:Sp} (lk:K.lookup f=some ⟨oc,od,.func (fnOf h a c d scope U kV z Y Z i ct),R⟩) (M:codeIn K i a=true) (S:jk N ps scope)
  (C:∀ vs H Q E,sp vs H Q E->vs.length=ps.length)
  (j:∀(A:Around) (outer:List Env) (s:Shared) (H:Hp) (vs:List V) (Q:VK) (E:XK),Room k (A.deeper (envOfC a scope s.heap.objs.size f i))->sp vs H Q E->
   ∃ t,PSs (cxOf CX P w K mg base N a scope f i A outer s H E) d t/\t {nx:=λ_ g=>Q .non g,rt:=Q} (start N vs) H):
  FnOk P w K mg base CX (k+1) f (fnOf h a c d scope U kV z Y Z i ct) ps sp:=by
 refine⟨C,λA outer s H aa us vs Q E L p hb r D=>?_⟩;have hl:=C _ _ _ _ D;have X:K.In s.heap:=p.mod.kin.keeps λb o e=>(p.bs b o e).1;have G:s.heap.NoLimit:=p.mod.nolimit.keeps λb o e=>(p.bs b o e).1
 have l:∀ y∈ps.zip us,scope.names.lookup y.1=some .local\/(scope.names.lookup y.1=some .cell/\((cellsFrom (s.heap.objs.size+1) scope.names []).lookup y.1).isSome=true):=λ⟨n,v⟩ hy=>by
  rcases S.par n (QD hy).1 with q | q
  . exact .inl q
  . exact .inr ⟨q,Qu _ _ _ (.inl q)⟩
 refine codeAny_call_function L.depth (X _ _ lk) rfl S.co S.gen rfl (PySem.W.codeRec_of X M) (hb _ _ _ _ ?_);refine wpAny_newFunctionEnv_cells S.kind l λab he s1 x=>?_;subst he;refine⟨G.keeps x.toInCall.keep,codeAny_func ?_⟩;obtain⟨t,ht,hq⟩:=j A outer s H vs Q E (L.deeper _) D;have I:Inv (cxOf CX P w K mg base N a scope f i A outer s H E) [] (start N vs) H s1:=DO S L.hd p hl r x;refine On (ht [] s1 (start N vs) H _ I hq) (λfl T m=>?_) λe T m=>m
 have B:∀{F:St} {g:Hp} {v:V} {u:Value},Inv (cxOf CX P w K mg base N a scope f i A outer s H E) [] F g T->RelV v u->Q v g->CE outer P w H s Q u T:=
  λ{F g v u} J O q=>⟨v,g,J.os,J.bare,J.base,J.hok,O,q⟩
 cases fl with
 | ret u=>
  obtain⟨v,F,g,J,O,q⟩:=m;exact B J O q
 | next=>
  obtain⟨F,g,J,q⟩:=m;exact B (v:=V.non) (u:=Value.none) J rfl q
 | brk=>
  obtain⟨_,_,_,q⟩:=m;exact False.elim q
 | cont=>
  obtain⟨_,_,_,q⟩:=m;exact False.elim q
section
variable{X:Cx}{x:Str}{p pos:Pos}{e:Expr}{es:List Expr}{t:TA}{id T:String}{r:List V->Hp->VK->Prop}
def tCB(r:List V->Hp->VK->Prop)(t:TA):TE:=λσ H Q=>t σ H λvs a=>r vs a Q
theorem au (g:CallR X (.builtin id) r) (j:Gl X x) (m:X.mg x=none) (o:bootBuiltins x=some (.builtin id)) (n:PA X (e::es) t) (i:x≠"__name__":=by decide) (b:(x==("__debug__":Str))=false:=by decide)
  (l:starEach (e::es) X.env=(false,eval e X.env)::starEach es X.env:=by rfl) (a:(backTo pos (starEach es X.env)).any (·.1)=false:=by rfl):PE X (.Call (.Name x p) (e::es) [] pos) (tCB r t):=by
 intro c s σ H Q I h;refine Os (gj I j m o ?_ i b);exact Py (thn (n pos c s σ H _ I h) λus s1 ⟨vs,d,f,r1,k⟩=>g c s1 σ d vs us Q f r1 k) l a
theorem bX (g:CallR X (.type T) r) (j:Gl X x) (m:X.mg x=none) (o:bootBuiltins x=some (.type T)) (n:PA X (e::es) t) (i:x≠"__name__":=by decide) (b:(x==("__debug__":Str))=false:=by decide)
  (l:starEach (e::es) X.env=(false,eval e X.env)::starEach es X.env:=by rfl) (a:(backTo pos (starEach es X.env)).any (·.1)=false:=by rfl):PE X (.Call (.Name x p) (e::es) [] pos) (tCB r t):=by
 intro c s σ H Q I h;refine Os (gj I j m o ?_ i b);exact N4 (thn (n pos c s σ H _ I h) λus s1 ⟨vs,d,f,r1,k⟩=>g c s1 σ d vs us Q f r1 k) l a
end
end L2
namespace HT
open PySem PyProof.Rows
section
open PySem.SeqAt
open PySem.AutoSeq1 (wpAny_loadPart')
open PySem.MeetsSeq PySem.MeetsSeq2 PySem.MeetsSeq3
end
section
variable{prog:Program}{w:World}{A:Around}{E:Value->Shared->Prop}{s:Shared}
def sIx(n d:Nat):Option Int->Nat
 | none=>d
 | some v=>if v<0 then(v+(n:Int)).toNat else min v.toNat n
def sIx_none(n d:Nat):sIx n d none=d:=rfl
theorem sIx_nat(n d k:Nat):sIx n d (some (k:Int))=min k n:=by
 show(if (k:Int)<0 then((k:Int)+(n:Int)).toNat else min (k:Int).toNat n)=min k n;rw[if_neg #[4],Int.toNat_natCast]
end
end HT
namespace L2
open PySem PySem.Spec PyProof.Rows
abbrev TO:=St->Hp->(Option Int->Hp->Prop)->Prop
def PO(X:Cx)(e:Option Expr)(t:TO):Prop:=
 ∀(b:List (Addr × Obj)) (s:Shared) (σ:St) (H:Hp) (Q:Option Int->Hp->Prop),Inv X b σ H s->t σ H Q->
  wpAny (model X.prog X.w) X.A (evalPart e X.env) (λu c=>∃ o a,Inv X b σ a c/\IsPart u o/\Q o a) X.xe s
def gq:TO:=λ_ H Q=>Q none H
def tPart(t:TE):TO:=λσ H Q=>t σ H λx a=>∃ i,x=.int i/\Q (some i) a
theorem vg{ns:∅}:∀{us:List Value},Vals (ns.map V.int) us->IntsAre us ns:=by
 induction ns with
 | nil=>intro us r;rw[List.map_nil]at r;cases r;exact .nil
 | cons n ns a=>
  intro us r;rw[NK]at r
  cases r with
  | cons r1 b=>
   obtain⟨t,e⟩:=r1;subst e;exact .cons n t (a b)
section
variable{X:Cx}{e:Expr}{te:TE}{lo hi:Option Expr}{tl th:TO}{pos p2:Pos}
theorem kn:PO X none gq:=by
 intro a s σ H Q I h;rw[evalPart_none];exact N9 ⟨none,H,I,.none,h⟩
theorem fC(h:PE X e te):PO X (some e) (tPart te):=by
 intro d s σ H Q I hw;rw[evalPart_some];refine thn (h d s σ H _ I hw) λu s1 ⟨x,c,a,r1,b⟩=>?_;obtain⟨i,rfl,q⟩:=b;obtain⟨t,rfl⟩:=r1;exact⟨some i,c,a,.int i t,q⟩
def SlR(X:Cx)(r:V->Option Int->Option Int->Hp->VK->Prop):Prop:=
 ∀(c:List (Addr × Obj)) (s:Shared) (σ:St) (H:Hp) (x:V) (v a b:Value) (lo hi:Option Int) (d:Addr) (Q:VK),Inv X c σ H s->RelV x v->s.heap.IsSliceOf d a b .none->IsPart a lo->IsPart b hi->r x lo hi H Q->
  ∃ T id,typeLookup (.type T) "__getitem__"=pure (some (.builtin id))/\s.TypeIs v T/\wpAny (model X.prog X.w) X.A (getItem v (.ref d)) (EP X c σ Q) X.xe s
def tSl(r:V->Option Int->Option Int->Hp->VK->Prop)(te:TE)(tl th:TO):TE:=λσ H Q=>te σ H λx a=>tl σ a λl b=>th σ b λu c=>r x l u c Q
theorem fL{r:V->Option Int->Option Int->Hp->VK->Prop}(o:SlR X r)(K:PE X e te)(p:PO X lo tl)(t:PO X hi th):PE X (.Subscript e (.Slice lo hi none p2) pos) (tSl r te tl th):=by
 intro c s σ H Q I h;refine Subscript_ (thn (K c s σ H _ I h) λv s1 ⟨x,j,F,r1,J⟩=>?_);refine wpAny_Slice (thn (p c s1 σ j _ F J) λf m ⟨l,L,n,k,B⟩=>thn (t c m σ L _ n B) λd a ⟨u,g,z,D,i⟩=>?_);rw[evalPart_none];refine N9 ?_;have y:Inv X c σ g {a with heap:=a.heap.push {cls:=.type "slice",data:=.fields #[f,d,.none]}}:=z.kept (t':=a.toks) λb M q=>Nq _ q;obtain⟨T,id,E,C,G⟩:=o c {a with heap:=a.heap.push {cls:=.type "slice",data:=.fields #[f,d,.none]}} σ g x v f d l u a.heap.objs.size Q y r1 (Heap.IsSliceOf.new ..) k D i;show wpAny (model X.prog X.w) X.A (subscriptTail e (.Slice lo hi none p2) v (.ref a.heap.objs.size)) (EP X c σ Q) X.xe {a with heap:=a.heap.push {cls:=.type "slice",data:=.fields #[f,d,.none]}};exact tail_any (ops:=[.ref a.heap.objs.size,v]) C E G (by with_unfolding_all rfl)
def cutV(xs:List V)(lo hi:Option Int):List V:=(xs.drop (HT.sIx xs.length 0 lo)).take (HT.sIx xs.length xs.length hi-HT.sIx xs.length 0 lo)
theorem Bq(xs:List V)(lo hi:Option Int):(cutV xs lo hi).length<=xs.length:=by
 unfold cutV;rw[Oa,List.length_drop];lia
end
def ixN(n:Nat)(i:Int):Option Nat:=if 0<=i then(if i<n then some i.toNat else none) else if -(n:Int)<=i then some (i+n).toNat else none
def atI{α:Type}(xs:List α)(i:Int):Option α:=(ixN xs.length i).bind λj=>xs[j]?
theorem GL{n:Nat}{i:Int}{j:Nat}(h:ixN n i=some j):seqIndex? i n=some j/\j<n/\ -(n:Int)<=i/\i<n:=by
 unfold ixN at h;by_cases h0:0<=i
 . rw[NA h0]at h;by_cases h1:i<n
   . rw[NA h1]at h;have e:i.toNat=j:=OB h;exact⟨by rw[seqIndex_of h0 h1,e],by lia,by lia,h1⟩
   . rw[Nt h1]at h;cases h
 . rw[Nt h0]at h;by_cases h1: -(n:Int)<=i
   . rw[NA h1]at h;have e:(i+n).toNat=j:=OB h;exact⟨by rw[seqIndex_neg #[4] h1,e],by lia,h1,by lia⟩
   . rw[Nt h1]at h;cases h
theorem w9{α:Type}{xs:List α}{i:Int}{v:α}(h:atI xs i=some v):∃ j,seqIndex? i xs.length=some j/\xs[j]? =some v/\j<xs.length/\ -(xs.length:Int)<=i/\i<xs.length:=by
 unfold atI at h
 cases e:ixN xs.length i with
 | none=>rw[e]at h;cases h
 | some j=>
  rw[e]at h;obtain⟨h1,h2,h3,h4⟩:=GL e;exact⟨j,h1,h,h2,h3,h4⟩
theorem gr{α:Type}{xs:List α}{j:Nat}{v:α}(h:xs[j]? =some v):atI xs (j:Int)=some v:=by
 have a:j<xs.length:=(M6.mp h).1
 have e:ixN xs.length (j:Int)=some j:=by
  unfold ixN;rw[NA #[4],NA #[4]];simp
 unfold atI;rw[e];exact h
def xc(b:Expr):Prop:=∀ o i,subscripted b false o i=operate [o,i] (getItem o i)
def IxR(X:Cx)(r:R2):Prop:=
 ∀(b a:Expr) (c:List (Addr × Obj)) (s:Shared) (σ:St) (H:Hp) (x y:V) (v u:Value) (Q:VK),Inv X c σ H s->RelV x v->RelV y u->r x y H Q->
  subscripted a false v u=operate [v,u] (getItem v u)->wpAny (model X.prog X.w) X.A (subscriptTail b a v u) (EP X c σ Q) X.xe s
def MtR(X:Cx)(id:String)(r:V->List V->Hp->VK->Prop):Prop:=
 ∀(b:List (Addr × Obj)) (s:Shared) (σ:St) (H:Hp) (x:V) (c:List V) (v:Value) (a:List Value) (Q:VK),Inv X b σ H s->RelV x v->Vals c a->r x c H Q->
  wpAny (model X.prog X.w) X.A (call (.builtin id) (v::a)) (EP X b σ Q) X.xe s
section
variable{X:Cx}{a b:Expr}{ta tb:TE}{pos:Pos}
theorem vh{r:R2}(m:IxR X r)(c:PE X a ta)(d:PE X b tb)(f:xc b):PE X (.Subscript a b pos) (tOp r ta tb):=by
 intro l s σ H Q I h;exact Subscript_ (binT c d I h λv u j x y i k e g q=>m a b l j σ i x y v u Q k e g q (f _ _))
def rIxL(K:Frag):R2:=λx y H Q=>∃ p a i v,x=.ref p/\y=.int i/\SqL K H p a/\atI a i=some v/\Q v H
def rIxT(K:Frag):R2:=λx y H Q=>∃ p a i v,x=.ref p/\y=.int i/\SqT K H p a/\atI a i=some v/\Q v H
def rIxS:R2:=λx y H Q=>∃ z i c,x=.str z/\y=.int i/\z.length<=sizeLine/\atI z.cps.toList i=some c/\Q (.str ⟨#[c]⟩) H
theorem B4:IxR X (rIxL X.K):=by
 intro d c k s σ H x y v u Q I A n h l;obtain⟨p,E,i,z,rfl,rfl,o,D,q⟩:=h;cases A;obtain⟨t,rfl⟩:=n;obtain⟨B,r,f,G⟩:=I.list o;obtain⟨j,h1,h2,h3,h4,h5⟩:=w9 D;obtain⟨w,g,b⟩:=r.get h2;have m:=r.length;have F:=rq;have a:EP X k σ Q w s:=⟨z,H,I,b,q⟩;by_cases h0:0<=i
 . have e:i.toNat=j:=by
    rw[seqIndex_of h0 h5]at h1;exact OB h1
   exact item_listR f.isList h0 #[4] (by rw[e];simpa using g) a l
 . have e:(i+(B.toArray.size:Int)).toNat=j:=by
    rw[seqIndex_neg #[4] h4]at h1;rw[Nz,← m];exact OB h1
   exact Qv (x:=w) f.isList.typeIs slot_list_getitem.lookup
    (wpAny_getItem_list_neg (Q:=λr C=>r=w/\EP X k σ Q r C) f.isList #[4] (by rw[Nz] <;> lia) #[4] (by rw[e];simpa using g) ⟨rfl,a⟩) l
theorem DP:IxR X (rIxT X.K):=by
 intro d c f s σ H x y v u Q I m n h B;obtain⟨p,C,i,z,rfl,rfl,l,A,q⟩:=h;cases m;obtain⟨t,rfl⟩:=n;obtain⟨F,r,e,D⟩:=I.tuple l;obtain⟨j,h1,h2,h3,h4,h5⟩:=w9 A;obtain⟨w,g,a⟩:=r.get h2;have k:=r.length;have E:=rq;have b:EP X f σ Q w s:=⟨z,H,I,a,q⟩
 exact Qv (x:=w) e.typeIs slot_tuple_getitem.lookup
  (getItem_tuple (j:=j) (Q:=λr o=>r=w/\EP X f σ Q r o) e #[4] #[4] (by rw[Nz,← k];exact h1) (by simpa using g) ⟨rfl,b⟩) B
theorem HQ:IxR X rIxS:=by
 intro b a o s σ H x y v u Q I e f h k;obtain⟨z,i,c,rfl,rfl,m,g,q⟩:=h;obtain⟨t,rfl⟩:=e;obtain⟨l,rfl⟩:=f;obtain⟨j,h1,h2,h3,h4,h5⟩:=w9 g;have d:z.cps.toList.length=z.length:=by simp[Str.length]
 rw[d]at h1 h4 h5;have n:=rq
 exact tail_any (Pz s z t) slot_str_getitem.lookup (getItem_str (c:=c) (by
  have e1:decide (i < -(2^63:Int))=false:=M2 #[4];have e2:decide (i ≥ 2^63)=false:=M2 #[4];rw[e1,e2,Bool.or_false]) (by rw[h1];simpa using h2) ⟨.str ⟨#[c]⟩,H,I.tok _,⟨_,rfl⟩,q⟩) k
theorem Inv.lst{a:List (Addr × Obj)}{σ:St}{H:Hp}{s:Shared}{p:Addr}{xs:List V}(I:Inv X a σ H s)(h:H p=↥xs):
  ∃(MS:List Value) (n:Nat),Vals xs MS/\s.heap.get? p=some {cls:=.type "list",data:=.seq MS.toArray n}/\xs.length<=sizeLine:=by
 obtain⟨z,MS,n,r,e⟩:=I.hok p _ h;exact⟨MS,n,r,e,z⟩
theorem zJ(b a:Option Int)(n:Nat):(sliceBounds b a none n).1=((HT.sIx n 0 b:Nat):Int)/\(sliceBounds b a none n).2.1=((HT.sIx n n a:Nat):Int)/\(sliceBounds b a none n).2.2=1:=by
 refine⟨?_,?_,rfl⟩
 . cases b with
   | none=>simp[sliceBounds,HT.sIx]
   | some i=>
    simp only[sliceBounds,HT.sIx,Option.getD_none,show(1:Int)>0 by decide,QT];by_cases h:i<0
    . simp only[h,QT] <;> lia
    . simp only[h,if_false] <;> lia
 . cases a with
   | none=>simp[sliceBounds,HT.sIx]
   | some i=>
    simp only[sliceBounds,HT.sIx,Option.getD_none,show(1:Int)>0 by decide,QT];by_cases h:i<0
    . simp only[h,QT] <;> lia
    . simp only[h,if_false] <;> lia
theorem yN(MS:List Value)(a b:Option Int):slicePick MS.toArray a b none=((MS.drop (HT.sIx MS.length 0 a)).take (HT.sIx MS.length MS.length b-HT.sIx MS.length 0 a)).toArray:=by
 obtain⟨h1,h2,h3⟩:=zJ a b MS.toArray.size;unfold slicePick;rw[h1,h2,h3];simp only[sliceRange_one,pick_run,Nz] <;> rfl
def rSlL(K:Frag):V->Option Int->Option Int->Hp->VK->Prop:=λx d c H Q=>∃ a b,x=.ref a/\SqL K H a b/\∀ p,H p=none->Q (.ref p) (upd H p (.lst (cutV b d c)))
theorem GM:SlR X (rSlL X.K):=by
 intro y s σ H x v t u d e w Q I j k n i h;obtain⟨a,c,rfl,m,q⟩:=h;cases j;obtain⟨z,r,f,g⟩:=I.list m;have l:=r.length;refine⟨"list",_,slot_list_getitem.lookup,f.isList.typeIs,?_⟩;refine wpAny_getItem_list_slice f.isList k n i .none (by simp) ?_ (by rw[Nz] <;> lia);rw[yN,← l];refine⟨.ref s.heap.objs.size,_,I.laid (t':=s.toks) (o:=.lst (cutV c d e)) (λb p q=>Nq _ q) (Nr _) ?_,rfl,q _ (I.hok.fresh (Nr _))⟩;exact⟨Nk (Bq c d e) g,_,0,(r.drop (HT.sIx c.length 0 d)).take (HT.sIx c.length c.length e-HT.sIx c.length 0 d),NN _ rfl⟩
def flatV:V->Bool
 | .non=>true
 | .bl _=>true
 | .int _=>true
 | .str _=>true
 | _=>false
def eqV:V->V->Bool
 | .non,.non=>true
 | .bl a,.bl b=>a==b
 | .bl a,.int b=>(if a then 1 else 0)==b
 | .int a,.bl b=>a==(if b then 1 else 0)
 | .int a,.int b=>a==b
 | .str a,.str b=>a==b
 | _,_=>false
theorem HR{A:Around}{s:Shared}{y x:V}{u v:Value}(f:RelV y u)(c:RelV x v)(g:flatV y=true)(e:flatV x=true):SeqAt.EqAt A s u v (eqV y x):=by
 cases y with
 | non=>
  cases f
  cases x with
  | non=>cases c;exact SeqAt.EqAt.same _
  | bl b=>cases c;exact SeqAt.EqAt.none_bool b
  | int b=>obtain⟨t,rfl⟩:=c;exact SeqAt.EqAt.none_int b t
  | str b=>obtain⟨t,rfl⟩:=c;exact SeqAt.EqAt.none_str b t
  | _=>exact absurd (show false=true from e) Nc
 | bl a=>
  cases f
  cases x with
  | non=>cases c;exact SeqAt.EqAt.bool_none a
  | bl b=>cases c;exact SeqAt.EqAt.bool_bool a b
  | int b=>obtain⟨t,rfl⟩:=c;exact SeqAt.EqAt.bool_int a b t
  | str b=>obtain⟨t,rfl⟩:=c;exact SeqAt.EqAt.bool_str a b t
  | _=>exact absurd (show false=true from e) Nc
 | int a=>
  obtain⟨d,rfl⟩:=f
  cases x with
  | non=>cases c;exact SeqAt.EqAt.int_none a d
  | bl b=>cases c;exact SeqAt.EqAt.int_bool a d b
  | int b=>obtain⟨t,rfl⟩:=c;exact SeqAt.EqAt.int_int a d b t
  | str b=>obtain⟨t,rfl⟩:=c;exact SeqAt.EqAt.int_str a d b t
  | _=>exact absurd (show false=true from e) Nc
 | str a=>
  obtain⟨d,rfl⟩:=f
  cases x with
  | non=>cases c;exact SeqAt.EqAt.str_none a d
  | bl b=>cases c;exact SeqAt.EqAt.str_bool a d b
  | int b=>obtain⟨t,rfl⟩:=c;exact SeqAt.EqAt.str_int a d b t
  | str b=>obtain⟨t,rfl⟩:=c;exact SeqAt.EqAt.str_str a d b t
  | _=>exact absurd (show false=true from e) Nc
 | _=>exact absurd (show false=true from g) Nc
def eqU(x:V)(u:Value):Bool:=match u with
 | .none=>eqV .non x
 | .bool b=>eqV (.bl b) x
 | .int i _=>eqV (.int i) x
 | .str z _=>eqV (.str z) x
 | _=>false
theorem DQ{x y:V}{u:Value}(r:RelV y u)(f:flatV y=true):eqU x u=eqV y x:=by
 cases y with
 | non=>cases r;rfl
 | bl b=>cases r;rfl
 | int i=>obtain⟨t,rfl⟩:=r;rfl
 | str z=>obtain⟨t,rfl⟩:=r;rfl
 | _=>exact absurd (show false=true from f) Nc
theorem oT{x:V}:∀{xs:List V} {us:List Value},Vals xs us->xs.all flatV=true->us.any (eqU x)=xs.any λy=>eqV y x
 | _,_,.nil,_=>rfl
 | y::xs,u::us,.cons r t,f=>by
  rw[PF,M9]at f;rw[Ql,Ql,DQ r f.1,oT t f.2]
theorem mh{A:Around}{s:Shared}{x:V}{v:Value}(c:RelV x v)(b:flatV x=true):∀{xs:List V} {us:List Value},Vals xs us->xs.all flatV=true->∀ u∈us,SeqAt.EqAt A s u v (eqU x u)
 | _,_,.nil,_=>λu a=>by cases a
 | y::xs,u::us,.cons r t,f=>λd a=>by
  rw[PF,M9]at f;rcases Ng.mp a with rfl | a
  . rw[DQ r f.1];exact HR r c f.1 b
  . exact mh c b t f.2 d a
def inV(x:V)(xs:List V):Bool:=xs.any λy=>eqV y x
def rIn(K:Frag)(b:Bool):R2:=λx y H Q=>∃ p a,y=.ref p/\(SqL K H p a\/SqT K H p a)/\flatV x=true/\a.all flatV=true/\Q (.bl (if b then !inV x a else inV x a)) H
theorem nc:OpR X (compareOp .In) (rIn X.K false):=by
 intro k s σ H x y v u Q I f g h;obtain⟨p,j,rfl,a,e,c,q⟩:=h;cases g;rcases a with a | a
 . obtain⟨b,r,d,i⟩:=I.list a;refine SeqAt.in_listAt (eqU x) d.isList (λw hw=>mh f e r c w (by simpa using hw)) ⟨.bl _,H,I,rfl,?_⟩;rw[show b.toArray.any (eqU x)=b.any (eqU x) by simp,oT r c];exact q
 . obtain⟨b,r,d,i⟩:=I.tuple a;refine SeqAt.in_tupleAt (eqU x) d (λw hw=>mh f e r c w (by simpa using hw)) ⟨.bl _,H,I,rfl,?_⟩;rw[show b.toArray.any (eqU x)=b.any (eqU x) by simp,oT r c];exact q
theorem rB:OpR X (compareOp .NotIn) (rIn X.K true):=by
 intro k s σ H x y v u Q I f g h;obtain⟨p,j,rfl,a,e,c,q⟩:=h;cases g;rcases a with a | a
 . obtain⟨b,r,d,i⟩:=I.list a;refine SeqAt.notIn_listAt (eqU x) d.isList (λw hw=>mh f e r c w (by simpa using hw)) ⟨.bl _,H,I,rfl,?_⟩;rw[show b.toArray.any (eqU x)=b.any (eqU x) by simp,oT r c];exact q
 . obtain⟨b,r,d,i⟩:=I.tuple a;refine SeqAt.notIn_tupleAt (eqU x) d (λw hw=>mh f e r c w (by simpa using hw)) ⟨.bl _,H,I,rfl,?_⟩;rw[show b.toArray.any (eqU x)=b.any (eqU x) by simp,oT r c];exact q
theorem zK:OpR X (compareOp .NotIn) (λx y H Q=>∃ i j,x=.str i/\y=.str j/\Q (.bl (!(!(Builtin.Str.occurrences j i 0 j.length 1).isEmpty))) H):=by
 intro d s σ H x y v u Q I a b h;obtain⟨i,j,rfl,rfl,q⟩:=h;obtain⟨t,rfl⟩:=a;obtain⟨c,rfl⟩:=b;exact notIn_str ⟨.bl _,H,I,rfl,q⟩
theorem rC:CallR X (.builtin "len") (λxs H Q=>∃ p ys,xs=[.ref p]/\(SqL X.K H p ys\/SqT X.K H p ys)/\Q (.int ys.length) H):=by
 intro k s σ H xs j Q I r h;obtain⟨p,ys,rfl,a,q⟩:=h;obtain⟨u,rfl,e⟩:=d4 r;cases e;have i:=rq;rcases a with a | a
 . obtain⟨g,c,d,f⟩:=I.list a;have b:=c.length;exact Calls.call_len_list d.isList (by simp only[Nz] <;> lia) ⟨.int ys.length,H,I.tok _,⟨s.toks+1,by rw[Nz,b]⟩,q⟩
 . obtain⟨g,c,d,f⟩:=I.tuple a;have b:=c.length;exact len_tuple d (by simp only[Nz] <;> lia) ⟨.int ys.length,H,I.tok _,⟨s.toks+1,by rw[Nz,b]⟩,q⟩
theorem zL:CallR X (.builtin "len") (λxs H Q=>∃ z,xs=[.str z]/\z.length<=sizeLine/\Q (.int z.length) H):=by
 intro c s σ H xs d Q I r h;obtain⟨z,rfl,b,q⟩:=h;obtain⟨u,rfl,t,rfl⟩:=d4 r;have a:=rq;exact len_str #[4] ⟨.int z.length,H,I.tok _,⟨_,rfl⟩,q⟩
theorem zM:CallR X (.type "list") (λxs H Q=>∃ p ys,xs=[.ref p]/\(SqL X.K H p ys\/SqT X.K H p ys)/\∀ l,H l=none->Q (.ref l) (upd H l (.lst ys))):=by
 intro B s σ H xs C Q I r h;obtain⟨p,ys,rfl,g,q⟩:=h;obtain⟨u,rfl,z⟩:=d4 r;cases z
 have i:∀(c:List Value),Vals ys c->ys.length<=sizeLine->∀(a:Heap) (d:Nat),(∀ b y,s.heap.get? b=some y->a.get? b=some y)->
   a.get? s.heap.objs.size=some {cls:=.type "list",dict:=none,data:=.seq c.toArray d,slots:=#[]}->EP X B σ Q (.ref s.heap.objs.size) {s with heap:=a}:=λc f k a d j e=>
  ⟨.ref s.heap.objs.size,_,I.laid (t':=s.toks) j (Nr _) (show ObjOk X.prog X.w _ a _ (.lst ys) from⟨k,c,d,f,e⟩),rfl,q _ (I.hok.fresh (Nr _))⟩
 rcases g with g | g
 . obtain⟨c,f,x,k⟩:=I.list g;have A:=f.length;obtain⟨o,v,m,n,t⟩:=x.isList;exact call_list_seq p (.inl rfl) v m t (λa d j e=>i c f k a d j e) (by simp only[Nz] <;> lia)
 . obtain⟨c,f,x,k⟩:=I.tuple g;have A:=f.length;obtain⟨o,v,m,n,t⟩:=x;exact call_list_seq p (.inr rfl) v m t (λa d j e=>i c f k a d j e) (by simp only[Nz] <;> lia)
theorem yO:CallR X (.type "tuple") (λxs H Q=>∃ p ys,xs=[.ref p]/\((SqL X.K H p ys/\∀ l,H l=none->Q (.ref l) (upd H l (.tup ys)))\/(SqT X.K H p ys/\Q (.ref p) H))):=by
 intro k s σ H xs v Q I r h;obtain⟨p,ys,rfl,h⟩:=h;obtain⟨u,rfl,m⟩:=d4 r;cases m;rcases h with ⟨d,q⟩ | ⟨d,q⟩
 . obtain⟨g,f,c,j⟩:=I.list d;have x:=f.length;refine call_tuple_list c.isList (λa n=>?_) (by simp only[Nz] <;> lia);have i:Inv X k σ H {s with heap:=a}:=I.kept (t':=s.toks) n
   have t:Inv X k σ (upd H a.objs.size (.tup ys)) {s with heap:=a.push {cls:=.type "tuple",data:=.seq g.toArray}}:=
    i.laid (t':=s.toks) (λb o e=>Nq _ e) (Nr _) (show ObjOk X.prog X.w _ _ _ (.tup ys) from⟨j,g,f,IsTup.new _ _⟩)
   exact⟨.ref a.objs.size,_,t,rfl,q _ (i.hok.fresh (Nr _))⟩
 . obtain⟨g,f,c,j⟩:=I.tuple d;exact call_tuple_same c ⟨.ref p,H,I,rfl,q⟩
def tyV(K:Frag)(T:String)(x:V)(H:Hp):Prop:=match x with
 | .str _=>T="str"
 | .int _=>T="int"
 | .ref p=>(T="list"/\∃ b,SqL K H p b)\/(T="tuple"/\∃ o,K.lookup p=some o/\o.cls=.type "tuple"/\o.dict=none)\/
   (T="dict"/\((∃ a,H p=some (.dK a))\/∃ a,H p=some (.dT a)))\/(T="set"/\∃ S n,H p=some (.set S n))
 | _=>False
theorem DR{q:List (Addr × Obj)}{σ:St}{H:Hp}{s:Shared}{T:String}{x:V}{v:Value}(I:Inv X q σ H s)(r:RelV x v)(f:tyV X.K T x H):
  s.TypeIs v T/\∀ a,v=.ref a->∃ h,s.heap.get? a=some h/\h.dict=none:=by
 cases x with
 | str z=>
  obtain⟨t,rfl⟩:=r;cases (show T="str" from f);exact⟨Pz s z t,λ_ e=>nomatch e⟩
 | int i=>
  obtain⟨t,rfl⟩:=r;cases (show T="int" from f);exact⟨typeIs_int s i t,λ_ e=>nomatch e⟩
 | ref p=>
  cases r;rcases f with ⟨rfl,u,m⟩ | ⟨rfl,o,b,k,g⟩ | ⟨rfl,b⟩ | ⟨rfl,S,n,b⟩
  . obtain⟨w,_,j,_⟩:=I.list m;refine⟨j.isList.typeIs,λa e=>?_⟩;cases e;obtain⟨o,n,e,c,g,_⟩:=j;exact⟨o,e,g⟩
  . refine⟨⟨o,I.kIn p o b,k⟩,λa e=>?_⟩;cases e;exact⟨o,I.kIn _ o b,g⟩
  . have z:∃ o,s.heap.get? p=some o/\o.ExactDict:=by
     rcases b with ⟨l,b⟩ | ⟨l,b⟩
     . obtain⟨_,_,_,_,o,_,_,e,d,_⟩:=I.hok p _ b;exact⟨o,e,d⟩
     . obtain⟨_,_,_,_,o,_,_,e,d,_⟩:=I.hok p _ b;exact⟨o,e,d⟩
    obtain⟨o,e,d⟩:=z;refine⟨⟨o,e,d.1⟩,λa e2=>?_⟩;cases e2;exact⟨o,e,d.2.1⟩
  . obtain⟨o,_,_,_,e,d,_⟩:=I.hok p _ b;refine⟨⟨o,e,d.1⟩,λa e2=>?_⟩;cases e2;exact⟨o,e,d.2.1⟩
 | _=>exact False.elim f
def CP(K:Frag)(T:String)(r:V->List V->Hp->VK->Prop)(b:TE):TE:=λσ H Q=>b σ H λx a=>tyV K T x a/\r x [] a Q
def tBM(K:Frag)(T:String)(r:V->List V->Hp->VK->Prop)(b:TE)(t:TA):TE:=λσ H Q=>b σ H λx a=>tyV K T x a/\t σ a λc d=>r x c d Q
variable{o e:Expr}{es:List Expr}{to:TE}{t:TA}{name:Str}{apos cpos:Pos}{T id:String}{r:V->List V->Hp->VK->Prop}
theorem DS (k:PlainAttrs T) (c:Slot T name id) (d:typeOf (.builtin id)=pure (.type "method_descriptor")) (m:MtR X id r) (l:PE X o to)
  (a:attributeBase o name X.env (eval o X.env)=eval o X.env:=by rfl) (b:(apos.endLine==cpos.line)=true:=by rfl):PE X (.Call (.Attribute o name apos) [] [] cpos) (CP X.K T r to):=by
 intro f s σ H Q I h;refine wpAny_Call_method0_late a b (thn (l f s σ H _ I h) λv s1 ⟨x,g,e,r1,i,j⟩=>?_);obtain⟨h1,h2⟩:=DR e r1 i;exact⟨T,id,k,c,d,h1,h2,Qw rfl (PySem.evalArgs_none (m f s1 σ g x [] v [] Q e r1 .nil j))⟩
theorem bu (q:PlainAttrs T) (d:Slot T name id) (g:typeOf (.builtin id)=pure (.type "method_descriptor")) (u:MtR X id r) (m:PE X o to) (A:PA X (e::es) t)
  (b:attributeBase o name X.env (eval o X.env)=eval o X.env:=by rfl)
  (f:((backTo cpos (starEach (e::es) X.env)).all (λx=>!x.1)&&(backToKw cpos (keywordEach [] X.env)).all (λx=>x.1.isSome)
   &&decide ((e::es).length+([]:List Keyword).length+(if ([]:List Keyword).isEmpty then 0 else 1)<30))=true:=by rfl)
  (c:(apos.endLine==cpos.line)=true:=by rfl) (E:starEach (e::es) X.env=(false,eval e X.env)::starEach es X.env:=by rfl) (a:(backTo cpos (starEach es X.env)).any (·.1)=false:=by rfl):
  PE X (.Call (.Attribute o name apos) (e::es) [] cpos) (tBM X.K T r to t):=by
 intro i s σ H Q I h;refine wpAny_Call_method_late b f c rfl (thn (m i s σ H _ I h) λv s1 ⟨x,l,k,r1,y,C⟩=>?_);obtain⟨h1,h2⟩:=DR k r1 y;refine⟨T,id,q,d,g,h1,h2,?_⟩;have j:=A cpos i s1 σ l _ k C;rw[E]at j ⊢;refine Qw (by show(false||(backTo cpos (starEach es X.env)).any (·.1))=false;rw[a] <;> rfl) (Calls.evalArgs_plain ?_);exact thn j λB n ⟨vs,D,p,z,w⟩=>u i n σ D x vs v B Q p r1 z w
end
def MtM(X:Cx)(id:String)(r:V->List V->Hp->VK->Prop):Prop:=
 ∀(b:List (Addr × Obj)) (s:Shared) (σ:St) (H:Hp) (x:V) (c:List V) (v:Value) (a:List Value) (Q:VK),Inv X b σ H s->RelV x v->Vals c a->r x c H Q->
  wpAny (model X.prog X.w) X.A (call (.builtin id) (v::a)) (EP X b σ Q) X.xe s
theorem Vals.one:∀{x:V} {us:List Value},Vals [x] us->∃ u,us=[u]/\RelV x u
 | _,_,.cons r .nil=>⟨_,rfl,r⟩
theorem Vals.eraseIdx:∀{xs:List V} {us:List Value} (i:Nat),Vals xs us->Vals (xs.eraseIdx i) (us.eraseIdx i)
 | _,_,_,.nil=>.nil
 | _,_,0,.cons _ t=>t
 | _,_,i+1,.cons r t=>.cons r (Vals.eraseIdx i t)
theorem Vals.rep{xs:List V}{us:List Value}(h:Vals xs us):∀ k:Nat,Vals (List.replicate k xs).flatten (List.replicate k us).flatten
 | 0=>.nil
 | k+1=>by
  rw[OW,OW,Ps,Ps];exact Vals.append h (Vals.rep h k)
theorem yd{α:Type}:∀(l:List α) (i:Nat),(l.eraseIdx i).length<=l.length
 | [],_=>Nr _
 | _::_,0=>PJ _
 | _::r,i+1=>Nat.succ_le_succ (yd r i)
theorem ye(MS:List Value):∀(k:Nat) (a:List Value),
  List.foldl (λb c=>b++c) a.toArray (List.replicate k MS.toArray)=(a++(List.replicate k MS).flatten).toArray
 | 0,a=>by simp
 | k+1,a=>by
  have e:a.toArray++MS.toArray=(a++MS).toArray:=by simp
  have e2:(a++MS)++(List.replicate k MS).flatten=a++(List.replicate (k+1) MS).flatten:=by
   rw[OW,Ps,Om]
  rw[← e2,← ye MS k (a++MS),← e,OW,Op]
section
variable{X:Cx}{MO:List (Addr × Obj)}{σ:St}{H:Hp}{s:Shared}{l b:Addr}{xs ys zs:List V}
theorem Inv.lset {MS its':List Value} {n:Nat} {f:Array Value->Array Value} {t':Nat} (I:Inv X MO σ H s) (d:H l=↥xs)
  (e:s.heap.get? l=some {cls:=.type "list",data:=.seq MS.toArray n}) (a:f MS.toArray=its'.toArray) (h:Vals ys its') (g:ys.length<=sizeLine):
  Inv X MO σ (upd H l (.lst ys)) {s with heap:=s.heap.update l (Obj.mapSeq f),toks:=t'}:=by
 have q:=PySem.IsL.update e f;rw[a]at q;refine I.write (x:=l) (e:=l) (by rw[d];exact trivial) (.inl rfl) (λi u c b=>(Heap.get?_update_other s.heap (Obj.mapSeq f) (P1 c)).trans b) ⟨_,q⟩ ?_;exact⟨g,its',_,h,q⟩
def Inv.lnew{MS:List Value}{t':Nat}(I:Inv X MO σ H s)(b:Vals ys MS)(a:ys.length<=sizeLine):
  Inv X MO σ (upd H s.heap.objs.size (.lst ys)) {s with heap:=s.heap.push {cls:=.type "list",data:=.seq MS.toArray},toks:=t'}:=
 I.laid (λ_ _ q=>Nq _ q) (Nr _) ⟨a,MS,0,b,NN _ rfl⟩
def Inv.fresh(I:Inv X MO σ H s):H s.heap.objs.size=none:=I.hok.fresh (Nr _)
theorem Inv.lstM(I:Inv X MO σ H s)(a:H l=↥xs):xs.length<=sizeLine/\∃(MS:List Value) (n:Nat),Vals xs MS/\xs.length=MS.length/\s.heap.get? l=some {cls:=.type "list",data:=.seq MS.toArray n}:=by
 obtain⟨z,MS,n,r,e⟩:=I.hok l _ a;exact⟨z,MS,n,r,r.length,e⟩
theorem zN{n:Nat}(h:n<=sizeLine):Builtin.List.listTooLong n=false:=by
 unfold Builtin.List.listTooLong;exact M2 #[4]
end
section
variable{X:Cx}
def GN:V->List V->Hp->VK->Prop:=λx vs H Q=>∃ l a y,x=.ref l/\vs=[y]/\H l=↥a/\a.length<sizeLine/\Q .non (upd H l (.lst (a++[y])))
theorem yf:MtM X "list.append" GN:=by
 intro m s σ H x vs v j Q I d c h;obtain⟨l,g,y,rfl,rfl,a,k,q⟩:=h;cases d;obtain⟨u,rfl,f⟩:=c.one;obtain⟨z,b,n,r,i,e⟩:=I.lstM a;refine O1 F.slot_list_append ⟨_,e,rfl⟩ F.entry_list_append (F.args_list_append_2 _ _) (PySem.list_append l b.toArray n u (by rw[Nz];lia)) ⟨e,?_⟩;refine⟨.non,_,I.lset (its':=b++[u]) a e (by simp) (r.append (.cons f .nil)) ?_,rfl,q⟩;rw[NG,Pw];lia
def GO:V->List V->Hp->VK->Prop:=λx vs H Q=>∃ l b a c,x=.ref l/\vs=[.ref b]/\H l=↥a/\H b=↥c/\a.length+c.length<=sizeLine/\Q .non (upd H l (.lst (a++c)))
theorem DT:MtM X "list.extend" GO:=by
 intro C s σ H x vs v E Q I k o h;obtain⟨l,b,w,D,rfl,rfl,g,p,B,q⟩:=h;cases k;obtain⟨u,rfl,t⟩:=o.one;cases t;obtain⟨z,d,n,r,y,e⟩:=I.lstM g;obtain⟨A,a,i,j,m,e2⟩:=I.lstM p;have f:d.toArray.size+a.toArray.size<=sizeLine:=by rw[Nz,Nz];lia
 have c:¬ (!d.toArray.isEmpty&&Builtin.List.listTooLong (d.toArray.size+a.toArray.size))=true:=by
  rw[zN f,Bool.and_false];exact Nc
 refine O1 F.slot_list_extend ⟨_,e,rfl⟩ F.entry_list_extend (F.args_list_extend_2 _ _)
  (AutoSeq1.list_extend_list_list_0 l d.toArray n b a.toArray i c (by rw[Nz];lia) #[4]) ⟨e,e2,?_⟩
 refine⟨.non,_,I.lset (its':=d++a) g e (by simp) (r.append j) ?_,rfl,q⟩;rw[NG];lia
def HS:V->List V->Hp->VK->Prop:=λx vs H Q=>∃ l a i k y,x=.ref l/\vs=[.int i]/\H l=↥a/\ -(2^63)<=i/\i<2^63/\seqIndex? i a.length=some k/\a[k]? =some y/\Q y (upd H l (.lst (a.eraseIdx k)))
theorem FB:MtM X "list.pop" HS:=by
 intro B s σ H x vs v A Q I m d h;obtain⟨l,f,i,k,y,rfl,rfl,c,h1,h2,j,o,q⟩:=h;cases m;obtain⟨u,rfl,p⟩:=d.one;obtain⟨t,rfl⟩:=p;obtain⟨z,a,n,r,g,e⟩:=I.lstM c;obtain⟨w,hw,b⟩:=r.get o
 refine O1 F.slot_list_pop ⟨_,e,rfl⟩ F.entry_list_pop (F.args_list_pop_2 _ _)
  (MeetsSeq.list_pop_at l a.toArray n i t k w (fitsIndex_both h1 h2) (by rw[Nz,← g];exact j) (by rw[← QG];exact hw) (by rw[Nz];lia)) ⟨e,?_⟩
 refine⟨y,_,I.lset (its':=a.eraseIdx k) c e ?_ (r.eraseIdx k) ?_,b,q⟩
 . show a.toArray.eraseIdxIfInBounds k=(a.eraseIdx k).toArray;rw[List.eraseIdxIfInBounds_toArray]
 . have:=yd f k;lia
def rCat:R2:=λx y H Q=>∃ l b a c,x=.ref l/\y=.ref b/\H l=↥a/\H b=↥c/\a.length+c.length<=sizeLine/\∀ p,H p=none->Q (.ref p) (upd H p (.lst (a++c)))
theorem HU:OpR X (binaryOp .Add) rCat:=by
 intro C s σ H x y v u Q I j i h;obtain⟨l,b,o,t,rfl,rfl,f,d,B,q⟩:=h;cases j;cases i;obtain⟨z,c,n,r,p,e⟩:=I.lstM f;obtain⟨A,a,w,g,k,e2⟩:=I.lstM d;refine PySem.P.add_list e e2 ?_ (by rw[Nz,Nz];lia);have m:c.toArray++a.toArray=(c++a).toArray:=by simp
 rw[m];exact⟨.ref _,_,I.lnew (t':=s.toks) (r.append g) (by rw[NG];lia),rfl,q _ I.fresh⟩
def rRep:R2:=λx y H Q=>∃ l k a,x=.ref l/\y=.int k/\H l=↥a/\ -(2^63)<=k/\k<2^63/\a.length*k.toNat<=sizeLine/\
 ∀ p,H p=none->Q (.ref p) (upd H p (.lst (List.replicate k.toNat a).flatten))
theorem GP{α:Type}(xs:List α)(k:Nat):(List.replicate k xs).flatten.length=k*xs.length:=by
 induction k with
 | zero=>simp
 | succ k a=>rw[OW,Ps,NG,a,QU,Nat.add_comm]
theorem HV:OpR X (binaryOp .Mult) rRep:=by
 intro K s σ H x y v u Q I A C h;obtain⟨l,k,G,rfl,rfl,B,h1,h2,o,q⟩:=h;cases A;obtain⟨t,rfl⟩:=C;obtain⟨z,b,n,r,p,e⟩:=I.lstM B;have D:b.toArray.size*k.toNat<=sizeLine:=by rw[Nz,← p];exact o
 have d:¬ b.toArray.size*k.toNat > (2^63-1)/8:=by
  have:(sizeLine:Nat)<=(2^63-1)/8:=by decide
  lia
 have f:¬ (!Builtin.List.listFitsIndex k)=true:=by
  rw[fitsIndex_both h1 h2];exact Nc
 have c:¬ Builtin.List.listTooLong (b.toArray.size*k.toNat)=true:=by
  rw[zN D];exact Nc
 have g:List.foldl (λj i=>j++i) #[] (List.replicate (if b.toArray.isEmpty=true then 0 else k.toNat) b.toArray)=(List.replicate k.toNat b).flatten.toArray:=by
  have E:∀ m:Nat,List.foldl (λj i=>j++i) #[] (List.replicate m b.toArray)=(List.replicate m b).flatten.toArray:=λm=>by
   have:=ye b m [];rw[List.nil_append]at this;exact this
  rw[E]
  cases b with
  | nil=>simp
  | cons a J=>rw[Nt (by simp)]
 refine wpAny_binaryOp_repeat_ref (T:="list") (U:="int") #[1] ⟨_,e,rfl⟩ (λw=>typeIs_int w k t) noFill_list_mul F.fills_int_mul F.slot_int_rmul repeat_list F.slot_int_index.lookup
  (O1 F.slot_int_rmul (typeIs_int s k t) F.entry_int_rmul (F.args_int_rmul_2 _ _) (int___rmul___int_list k t l b.toArray n)
   ⟨e,rfl,⟨_,e,rfl⟩,O1 F.slot_list_mul ⟨_,e,rfl⟩ F.entry_list_mul (F.args_list_mul_2 _ _) (AutoListH.list___mul___list_int_3 l b.toArray n k t f d c) ⟨e,?_⟩⟩)
 rw[g];exact⟨.ref _,_,I.lnew (t':=s.toks) (r.rep k.toNat) (by rw[GP,Nat.mul_comm];exact o),rfl,q _ I.fresh⟩
end
end L2
namespace Att
open PySem PySem.W PySem.Calls PyProof.Rows
theorem ints_of_wellAll{P:Params}{h:Heap}:∀(ns:∅) (vs:List Value),WellAll P h vs (ns.map WData.int)->IntsAre vs ns:=by
 intro ns
 induction ns with
 | nil=>
  intro vs w;rw[List.map_nil]at w;cases w;exact .nil
 | cons n ns c=>
  intro vs w;rw[List.map_cons]at w
  cases w with
  | cons a b=>
   cases a;exact .cons _ _ (c _ b)
theorem script_of {l:OpenLaw} {n:Nat} (j:l.most=some n) {P:Params} {h:Heap} {args:List WData} {b:List Value}
  (c:l.row.toRowW.claim.pre args=true) (f:WellAll P h b args):
  ∃ a vs ns,b=[Value.ref a]/\args=[WData.list (ns.map WData.int)]/\h.get? a=some {cls:=.type "list",data:=.seq vs.toArray}/\IntsAre vs ns/\ns.length<=n:=by
 have g:WShape.hasAll [] args [.list .int]=true:=(pre_splitW c).1;have i:l.pre.holds [] {args:=args}=true:=(pre_splitW c).2;obtain⟨d,r,rfl,h1,h2⟩:=hasAllW_cons g;obtain rfl:=hasAllW_nil h2;obtain⟨t,rfl,h3⟩:=hasW_list h1;obtain⟨ns,rfl⟩:=items_int h3
 have s:ns.length<=n:=by
  unfold OpenLaw.pre at i
  have h4:(WTm.not (.lt (.lit (.int (n:Int))) (.len (.arg 0)))).holds [] {args:=[.list (ns.map .int)]}=true:=by
   have h4:=(holds_andW i).1;rw[j]at h4;exact h4
  have h5:=condW_of h4 (w_not (w_lt w_lit (w_len_list (w_arg rfl))));rw[List.length_map]at h5;refine Nat.le_of_not_lt λq=>?_;have o:(n:Int) < ((ns.length:Nat):Int):=by lia
  first
   | (rw[decide_eq_true o]at h5;exact absurd h5 #[1])
   | (simp at h5;lia)
 cases f with
 | cons m k=>
  cases k
  cases m with
  | list p e=>exact⟨_,_,ns,rfl,rfl,p,ints_of_wellAll ns _ e,s⟩
def post_true(l:OpenLaw)(args:List WData):l.row.toRowW.claim.post args (.bool true) args=true:=
 postW_of (r:=l.row.toRowW) (X:=(true==true))
  (show WShape.has [] (.bool true) .bool=true by first | rfl | decide | simp[WShape.has,WShape.arms,WShape.armsAll])
  (show(WTm.eq .res (.lit (.bool true))).value [] {args:=args,res:=some (.bool true),after:=args}=some (.bool (true==true)) from w_eq_bool (w_res rfl) w_lit) rfl
def attach_call {l:OpenLaw} {n:Nat} {q:Program} {b:List Str} {C:(Str->Option Value)->Heap->Prop} {B:World->Heap->Prop} {d:DefRec}
  (I:l.most=some n) (y:d.params.defaults=[])
  (i:∀(w:World) (z c:Shared) (m s:Str->Option Value) (j:Addr) (o:Obj) (t p e:Value) (a:Addr) (vs:List Value) (ns:∅),
   Ground q b [] C w z m s c.heap->B w c.heap->
   c.heap.get? j=some o->o.data=.func (docDef d.name d.params d.body d.scope t p e)->c.heap.CodeRec p d.name->m d.name=↑j->
   c.heap.get? a=some {cls:=.type "list",data:=.seq vs.toArray}->IntsAre vs ns->ns.length<=n->c.gens=#[]->
   codeAny (model l.prog w) callerA (.call (.ref j) ⟨[.ref a],[]⟩) (λr s'=>r=.ok (.ret (.bool true))/\OldK c.heap s'.heap/\s'.os=c.os/\AllBare s'.gens) c):
  WalkO q b C B l.row.toRowW d [] (λf vs=>PySem.call f vs):=by
 intro w z c m s G Y j o t p e J M H N u D x Q F A S k E R v K;obtain rfl:J=.none:=Dflts.none D y;obtain rfl:M=.none:=Dflts.noKw D;obtain⟨a,vs,ns,rfl,rfl,h,g,P⟩:=script_of I k v;refine enter_call (codeAny_mono (i w z c m s j o t p e a vs ns G Y H (fd_plain N) u x h g P Q) λr s' O=>?_);obtain⟨rfl,h2,h3,h4⟩:=O;exact⟨.inl ⟨.bool true,.bool true,[],rfl,λ_=>rfl,.bool true,post_true l _,λ_=>⟨List.Pairwise.nil,λ_ L=>(nomatch L)⟩⟩,h2,h3,h4⟩
section
variable{prog:Program}{w:World}{A:Around}{E:Value->Shared->Prop}{s:Shared}{K:Frag}
end
end Att
namespace L2
open PySem PySem.Spec PyProof.Rows
theorem rD:∀{vs:List Value} {ns:∅},IntsAre vs ns->Vals (ns.map V.int) vs
 | _,_,.nil=>.nil
 | _,_,.cons n t h=>.cons ⟨t,rfl⟩ (rD h)
def dR(s:Stmt):Arguments:=match s with
 | .FunctionDef _ a _ _ _ _ _ _ _ _=>a
 | _=>{posonlyargs:=[],args:=[],vararg:=none,kwonlyargs:=[],kw_defaults:=[],kwarg:=none,defaults:=[]}
def cI(s:Stmt):List Stmt:=match s with
 | .FunctionDef _ _ b _ _ _ _ _ _ _=>b
 | _=>[]
def aQ(s:Stmt):Scope:=match s with
 | .FunctionDef _ _ _ _ _ _ a _ _ _=>a
 | _=>{kind:=.function,names:=[],isGenerator:=false,isCoroutine:=false}
abbrev CX0:CXT:=λ_ _ _ _ _ _=>False
abbrev E0:XK:=λ_ _ _=>False
def zq{X:Cx}:rA CX0 X E0:=λ_ _ _ _ _ _ _ h=>h.elim
structure Fun(K:Frag)(x qual:Str)(st:Stmt)(f:Addr)(fd:FuncData):Prop where
 ex:∃(oc:Value) (od:Option Addr) (kV doc pm:Value) (an:Option Addr) (MQ ct:Value) (osl:Array (Option Value)),
  fd=fnOf x qual (dR st) (cI st) (aQ st) .none kV doc pm an MQ ct/\K.lookup f=some ⟨oc,od,.func fd,osl⟩/\codeIn K MQ qual=true
 kp:keepIn K (.ref f)=true
section
variable{P:Program}{w:World}{K:Frag}{mg:Str->Option Value}{base:Heap}
theorem Fun.ok {x b:Str} {st:Stmt} {f:Addr} {l:FuncData} {N i:List Str} {k:Nat} {sp:Sp} (F:Fun K x b st f l) (S:jk N i (aQ st)) (e:∀ vs H Q E,sp vs H Q E->vs.length=i.length)
  (c:∀(d:Value) (A:Around) (a:List Env) (s:Shared) (H:Hp) (vs:List V) (Q:VK) (E:XK),Room k (A.deeper (envOfC b (aQ st) s.heap.objs.size f d))->sp vs H Q E->
   ∃ t,PSs (cxOf CX0 P w K mg base N b (aQ st) f d A a s H E).nox (cI st) t/\t {nx:=λ_ p=>Q .non p,rt:=Q} (start N vs) H):FnOk P w K mg base CX0 (k+1) f l i sp:=by
 obtain⟨z,u,C,n,v,B,d,y,r,rfl,o,g⟩:=F.ex;refine Gj o g S e λA a s H vs Q E m j=>?_;obtain⟨t,h,q⟩:=c d A a s H vs Q E m j;exact⟨t,h.nox,q⟩
theorem Fun.binds {x a:Str} {st:Stmt} {f:Addr} {j:FuncData} {e:List Str} (F:Fun K x a st f j)
  (h:∀(i b c:Value) (d:Option Addr) (g ct:Value) (us:List Value),us.length=e.length->bindArgs (fnOf x a (dR st) (cI st) (aQ st) .none i b c d g ct) ⟨us,[]⟩=pure (e.zip us)):Binds K j e []:=by
 obtain⟨o,n,i,b,c,d,g,ct,l,rfl,m,k⟩:=F.ex;exact .all (h i b c d g ct)
def DU {x a:Str} {st:Stmt} {f:Addr} {m:Value} {j h:Option Addr} {d:Array (Option Value)} {i b g e ct:Value} (l:K.lookup f=some ⟨m,j,.func (fnOf x a (dR st) (cI st) (aQ st) .none i b g h e ct),d⟩)
  (c:codeIn K e a=true) (k:keepIn K (.ref f)=true):Fun K x a st f (fnOf x a (dR st) (cI st) (aQ st) .none i b g h e ct):=⟨⟨m,j,i,b,g,h,e,ct,d,rfl,l,c⟩,k⟩
end
def aC{n:Nat}(h:n<=1000):n<sizeLine:=Ot h #[1]
section
variable{X:Cx}
theorem pv (i:Nat) {x:Str} {pos:Pos} (c:X.N[i]? =some x:=by rfl) (b:Vis X.env.scope x:=by first | exact Or.inl rfl | exact Or.inr (Or.inl rfl) | exact Or.inr (Or.inr rfl)) (d:(x==("__debug__":Str))=false:=by decide)
  (a:(x==("__classdict__":Str))=false:=by decide):PE X (.Name x pos) (tVar i):=HG c b d a
end
theorem iteF{A B:Prop}(h:B):if false=true then A else B:=by
 rw[Nt Nc];exact h
theorem iteT{A B:Prop}(h:A):if true=true then A else B:=by
 rw[NA rfl];exact h
def Same(H a:Hp):Prop:=∀ b o,H b=some o->a b=some o
def Same.refl(H:Hp):Same H H:=λ_ _ h=>h
abbrev M5:=@Same.refl
def Same.trans{H d e:Hp}(a:Same H d)(b:Same d e):Same H e:=λc o h=>b c o (a c o h)
theorem Same.free{H a:Hp}(e:Same H a){l:Addr}(h:a l=Option.none):H l=Option.none:=by
 cases q:H l with
 | none=>rfl
 | some o=>
  rw[e l o q]at h;cases h
theorem Same.seq{K:Frag}{H b:Hp}{a:Addr}{xs:List V}(e:Same H b)(h:SqL K H a xs):SqL K b a xs:=by
 rcases h with (h | ⟨o,h⟩) | h
 . exact .inl (.inl (e _ _ h))
 . exact .inl (.inr ⟨o,e _ _ h⟩)
 . exact .inr h
section
variable{κ:Type}[DecidableEq κ]
def valV(b:List (κ × V))(k:κ):Option V:=(b.find? λa=>decide (a.1=k)).map (·.2)
def putK(b:List (κ × V))(k:κ)(v:V):List (κ × V):=
 if (b.any λa=>decide (a.1=k))=true then b.map (λa=>if a.1=k then(a.1,v) else a) else b++[(k,v)]
theorem zO{p:κ × V}{r:List (κ × V)}{k:κ}(e:p.1=k):valV (p::r) k=some p.2:=by simp[valV,OR,e]
theorem zP{p:κ × V}{r:List (κ × V)}{k:κ}(e:¬ p.1=k):valV (p::r) k=valV r k:=by simp[valV,OR,e]
theorem RelO.isSome_eq{o:Option V}{u:Option Value}(r:RelO o u):o.isSome=u.isSome:=by
 cases o with
 | none=>cases u with
  | none=>rfl
  | some _=>exact(show False from r).elim
 | some _=>cases u with
  | none=>exact(show False from r).elim
  | some _=>rfl
theorem KV.val{d:List (κ × V)}{vs:List (κ × Value)}(r:KV d vs)(k:κ):RelO (valV d k) (valueAt vs k):=by
 unfold KV at r
 induction r with
 | nil=>exact True.intro
 | @cons p q g c h t f=>
  obtain⟨h1,h2⟩:=h;by_cases e:p.1=k
  . have a:q.1=k:=h1.symm.trans e;have b:valueAt (q::c) k=some q.2:=by simp[valueAt,OR,a]
    rw[zO e,b];exact h2
  . have a:¬ q.1=k:=λz=>e (h1.trans z);have b:valueAt (q::c) k=valueAt c k:=by simp[valueAt,OR,a]
    rw[zP e,b];exact f
def KV.length{a:List (κ × V)}{vs:List (κ × Value)}(r:KV a vs):a.length=vs.length:=Paired.length r
end
theorem zr{P:Program}{w:World}{k:Key}{u:Value}(r:RelV (kV k) u):(gp P w).is k u=true:=by
 cases k with
 | inl i=>obtain⟨t,e⟩:=(show ∃ t,u=Value.int i t from r);subst e;exact Bo P w i t
 | inr x=>obtain⟨t,e⟩:=(show ∃ t,u=Value.str x t from r);subst e;exact Bp P w x t
theorem yg{P:Program}{w:World}:∀{ks:List Key} {us:List Value},Vals (ks.map kV) us->ItemsAre (gp P w) ks us
 | [],_,r=>by rw[List.map_nil]at r;cases r;exact .nil
 | k::ks,_,r=>by
  rw[NK]at r
  cases r with
  | cons h t=>exact .cons (zr h) (yg t)
abbrev KT(H:Hp):List (List Key × V)->List (List Key × Addr × Value)->Prop:=Paired λp q=>p.1=q.1/\H q.2.1=some (.tup (p.1.map kV))/\RelV p.2 q.2.2
variable{H:Hp}
theorem KT.val{d:List (List Key × V)}{xs:List (List Key × Addr × Value)}(r:KT H d xs)(k:List Key):RelO (valV d k) ((atKey xs k).map (·.2)):=by
 induction r with
 | nil=>exact True.intro
 | @cons p q g c h t f=>
  obtain⟨h1,_,h2⟩:=h;by_cases e:p.1=k
  . have a:q.1=k:=h1.symm.trans e;have b:atKey (q::c) k=some q.2:=by simp[atKey,OR,a]
    rw[zO e,b];exact h2
  . have a:¬ q.1=k:=λz=>e (h1.trans z);have b:atKey (q::c) k=atKey c k:=by simp[atKey,OR,a]
    rw[zP e,b];exact f
section
variable{P:Program}{w:World}{H:Hp}{h:Heap}{a:Addr}
def Gk{u:HO}(b:HOk P w H h)(e:Rd H a u):ObjOk P w H h a u:=e.ok b
def vi{b:List (Key × V)}(c:HOk P w H h)(e:Rd H a (.dK b)):b.length<=sizeLine/\(a==sysModules)=false/\∃ vs,KV b vs/\h.DictOf (gp P w) a vs:=
 show ObjOk P w H h a (.dK b) from Gk c e
theorem vj{ks:List Key}(c:HOk P w H h)(e:H a=some (.tup (ks.map kV))):(tupleKind (gp P w)).is h ks a:=by
 obtain⟨_,b,r,o,h1,h2,n,h3⟩:=(show ObjOk P w H h a (.tup (ks.map kV)) from c a _ e);exact⟨o,b.toArray,n,h1,h2,h3,by simpa using yg r⟩
theorem zt{c:List (List Key × V)}(g:HOk P w H h)(e:Rd H a (.dT c)):c.length<=sizeLine/\(a==sysModules)=false/\
  ∃ xs,KT H c xs/\h.DictOfH (tupleKind (gp P w)) a xs:=by
 obtain⟨z,y,xs,r,o,j,k,h1,h2,h3,h4,h5⟩:=(show ObjOk P w H h a (.dT c) from Gk g e);refine⟨z,y,xs,r,o,j,k,h1,h2,h3,h4,λx b=>?_,h5⟩
 have d:∀{l:List (List Key × V)} {m:List (List Key × Addr × Value)},KT H l m->∀ x∈m,(tupleKind (gp P w)).is h x.1 x.2.1:=by
  intro l m q
  induction q with
  | nil=>intro x b;exact nomatch b
  | @cons p q s n f t i=>
   intro x b;rcases Ng.mp b with e | b
   . subst e;exact vj g (by rw[← f.1];exact f.2.1)
   . exact i x b
 exact d r x b
end
def DGet(H:Hp)(a:Addr)(y:V)(r:Option V):Prop:=
 (∃ c k,Rd H a (.dK c)/\y=kV k/\r=valV c k)\/∃ c k b,Rd H a (.dT c)/\y=.ref b/\H b=some (.tup (k.map kV))/\r=valV c k
def DPut(H:Hp)(a:Addr)(y v:V)(d:Hp):Prop:=
 (∃ c k,H a=some (.dK c)/\y=kV k/\c.length<sizeLine/\d=upd H a (.dK (putK c k v)))\/
 ∃ c k b,H a=some (.dT c)/\y=.ref b/\H b=some (.tup (k.map kV))/\c.length<sizeLine/\d=upd H a (.dT (putK c k v))
theorem DGet.k{a:Addr}{b:List (Key × V)}{k:Key}(e:H a=some (.dK b)):DGet H a (kV k) (valV b k):=.inl ⟨b,k,.inl e,rfl,rfl⟩
section
variable{X:Cx}{MO:List (Addr × Obj)}{σ:St}{H:Hp}{s:Shared}{a:Addr}{y v:V}{u r:Value}{o:Option V}{A:Around}{E:Value->Shared->Prop}
theorem DW{Q:Value->Shared->Prop}(x:A.units+1<cLine)(I:Inv X MO σ H s)(g:DGet H a y (some v))(n:RelV y u)(h:∀ f s',Inv X MO σ H s'->RelV v f->Q f s'):
  wpAny (model X.prog X.w) A (getItem (.ref a) u) Q E s:=by
 rcases g with ⟨B,k,e,j,l⟩ | ⟨B,k,b,e,j,r,l⟩
 . subst j;obtain⟨z,t,vs,d,m⟩:=vi I.hok e;obtain⟨f,hw,c⟩:=QR (v:=v) (o:=valueAt vs k) (by rw[l];exact d.val k);exact wpAny_getItem_of (zr n) m.mapOf hw (h f _ (I.tok _) c)
 . subst j;cases (show u=Value.ref b from n);obtain⟨z,t,q,d,m⟩:=zt I.hok e;obtain⟨f,hw,c⟩:=QR (v:=v) (o:=(atKey q k).map (·.2)) (by rw[l];exact d.val k);obtain⟨p,C,i⟩:=Oy.mp hw;refine wpAny_getItem_heap (P8 x) (vj I.hok r) m C ?_;rw[i];exact h f _ (I.tok _) c
theorem JL{Q:Value->Shared->Prop}(n:A.units+1<cLine)(I:Inv X MO σ H s)(g:DGet H a y o)(j:RelV y u)(h:∀ s',Inv X MO σ H s'->Q (.bool o.isSome) s'):
  wpAny (model X.prog X.w) A (compareOp .In u (.ref a)) Q E s:=by
 rcases g with ⟨p,k,e,f,l⟩ | ⟨p,k,b,e,f,m,l⟩
 . subst f;obtain⟨z,d,vs,c,i⟩:=vi I.hok e;refine wpAny_in_of (zr j) d i.mapOf ?_;rw[← (c.val k).isSome_eq,← l];exact h _ (I.tok _)
 . subst f;cases (show u=Value.ref b from j);obtain⟨z,d,r,c,i⟩:=zt I.hok e;refine wpAny_in_heap (P8 n) (vj I.hok m) d i ?_;have q:=(c.val k).isSome_eq;rw[Option.isSome_map]at q;rw[← q,← l];exact h _ (I.tok _)
theorem GQ{Q:Value->Shared->Prop}(n:A.units+1<cLine)(I:Inv X MO σ H s)(g:DGet H a y o)(j:RelV y u)(h:∀ s',Inv X MO σ H s'->Q (.bool (!o.isSome)) s'):
  wpAny (model X.prog X.w) A (compareOp .NotIn u (.ref a)) Q E s:=by
 rcases g with ⟨p,k,e,f,l⟩ | ⟨p,k,b,e,f,m,l⟩
 . subst f;obtain⟨z,d,vs,c,i⟩:=vi I.hok e;refine wpAny_notIn_of (zr j) d i.mapOf ?_;rw[← (c.val k).isSome_eq,← l];exact h _ (I.tok _)
 . subst f;cases (show u=Value.ref b from j);obtain⟨z,d,r,c,i⟩:=zt I.hok e;refine wpAny_notIn_heap (P8 n) (vj I.hok m) d i ?_;have q:=(c.val k).isSome_eq;rw[Option.isSome_map]at q;rw[← q,← l];exact h _ (I.tok _)
end
section
variable{X:Cx}{MO:List (Addr × Obj)}{σ:St}{H:Hp}{s:Shared}{a:Addr}{MR:List (Key × V)}{k:Key}{u:Value}{A:Around}{E:Value->Shared->Prop}
theorem Jp{Q:Value->Shared->Prop}(I:Inv X MO σ H s)(e:Rd H a (.dK MR))(h:∀ t s',Inv X MO σ H s'->Q (.int MR.length t) s'):wpAny (model X.prog X.w) A (call (.builtin "len") [.ref a]) Q E s:=by
 obtain⟨z,d,vs,b,c⟩:=vi I.hok e;refine call_len_dict d c (by rw[← b.length];rw[sizeLine_eq]at z;lia) ?_;rw[← b.length];exact h _ _ (I.tok _)
end
theorem Br{X:Cx}{f:List (Addr × Obj)}{σ:St}{s:Shared}{a:Addr}{y:V}{o:Option V}(I:Inv X f σ H s)(g:DGet H a y o):s.TypeIs (.ref a) "dict":=by
 rcases g with ⟨d,k,e,_,_⟩ | ⟨d,k,b,e,_,_,_⟩
 . obtain⟨_,_,vs,_,c⟩:=vi I.hok e;exact c.typeIs
 . obtain⟨_,_,h,_,c⟩:=zt I.hok e;exact c.typeIs
def sDPut(h e d:TE):TS:=λD σ H=>d σ H λv c=>h σ c λx g=>e σ g λy f=>∃ a b,x=.ref a/\DPut f a y v b/\D.nx σ b
def HW:TE:=λ_ H Q=>∀ p,H p=none->Q (.ref p) (upd H p (.dK []))
section
variable{X:Cx}
theorem DX:CallR X (.builtin "len") (λxs H Q=>∃ a b,xs=[V.ref a]/\H a=some (.dK b)/\Q (.int b.length) H):=by
 intro i s σ H xs g Q I r h;obtain⟨a,b,rfl,e,q⟩:=h;obtain⟨u,rfl,d⟩:=d4 r;cases d;exact Jp I (.inl e) λt f c=>⟨.int b.length,H,c,⟨t,rfl⟩,q⟩
end
theorem dS{α:Type}(x:Str):∀(a b:List (Str × α)),(a++b).lookup x=match a.lookup x with | some c=>some c | none=>b.lookup x
 | [],b=>rfl
 | (k,v)::r,b=>by
  rw[List.cons_append,N5,N5]
  cases x==k with
  | true=>rfl
  | false=>exact dS x r b
theorem lu:∀(names:List (Str × NameKind)) (n:Nat) (a cl:List (Str × Addr)),cellsFrom n names (a++cl)=cellsFrom n names a++cl
 | [],_,_,_=>rfl
 | (y,k)::r,n,a,cl=>by
  unfold cellsFrom
  split
  . rw[← List.cons_append];exact lu r _ _ cl
  . exact lu r _ _ cl
theorem iG{x:Str}{c:Addr}:∀(names:List (Str × NameKind)) (n:Nat) (a:List (Str × Addr)),(x,c)∈cellsFrom n names a->(x,NameKind.cell)∈names\/(x,c)∈a
 | [],_,_,h=>.inr h
 | (y,k)::r,n,a,h=>by
  unfold cellsFrom at h
  split at h
  . rename_i b
    have b:k=.cell:=by simpa using b
    subst b;rcases iG r _ _ h with z | z
    . exact .inl (Ni _ z)
    . rcases Ng.mp z with z | z
      . cases z;exact .inl Nh
      . exact .inr z
  . rcases iG r _ _ h with z | z
    . exact .inl (Ni _ z)
    . exact .inr z
theorem p9 {env:Env} (f:Str × NameKind->List (Str × Addr)->Sem (ForInStep (List (Str × Addr))))
  (n:∀ g kind cs,f (g,kind) cs=if kind==.free then(do let a ← cellOf env g;pure (.yield ((g,a)::cs))) else pure (.yield cs)):
  ∀(names:List (Str × NameKind)) (d:List (Str × Addr)),(∀ x,(x,NameKind.free)∈names->∃ c,env.cells.lookup x=some c)->(∀ x c,d.lookup x=some c->env.cells.lookup x=some c)->
   ∃ cl,forIn names d f=(pure cl:Sem _)/\(∀ x c,cl.lookup x=some c->env.cells.lookup x=some c)/\(∀ x,((x,NameKind.free)∈names\/∃ c,d.lookup x=some c)->∃ c,cl.lookup x=some c)
 | [],d,_,h2=>⟨d,rfl,h2,λx h=>h.elim (λz=>nomatch z) id⟩
 | (y,k)::r,d,h1,h2=>by
  rw[List.forIn_cons,n];by_cases j:(k==NameKind.free)=true
  . rw[NA j];have m:k=.free:=by simpa using j
    subst m;obtain⟨c,o⟩:=h1 y Nh;have e:(cellOf env y:Sem Addr)=pure c:=by unfold cellOf;rw[o]
    rw[e]
    obtain⟨cl,e1,e2,l⟩:=p9 f n r ((y,c)::d) (λx b=>h1 x (Ni _ b)) (λx c' b=>by
     rw[N5]at b
     cases i:x==y with
     | true=>rw[i]at b;cases b;rw[O7.mp i];exact o
     | false=>rw[i]at b;exact h2 x c' b)
    refine⟨cl,?_,e2,λx b=>l x ?_⟩
    . exact e1
    . rcases b with b | ⟨c',b⟩
      . rcases Ng.mp b with z | z
        . cases z;exact .inr ⟨c,by rw[N5];simp⟩
        . exact .inl z
      . cases i:x==y with
        | true=>exact .inr ⟨c,by rw[N5,i]⟩
        | false=>exact .inr ⟨c',by rw[N5,i];exact b⟩
  . rw[Nt j];obtain⟨cl,e1,e2,l⟩:=p9 f n r d (λx b=>h1 x (Ni _ b)) h2;refine⟨cl,e1,e2,λx b=>l x ?_⟩;rcases b with b | b
    . rcases Ng.mp b with z | z
      . cases z;exact absurd rfl j
      . exact .inl z
    . exact .inr b
variable{scope:Scope}
theorem vk{env:Env}(h:∀ x,(x,NameKind.free)∈scope.names->∃ c,env.cells.lookup x=some c):
  ∃ cl,closureFor scope env=pure cl/\(∀ x c,cl.lookup x=some c->env.cells.lookup x=some c)/\∀ x,(x,NameKind.free)∈scope.names->∃ c,cl.lookup x=some c:=by
 obtain⟨cl,e1,e2,e⟩:=p9 (env:=env) (λx b=>match x with | (name,kind)=>if kind==.free then(do let a ← cellOf env name;pure (.yield ((name,a)::b))) else pure (.yield b)) (λ_ _ _=>rfl) scope.names [] h (λx c d=>nomatch d);refine⟨cl,?_,e2,λx d=>e x (.inl d)⟩
 have:closureFor scope env=(forIn scope.names [] (λx b=>match x with | (name,kind)=>if kind==.free then(do let a ← cellOf env name;pure (.yield ((name,a)::b))) else pure (.yield b)) >>= λb=>pure b):=by
  simp only[closureFor]
 rw[this,e1];rfl
def DY(scope:Scope)(cl:List (Str × Addr))(C:Addr)(env:Env):Env:=
 {newEnv scope C env.globals (cellsFrom (C+1) scope.names cl) env.qual none .none (some env) builtinsNs with scope:=relabel scope env}
theorem FC {M:Model} {A:Around} {E:Value->Shared->Prop} {s:Shared} {cl:List (Str × Addr)} {env:Env} {Q:Env->Shared->Prop}
  (e:Q (newEnv scope s.heap.objs.size env.globals (cellsFrom (s.heap.objs.size+1) scope.names cl) env.qual none .none (some env) builtinsNs) {s with heap:=pushCells (s.heap.push {cls:=.type "dict",data:=.dict #[]}) scope.names}):
  wpAny M A (newFunctionEnv scope env.globals cl [] env.qual none .none (some env)) Q E s:=by
 simp only[newFunctionEnv,Option.isSome_some,QT];refine NV (wpAny_alloc ?_);refine NV (wpAny_layCells _ (λd a c=>by cases b:a==NameKind.cell <;> simp[b]) _ _ _ _ ?_);rw[show({s with heap:=s.heap.push {cls:=.type "dict",data:=.dict #[]}}:Shared).heap.objs.size=s.heap.objs.size+1 from ON ..];refine NV ?_;rw[List.forIn_nil];exact N9 (N9 e)
section
variable{prog:Program}{w:World}{A:Around}{E:Value->Shared->Prop}{R:Result->Shared->Prop}{s:Shared}
theorem DZ {i a d:Expr} {f:List Expr} {scope:Scope} {pos:Pos} {it g:Value} {env:Env} (I:Nat->Shared->Prop)
  (j:∀ n s,I n s->wpAny (model prog w) A (pyNext it) (λr q=>match r with
   | none=>R (.ok .next) q
   | some v=>wpAny (model prog w) A (letOwnedTupleGo a it v) (λ_ l=>wpAny (model prog w) A (assign a env v) (λ_ y=>
     wpAny (model prog w) A (forIn f true λc r=>if r=true then do let k ← isTrue c env (eval c env);pure (ForInStep.yield k) else pure (ForInStep.yield r)) (λk o=>
      if k=true then wpAny (model prog w) A (eval i env) (λx B=>
       wpAny (model prog w) A (call (.builtin "list.append") [g,x]) (λ_ t=>∃ m,m<n/\I m t) (notedBy (model prog w) A env λe s'=>R (.error e) s') B) (notedBy (model prog w) A env λe s'=>R (.error e) s') o
      else ∃ m,m<n/\I m o) (notedBy (model prog w) A env λe s'=>R (.error e) s') y) (notedBy (model prog w) A env λe s'=>R (.error e) s') l) (notedBy (model prog w) A env λe s'=>R (.error e) s') q) (notedBy (model prog w) A env λe s'=>R (.error e) s') s)
  (n:Nat) (h:I n s):
  codeAny (model prog w) A (.compLoop (.ListComp i [⟨a,d,f,0⟩] scope pos) 0 it g env) R s:=by
 refine codeAny_loop rfl I (λn s C=>?_) n h;show wpAny _ A ((compTurn (.ListComp i [⟨a,d,f,0⟩] scope pos) 0 it g env).onRaise (λx=>do noteFrame x env;theTreesLotGoes x)) _ _ s;refine wpAny_noted ?_;rw[compTurn_list];refine NV (QP (NV (On (j n s C) (λr q z=>?_) λ_ _ b=>b)))
 cases r with
 | none=>exact N9 z
 | some v=>
  refine NV (On z (λ_ l p=>?_) λ_ _ b=>b);refine NV (On p (λ_ y F=>NV (On F (λk o u=>?_) λ_ _ b=>b)) λ_ _ b=>b)
  cases k with
  | false=>exact N9 ⟨rfl,u⟩
  | true=>
   exact NV (NV (On u (λx B D=>NV (On D (λ_ t E=>N9 (N9 ⟨rfl,E⟩)) λ_ _ b=>b)) λ_ _ b=>b))
end
variable{scope:Scope}
theorem mj{env:Env}{x:Str}{k:NameKind}(h:(relabel scope env).names.lookup x=some k):∃ b,scope.names.lookup x=some b/\(k=b\/(b=.free/\k=.cell)):=by
 unfold relabel at h;dsimp only at h;generalize scope.names=names at h ⊢
 induction names with
 | nil=>cases h
 | cons p r d=>
  obtain⟨n,k0⟩:=p;rw[NK]at h;rw[N5]
  cases a:x==n with
  | true=>
   refine⟨k0,rfl,?_⟩;dsimp only at h
   split at h
   . rename_i c
     rw[N5,a]at h;cases h;simp only[M9,O7]at c;exact .inr ⟨c.1.1,rfl⟩
   . rw[N5,a]at h;cases h;exact .inl rfl
  | false=>
   dsimp only at h;refine d ?_
   split at h
   . rw[N5,a]at h;exact h
   . rw[N5,a]at h;exact h
def blkCx(X:Cx)(N:List Str)(scope:Scope)(cl:List (Str × Addr))(s:Shared)(H:Hp)(fp:List Addr):Cx where
 prog:=X.prog
 w:=X.w
 K:=X.K
 mg:=X.mg
 base:=X.base
 A:=X.A
 N:=N
 s₀:=s
 H₀:=H
 env:=DY scope cl (s.heap.objs.size+1) X.env
 outer:=X.stack
 stack:=X.stack
 ex:=fp
 fn:=λx=>scope.names.lookup x==some .cell
 calm:=X.calm
 pn:=[]
 xe:=λf g=>(∃(d:List (Addr × Obj)) (σ:St),Inv X d σ H s/\∀ b∈fp,FpOk X d H b)->notedBy (model X.prog X.w) X.A (DY scope cl (s.heap.objs.size+1) X.env) (λx c=>∃ m,c.heap.Ns (s.heap.objs.size+1) m/\∀ e,Heap.SameBut (s.heap.objs.size+1) c.heap e->∀ a:Env,a.locals=s.heap.objs.size+1->
  wpAny (model X.prog X.w) X.A (passOn "comprehension.variables-let-go" x a:Sem Value) (λ_ _=>False) X.xe {c with heap:=e}) f g
def subσ(ix:List (Option Nat))(σ:St):St:=ix.map λo=>match o with | none=>none | some i=>match σ[i]? with | some v=>v | none=>none
structure BlkOk(X:Cx)(N:List Str)(ix:List (Option Nat))(scope:Scope):Prop where
 kind:scope.kind=.function
 nd:N.Nodup
 len:ix.length=N.length
 names:(scope.names.map (·.1)).Nodup
 free:∀ x,(x,NameKind.free)∈scope.names->X.env.kindOf x=some .cell\/X.env.kindOf x=some .free
 at_:∀(j i:Nat) (x:Str),N[j]? =some x->ix[j]? =some (some i)->X.N[i]? =some x/\(x,NameKind.free)∈scope.names
theorem gk{α:Type}:∀{l:List (Str × α)} {x:Str} {k:α},(l.map (·.1)).Nodup->(x,k)∈l->l.lookup x=some k
 | (y,k0)::r,x,k,nd,h=>by
  rw[NK,NY]at nd;rw[N5];rcases Ng.mp h with e | e
  . cases e;simp
  . have:x≠y:=by
     rintro rfl;exact nd.1 (Nl.mpr ⟨(x,k),e,rfl⟩)
    have a:(x==y)=false:=by simpa using this
    rw[a];exact gk nd.2 e
theorem Ea {X:Cx} {MO:List (Addr × Obj)} {σ:St} {H:Hp} {s:Shared} {N:List Str} {ix:List (Option Nat)} {cl:List (Str × Addr)} {fp:List Addr} (B:BlkOk X N ix scope)
  (I:Inv X MO σ H s) (g:∀ x c,cl.lookup x=some c->X.env.cells.lookup x=some c) (P:∀ x,(x,NameKind.free)∈scope.names->∃ c,cl.lookup x=some c)
  (C:∀ b∈fp,FpOk X MO H b) (ab:∀ b∈fp,∃ o,s.heap.get? b=some o/\∀ v,o.data≠.cell v):
  Inv (blkCx X N scope cl s H fp) [] (subσ ix σ) (upd H s.heap.objs.size (.lst []))
   {s with heap:=pushCells ((s.heap.push {cls:=.type "list",data:=.seq #[]}).push {cls:=.type "dict",data:=.dict #[]}) scope.names}:=by
 have S:(s.heap.push {cls:=.type "list",data:=.seq #[]}).objs.size=s.heap.objs.size+1:=ON ..;have Q:((s.heap.push {cls:=.type "list",data:=.seq #[]}).push {cls:=.type "dict",data:=.dict #[]}).objs.size=s.heap.objs.size+2:=by rw[ON,S]
 have W:∀ b o,s.heap.get? b=some o->(pushCells ((s.heap.push {cls:=.type "list",data:=.seq #[]}).push {cls:=.type "dict",data:=.dict #[]}) scope.names).get? b=some o:=
  λb o e=>PM _ _ b o (Nq _ (Nq _ e))
 have hl:(pushCells ((s.heap.push {cls:=.type "list",data:=.seq #[]}).push {cls:=.type "dict",data:=.dict #[]}) scope.names).get? s.heap.objs.size=some {cls:=.type "list",data:=.seq #[]}:=
  PM _ _ _ _ (Nq _ (NN _ rfl))
 have D:=cellsFrom_ok scope.names ((s.heap.push {cls:=.type "list",data:=.seq #[]}).push {cls:=.type "dict",data:=.dict #[]}) (s.heap.objs.size+2) [] ⟨λ_ _ M=>(nomatch M),List.Pairwise.nil⟩ (by rw[Q];exact Nr _);rw[Q]at D
 have f:(blkCx X N scope cl s H fp).env.cells=cellsFrom (s.heap.objs.size+2) scope.names []++cl:=by
  show cellsFrom (s.heap.objs.size+1+1) scope.names cl=_;rw[← List.nil_append cl,lu];simp
 have a:∀ x c,(blkCx X N scope cl s H fp).env.cells.lookup x=some c->((x,c)∈cellsFrom (s.heap.objs.size+2) scope.names []/\(x,NameKind.cell)∈scope.names)\/((cellsFrom (s.heap.objs.size+2) scope.names []).lookup x=none/\cl.lookup x=some c):=λx c e=>by
  rw[f,dS]at e
  cases q:(cellsFrom (s.heap.objs.size+2) scope.names []).lookup x with
  | none=>rw[q]at e;exact .inr ⟨rfl,e⟩
  | some T=>
   rw[q]at e;cases e;have m:=Ol q;refine .inl ⟨m,?_⟩;rcases iG _ _ _ m with z | z
   . exact z
   . exact nomatch z
 have k:∀ x c,cl.lookup x=some c->c<s.heap.objs.size:=λx c e=>by
  obtain⟨v,q⟩:=I.cell x c (g x c e);exact q.lt
 have J:H s.heap.objs.size=none:=I.hok.fresh (Nr _)
 have E:∀ b,s.heap.objs.size<b->(upd H s.heap.objs.size (.lst [])) b=none:=λb h=>by
  rw[aj (P2 h)];exact I.hok.fresh (NU h)
 have O:∀ b∈fp,b<s.heap.objs.size:=λb h=>by
  obtain⟨o,e,_⟩:=ab b h;exact NC e
 have U:=I.env0;have d:∀ x c,(x,c)∈cellsFrom (s.heap.objs.size+2) scope.names []->s.heap.objs.size+2<=c:=λx c m=>(D.empty x c m).2
 refine⟨⟨I.ok.mod,B.kind,I.ok.glob,I.ok.blt,PJ _,λx y c e1 e2=>?_,λx Z=>?_,λx c Z e=>?_,I.ok.hd,I.ok.frames,.inl rfl,λb h=>⟨?_,λx c e=>?_⟩,U.bs,U.bsz,λb o e h=>?_,λb h ac=>?_,U.funs,U.frf⟩,
  rfl,I.bare,Un.laid W (Nr _) J,⟨λ_=>none,?_,λj x v e1 e2 e3=>?_⟩,λx c e=>?_,E _ (Pd _),λx c e=>?_,λp hp=>absurd (show p∈([]:List (Addr × Obj)) from hp) (by simp),?_,?_⟩
 . rcases a x c e1 with ⟨w,k1⟩ | ⟨L,A⟩ <;> rcases a y c e2 with ⟨m2,k2⟩ | ⟨n2,t⟩
   . exact name_of_addr D.apart w m2
   . exact absurd (NM (k _ _ t) (Nk (PB _ _) (d _ _ w))) (Oj _)
   . exact absurd (NM (k _ _ A) (Nk (PB _ _) (d _ _ m2))) (Oj _)
   . exact I.ok.inj x y c (g _ _ A) (g _ _ t)
 . have K:(relabel scope X.env).names.lookup x=some .cell\/(relabel scope X.env).names.lookup x=some .free:=Z
   have ad:scope.names.lookup x=some .cell\/scope.names.lookup x=some .free:=by
    rcases K with z | z
    . obtain⟨k',e,r | r⟩:=mj z
      . rw[← r]at e;exact .inl e
      . rw[r.1]at e;exact .inr e
    . obtain⟨k',e,r | r⟩:=mj z
      . rw[← r]at e;exact .inr e
      . cases r.2
   rw[f];rcases ad with z | z
   . obtain⟨c,q⟩:=p8 (n:=s.heap.objs.size+2) z;exact⟨c,by rw[dS,q]⟩
   . obtain⟨c,q⟩:=P x (Ol z)
     cases t:(cellsFrom (s.heap.objs.size+2) scope.names []).lookup x with
     | none=>exact⟨c,by rw[dS,t];exact q⟩
     | some T=>exact⟨T,by rw[dS,t]⟩
 . have K:scope.names.lookup x=some .cell:=by simpa [blkCx] using Z
   rcases a x c e with ⟨w,k1⟩ | ⟨L,A⟩
   . exact Nk (PB _ _) (d _ _ w)
   . obtain⟨T,q⟩:=p8 (n:=s.heap.objs.size+2) K;rw[q]at L;cases L
 . exact NS (Oz (O b h))
 . rcases a x c e with ⟨w,k1⟩ | ⟨L,A⟩
   . exact P2 (NM (O b h) (Nk (PB _ _) (d _ _ w)))
   . exact(C b h).2.2.2.2.1 x c (g _ _ A)
 . rcases(C b h).2.2.2.1 with z | z
   . exact I.ok.noex b o e z
   . exact absurd (NM (NC e) (Nk I.ok.bsz z)) (Oj _)
 . rcases Ng.mp (I.stkSub b ac) with z | z
   . exact(C b h).2.1 z
   . exact(C b h).2.2.1 z
 . show Heap.Ns _ (s.heap.objs.size+1) _;rw[← S];exact(Heap.Ns.new _ (.type "dict")).keeps (PM _ _)
 .
   unfold subσ at e2;rw[M7]at e2
   cases q:ix[j]? with
   | none=>rw[q]at e2;cases e2
   | some o=>
    rw[q]at e2
    cases o with
    | none=>cases e2
    | some i=>
     simp only[QC,Qg]at e2;obtain⟨hN,M⟩:=B.at_ j i x e1 q
     have hσ:σ[i]? =some (some v):=by
      cases t:σ[i]? with
      | none=>rw[t]at e2;cases e2
      | some z=>rw[t]at e2;exact congrArg some e2
     obtain⟨m,hn,aa⟩:=I.loc;have l:=B.free x M;have R:Vis X.env.scope x:=l.elim (λz=>.inr (.inl z)) λz=>.inr (.inr z);obtain⟨u,ru,lk⟩:=aa i x v hN hσ R;refine⟨u,ru,?_⟩;obtain⟨c,hc⟩:=P x M
     have G:(cellsFrom (s.heap.objs.size+2) scope.names []).lookup x=none:=by
      cases t:(cellsFrom (s.heap.objs.size+2) scope.names []).lookup x with
      | none=>rfl
      | some T=>
       rcases iG _ _ _ (Ol t) with z | z
       . have a1:=gk B.names z;have a2:=gk B.names M;rw[a1]at a2;cases a2
       . exact nomatch z
     have F:(blkCx X N scope cl s H fp).env.cells.lookup x=some c:=by rw[f,dS,G];exact hc
     have Y:(blkCx X N scope cl s H fp).env.kindOf x=some .cell\/(blkCx X N scope cl s H fp).env.kindOf x=some .free:=by
      rcases e3 with z | z | z
      . obtain⟨k',e,r | r⟩:=mj (show(relabel scope X.env).names.lookup x=some .local from z)
        . rw[gk B.names M]at e;cases e;cases r
        . cases r.2
      . exact .inl z
      . exact .inr z
     refine .inr ⟨Y,c,F,?_⟩;rcases lk with ⟨k1,_⟩ | ⟨_,c2,e4,z⟩
     . rcases l with z | z <;> rw[k1]at z <;> cases z
     . rw[g x c hc]at e4;cases e4;exact z.keeps W
 . rcases a x c e with ⟨w,k1⟩ | ⟨L,A⟩
   . exact⟨none,(D.empty x c w).1⟩
   . obtain⟨v,z⟩:=I.cell x c (g _ _ A);exact⟨v,z.keeps W⟩
 . rcases a x c e with ⟨w,k1⟩ | ⟨L,A⟩
   . exact E c (NM (Nat.lt_add_of_pos_right #[1]) (d _ _ w))
   . rw[aj (NS (k _ _ A))];exact I.freeC x c (g _ _ A)
 . exact I.hok.laid W (Nr _) ⟨Oc _,[],0,.nil,hl⟩
 . show(subσ ix σ).length=N.length;unfold subσ;rw[MZ];exact B.len
def PTs(X:Cx)(a:List Expr)(t:TT):Prop:=
 ∀(b:List (Addr × Obj)) (s:Shared) (σ:St) (H:Hp) (Q:Bool->Hp->Prop),Inv X b σ H s->t σ H Q->
  wpAny (model X.prog X.w) X.A (forIn a true λc r=>if r=true then do let ok ← isTrue c X.env (eval c X.env);pure (ForInStep.yield ok) else pure (ForInStep.yield r)) (TP X b σ Q) X.xe s
def tTrue:TT:=λ_ H Q=>Q true H
def a7{X:Cx}:PTs X [] tTrue:=λ_ _ _ H _ I h=>wpAny_tests_nil ⟨H,I,h⟩
def aX{X:Cx}{c:Expr}{t:TT}(h:PT X c t):PTs X [c] t:=λa s σ H Q I q=>wpAny_tests_one (h a s σ H Q I q)
def zQ(ix:List (Option Nat))(r:TI)(g:TG)(s:TT)(te:TE)(f:Addr->Hp->Prop):St->Hp->Prop:=λσ H=>r σ H λJ j=>∀ l,j l=none->
 ∃ W:Nat->Nat->St->Hp->Prop,(∃ m,W 0 m (subσ ix σ) (upd j l (.lst [])))/\∀ i m o d,W i m o d->
  (J.stop i d/\f l d)\/(J.go i d/\∃ N:St->Hp->Prop,(∀ c a,N c a->∃ n,n<m/\W (i+1) n c a)/\∀ x p,J.yld i d x p->g x o p λe t=>s e t λb k=>
   if b=true then te e k λy q=>∃ h,q l=↥h/\h.length<sizeLine/\N e (upd q l (.lst (h++[y]))) else N e k)
section
variable{X:Cx}{MO:List (Addr × Obj)}{σ σ':St}{H H':Hp}{s s':Shared}{N:List Str}{scope:Scope}{cl:List (Str × Addr)}{fp:List Addr}
theorem B5{h':Heap}(I:Inv X MO σ H s)(J:Inv (blkCx X N scope cl s H fp) [] σ' H' s')(h:∀ b∈fp,FpOk X MO H b)(g:Heap.SameBut (s.heap.objs.size+1) s'.heap h'):Inv X MO σ H' {s' with heap:=h'}:=by
 have u:Un (frs X.stack) fp H H' s.heap s'.heap:=J.base;have j:H' (s.heap.objs.size+1)=none:=J.free;have i:∀ b o,s.heap.get? b=some o->b≠s.heap.objs.size+1:=λb o e=>NS (Oz (NC e));refine I.call' (s':={s' with heap:=h'}) (ch:=fp) J.os ⟨λb o e n a d=>?_,λb o e n a d=>?_,u.free,λb o e d=>?_,u.tups,u.frzs,u.tbls⟩ (λb l e=>?_) J.bare λb a=>?_
 . exact(g.2 b (i b o e)).trans (u.keep b o e n a d)
 . obtain⟨t,q⟩:=u.slot b o e n a d;exact⟨t,(g.2 b (i b o e)).trans q⟩
 . obtain⟨r,q⟩:=u.there b o e d;exact⟨r,(g.2 b (i b o e)).trans q⟩
 . refine(J.hok b l e).stay (λc y f q=>(g.2 c ?_).trans q) (λ_ q=>q) λ_ _ q=>q;rintro rfl;rcases f with rfl | f
   . rw[j]at e;cases e
   . rw[j]at f;cases f
 . obtain⟨x,v,w,m,p,k⟩:=h b a;exact⟨m,v,p,k⟩
def zR {tg t G:Expr} {L:List Expr} {pos:Pos} {ix:List (Option Nat)} {wi:TI} {g:TG} {tt:TT} {te:TE} {ab:Addr->Hp->Prop} {RR:Value->Addr->Result->Shared->Prop} (B:BlkOk X N ix scope) (hc:X.calm=true)
  (hi:PI X tg t wi) (hg:∀ cl s H fp,PG (blkCx X N scope cl s H fp) tg g) (ht:∀ cl s H fp,PTs (blkCx X N scope cl s H fp) L tt) (he:∀ cl s H fp,PE (blkCx X N scope cl s H fp) G te)
  (ar:∀ x c,cl.lookup x=some c->X.env.cells.lookup x=some c) (am:∀ x,(x,NameKind.free)∈scope.names->∃ c,cl.lookup x=some c)
  (I:Inv X MO σ H s) (h:zQ ix wi g tt te ab σ H)
  (ok:∀(f:Shared) (j:Hp) (fp:List Addr) (σ3:St) (H3:Hp) (s3:Shared),Inv X MO σ j f->(∀ b∈fp,FpOk X MO j b)->Inv (blkCx X N scope cl f j fp) [] σ3 H3 s3->ab f.heap.objs.size H3->RR (.ref f.heap.objs.size) (f.heap.objs.size+1) (.ok .next) s3)
  (ac:∀(a C:Addr) (x:Value) (s':Shared),(∃ m,s'.heap.Ns C m/\∀ h',Heap.SameBut C s'.heap h'->∀ k:Env,k.locals=C->wpAny (model X.prog X.w) X.A (passOn "comprehension.variables-let-go" x k:Sem Value) (λ_ _=>False) X.xe {s' with heap:=h'})->RR (.ref a) C (.error x) s'):
  wpAny (model X.prog X.w) X.A (eval t X.env) (λx s₁=>wpAny (model X.prog X.w) X.A (pyIter x) (λit s₂=>wpAny (model X.prog X.w) X.A (newList []) (λU Y=>
   wpAny (model X.prog X.w) X.A (newFunctionEnv scope X.env.globals cl [] X.env.qual none .none (some X.env)) (λk s₄=>
    codeAny (model X.prog X.w) X.A (.compStart (.ListComp G [⟨tg,t,L,0⟩] scope pos) 0 it U {k with scope:=relabel scope X.env}) (RR U k.locals) s₄) X.xe Y) X.xe s₂) X.xe s₁) X.xe s:=by
 refine thn (hi MO s σ H _ I h) λv s1 h1=>thn h1 λas f h2=>?_;obtain⟨it,fp,tn,J,j,e,I2,T,K,f2,h2⟩:=h2;subst e;refine wpAny_newList (FC ?_) (Oc _);have ak:(f.heap.push {cls:=.type "list",data:=.seq (([]:List Value)).toArray}).objs.size=f.heap.objs.size+1:=ON ..;dsimp only;rw[ak];have I3:=Ea (fp:=fp) B I2 ar am f2 (T.obj _ _ K);obtain⟨W,⟨m0,w0⟩,ae⟩:=h2 f.heap.objs.size I2.fresh
 have hk:∀ b o,f.heap.get? b=some o->(pushCells ((f.heap.push {cls:=.type "list",data:=.seq #[]}).push {cls:=.type "dict",data:=.dict #[]}) scope.names).get? b=some o:=
  λb o e=>PM _ _ b o (Nq _ (Nq _ e))
 have S:=T.keep _ _ _ K λb _ o e=>hk b o e
 have ai:∀ b∈fp,(upd j f.heap.objs.size (.lst [])) b=none:=λb z=>by
  obtain⟨o,e,_⟩:=T.obj _ _ K b z;rw[aj (NS (NC e))];exact(f2 b z).1
 have E:∀{σ5:St} {H5:Hp} {s5:Shared},Inv (blkCx X N scope cl f j fp) [] σ5 H5 s5->(∀ b∈fp,H5 b=none)->∀ b∈fp,FpOk (blkCx X N scope cl f j fp) [] H5 b:=λI5 hn b z=>
  ⟨hn b z,(I5.ok.exf b z).1,I5.ok.exfs b z,.inl z,(I5.ok.exf b z).2,λp hp=>absurd (show p∈([]:List (Addr × Obj)) from hp) (by simp)⟩
 have F:∀ Y:Shared,Y={f with heap:=pushCells ((f.heap.push {cls:=.type "list",data:=.seq #[]}).push {cls:=.type "dict",data:=.dict #[]}) scope.names}->
   codeAny (model X.prog X.w) X.A (.compLoop (.ListComp G [⟨tg,t,L,0⟩] scope pos) 0 (.ref it) (.ref f.heap.objs.size) (blkCx X N scope cl f j fp).env) (RR (.ref f.heap.objs.size) (f.heap.objs.size+1)) Y:=by
  rintro Y rfl;refine DZ (λn s'=>∃ i σ' H',Inv (blkCx X N scope cl f j fp) [] σ' H' s'/\tn i s'.heap/\(∀ b∈fp,H' b=none)/\W i n σ' H') ?_ m0 ⟨0,_,_,I3,S,ai,w0⟩;rintro n s4 ⟨i,σ4,H4,I4,Z,ad,w4⟩
  have l:∀ x s',(blkCx X N scope cl f j fp).xe x s'->notedBy (model X.prog X.w) X.A (blkCx X N scope cl f j fp).env (λe s'=>RR (.ref f.heap.objs.size) (f.heap.objs.size+1) (.error e) s') x s':=λx s' hx=>
   On (hx ⟨MO,σ,I2,f2⟩) (λ_ ao q=>ac _ _ _ _ q) λe ao q=>ac _ _ _ _ q
  rcases ae i n σ4 H4 w4 with ⟨aa,qn⟩ | ⟨go,Nx,hN,af⟩
  . refine On (T.done (blkCx X N scope cl f j fp) rfl rfl rfl hc i [] s4 σ4 H4 _ I4 (E I4 ad) Z aa) (λr s5 ⟨hr,I5⟩=>?_) l;subst hr;exact ok f j fp σ4 H4 s5 I2 f2 I5 qn
  . refine On (T.item (blkCx X N scope cl f j fp) rfl rfl rfl hc i [] s4 σ4 H4 _ I4 (E I4 ad) Z go) (λr s5 ⟨u,hr,h5⟩=>?_) l;subst hr;refine On h5 (λ_ s6 ⟨x,H6,I6,r6,y6,O,ag⟩=>?_) l;have ap:=I6.pinned (E I6 ag) (T.obj _ _ O);refine On (hg cl f j fp _ s6 σ4 H6 x u _ ap r6 (af x H6 y6)) (λ_ s7 ⟨σ7,H7,I7,q7⟩=>?_) l
    have D:∀{σ8:St} {M:Hp} {Q:Shared},Inv (blkCx X N scope cl f j fp) ([]++rp fp s6.heap) σ8 M Q->Nx σ8 M->∃ m,m<n/\∃ i σ' H',Inv (blkCx X N scope cl f j fp) [] σ' H' Q/\tn i Q.heap/\(∀ b∈fp,H' b=none)/\W i m σ' H':=λ{σ8 M Q} P n8=>by
     obtain⟨m',hm,w8⟩:=hN σ8 M n8;refine⟨m',hm,i+1,σ8,M,P.unpinned,T.keep _ _ _ O λb z o e=>(P.pin (b,o) (NT _ (NT _ (lV z e)))).1,λb z=>?_,w8⟩;obtain⟨o,e,d⟩:=T.obj _ _ O b z;exact(P.pin (b,o) (NT _ (NT _ (lV z e)))).2.1
    refine On (ht cl f j fp _ s7 σ7 H7 _ I7 q7) (λaq Q ⟨M,P,q8⟩=>?_) l
    cases aq with
    | false=>exact D P q8
    | true=>
     refine On (he cl f j fp _ Q σ7 M _ P q8) (λy s9 ⟨yv,H9,I9,r9,ys,hl,hz,q9⟩=>?_) l;refine On (yf (X:=blkCx X N scope cl f j fp) _ s9 σ7 H9 (.ref f.heap.objs.size) [yv] (.ref f.heap.objs.size) [y] (λ_ R=>Nx σ7 R) I9 rfl (.cons r9 .nil) ⟨_,ys,yv,rfl,rfl,hl,hz,q9⟩) (λ_ av ⟨_,R,al,_,ah⟩=>?_) l;exact D al ah
 exact codeAny_compStart_list (F _ rfl) (T.self _ 0 _ _ _ S (F _ rfl))
def tComp(ix:List (Option Nat))(b:TI)(g:TG)(a:TT)(te:TE):TE:=λσ H Q=>zQ ix b g a te (λl H'=>Q (.ref l) H') σ H
def sComp(k:Nat)(ix:List (Option Nat))(b:TI)(g:TG)(a:TT)(te:TE):TS:=λD σ H=>zQ ix b g a te (λl H'=>D.nx (σ.set k ↑l) H') σ H
def B6(I:Inv X MO σ H s){ix:List (Option Nat)}(B:BlkOk X N ix scope):∃ cl,closureFor scope X.env=pure cl/\(∀ x c,cl.lookup x=some c->X.env.cells.lookup x=some c)/\∀ x,(x,NameKind.free)∈scope.names->∃ c,cl.lookup x=some c:=
 vk λx a=>I.ok.has x (B.free x a)
def tX{ix:List (Option Nat)}(B:BlkOk X N ix scope):∀ x∈scope.names,x.2=NameKind.local->scope.names.lookup x.1=some .local:=λx a e=>by
 obtain⟨n,k⟩:=x;cases e;exact gk B.names a
theorem aF {f b d:Expr} {c:List Expr} {pos:Pos} {ix:List (Option Nat)} {i:TI} {g:TG} {j:TT} {te:TE} (N:List Str) (B:BlkOk X N ix scope) (r:X.calm=true)
  (v:PI X f b i) (y:∀ cl s H fp,PG (blkCx X N scope cl s H fp) f g) (t:∀ cl s H fp,PTs (blkCx X N scope cl s H fp) c j) (z:∀ cl s H fp,PE (blkCx X N scope cl s H fp) d te)
  (D:∀ x,foldedSetIterable b X.env x=pure x:=by intro _;rfl):PE X (.ListComp d [⟨f,b,c,0⟩] scope pos) (tComp ix i g j te):=by
 intro MO s σ H Q I h;obtain⟨cl,e1,e2,n⟩:=B6 I B;rw[eval_ListComp];refine Qm (use:=none) rfl D e1 B.kind (tX B) ?_;refine zR (RR:=λe C=>compPost (model X.prog X.w) X.A X.xe none (EP X MO σ Q) e C) B r v y t z e2 n I h (λE K fp G k F l p J q=>?_) (λa C x s' q=>q);obtain⟨m,o,_⟩:=J.loc;exact⟨m,o,λL u=>⟨.ref _,k,B5 l J p u,rfl,q⟩⟩
theorem oU {y:Str} {n j:Pos} {k:Nat} {r d i:Expr} {f:List Expr} {pos:Pos} {ix:List (Option Nat)} {O:TI} {g:TG} {P:TT} {te:TE} (hN:X.N.Nodup) (T:X.N[k]? =some y) (hx:Loc X.env.scope y)
  (L:swapsWith (.ListComp i [⟨r,d,f,0⟩] scope pos) (some (.Name y n)) j.line X.env=pure true) (N:List Str) (B:BlkOk X N ix scope) (hc:X.calm=true)
  (hi:PI X r d O) (hg:∀ cl s H fp,PG (blkCx X N scope cl s H fp) r g) (ht:∀ cl s H fp,PTs (blkCx X N scope cl s H fp) f P) (he:∀ cl s H fp,PE (blkCx X N scope cl s H fp) i te)
  (hs:∀ x,foldedSetIterable d X.env x=pure x:=by intro _;rfl) (hf:X.fn y=true\/X.env.scope.names.lookup y=some .local:=by first | exact .inl rfl | exact .inr rfl | assumption):
  PS X (.Assign [.Name y n] (.ListComp i [⟨r,d,f,0⟩] scope pos) j) (sComp k ix O g P te):=by
 intro MO s σ H D I h;obtain⟨cl,e1,e2,U⟩:=B6 I B;rw[exec_Assign_Name_used _ _ _ _ L];refine NV (QP (NV ?_));show wpAny _ X.A (do let _ ← comprehension (.ListComp i [⟨r,d,f,0⟩] scope pos) scope X.env _ (newList []) false (eval d X.env) (some (assign (.Name y n) X.env))) _ _ s;refine NV (On (Qm (use:=some (assign (.Name y n) X.env)) (Q:=λ_ s'=>SP X MO D .next s') rfl hs e1 B.kind (tX B) ?_) (λ_ s' hq=>N9 (N9 hq)) λ_ _ e=>e);refine zR (RR:=λF C=>compPost (model X.prog X.w) X.A X.xe (some (assign (.Name y n) X.env)) (λ_ s'=>SP X MO D .next s') F C) B hc hi hg ht he e2 U I h (λG H2 fp σ3 M R l Y J q=>?_) (λa C x s' q=>q);obtain⟨m,Z,_⟩:=J.loc;have I3:Inv X MO σ M {R with heap:=R.heap}:=B5 l J Y (Heap.SameBut.refl _ _);show wpAny _ X.A (assign (.Name y n) X.env (.ref _)) _ _ _;refine wpAny_assign_Name (xX (v:=.ref _) I3 hN T hx rfl (λW I4 ⟨a,t,K⟩=>?_) hf)
 have E:a<G.heap.objs.size:=by
  rcases K with rfl | K
  . exact l.lt
  . obtain⟨v,z⟩:=l.cell _ _ K;exact z.lt
 have u:G.heap.objs.size+1≠a:=P2 (Oz E);refine⟨m,Z.sameBut t u,λh' sb=>?_⟩;refine⟨_,M,I4.turned (t':=W.toks) (it:=G.heap.objs.size+1) (λb o S e=>(sb.2 b S).trans e) J.free (P2 (Oz l.lt)) (.inr (Nk l.sz (PJ _))) (λx c e=>?_) (λp hp=>?_),q⟩
 . obtain⟨v,z⟩:=l.cell x c e;exact NS (Oz z.lt)
 . exact NS (Oz (NC (l.pin p hp).1))
end
def bnd{α:Type}:Option α->(α->Prop)->Prop
 | some a,k=>k a
 | none,_=>False
def ba{α:Type}{o:Option α}{a:α}{k:α->Prop}(h:o=some a)(q:k a):bnd o k:=by subst h;exact q
theorem bf{α:Type}{o:Option α}{k:α->Prop}(h:bnd o k):∃ a,o=some a/\k a:=by
 cases o with
 | none=>exact h.elim
 | some a=>exact⟨a,rfl,h⟩
def bh{α:Type}{a:α}{k:α->Prop}:bnd (some a) k=k a:=rfl
def unM:Option HO->Option (List V)
 | ↥xs=>some xs
 | _=>none
def unL:Option HO->Option (List V)
 | ↥xs=>some xs
 | some (.frz _ (.lst xs))=>some xs
 | _=>none
def unS:Option HO->Option (List V)
 | ↥xs=>some xs
 | some (.frz _ (.lst xs))=>some xs
 | some (.tup xs)=>some xs
 | _=>none
variable{o:Option HO}{xs:List V}
theorem jt(h:unM o=some xs):o=↥xs:=by
 unfold unM at h;split at h
 . cases h;rfl
 . cases h
theorem oV{K:Frag}{H:Hp}{p:Addr}(h:unL (H p)=some xs):SqL K H p xs:=by
 unfold unL at h;split at h
 . rename_i e;cases h;exact .inl (.inl e)
 . rename_i o _ e;cases h;exact .inl (.inr ⟨_,e⟩)
 . cases h
theorem oW{K:Frag}{H:Hp}{p:Addr}(h:unS (H p)=some xs):SqL K H p xs\/SqT K H p xs:=by
 unfold unS at h;split at h
 . rename_i e;cases h;exact .inl (.inl (.inl e))
 . rename_i o _ e;cases h;exact .inl (.inl (.inr ⟨_,e⟩))
 . rename_i e;cases h;exact .inr (.inl (.inl e))
 . cases h
mutual
inductive DV(K:Frag)(H:Hp):V->PyData->Prop
 | non:DV K H .non .none
 | bl (b:Bool):DV K H (.bl b) (.bool b)
 | int (i:Int):DV K H (.int i) (.int i)
 | str (x:Str):DV K H (.str x) (.str x)
 | lst {a:Addr} {xs:List V} {ds:List PyData}:SqL K H a xs->DVs K H xs ds->DV K H (.ref a) (.list ds)
 | tup {a:Addr} {xs:List V} {ds:List PyData}:SqT K H a xs->DVs K H xs ds->DV K H (.ref a) (.tuple ds)
inductive DVs(K:Frag)(H:Hp):List V->List PyData->Prop
 | nil:DVs K H [] []
 | cons {x:V} {d:PyData} {xs:List V} {ds:List PyData}:DV K H x d->DVs K H xs ds->DVs K H (x::xs) (d::ds)
end
section
variable{X:Cx}{MO:List (Addr × Obj)}{σ:St}{H:Hp}{s:Shared}
mutual
theorem DV.reads(I:Inv X MO σ H s):∀{x:V} {d:PyData} {v:Value},DV X.K H x d->RelV x v->∃ e,Reads s.heap v d e
 | _,_,_,.non,r=>by cases r;exact⟨_,.none⟩
 | _,_,_,.bl b,r=>by cases r;exact⟨_,.bool b⟩
 | _,_,_,.int i,r=>by obtain⟨t,rfl⟩:=r;exact⟨_,.int i t⟩
 | _,_,_,.str x,r=>by obtain⟨t,rfl⟩:=r;exact⟨_,.str x t⟩
 | _,_,_,.lst (a:=a) h hs,r=>by
  cases r;obtain⟨MS,c,p,_⟩:=I.list h;obtain⟨e,q⟩:=DVs.reads I hs c;obtain⟨o,h1,h2,n,h3⟩:=p.isList;exact⟨_,.list h1 h2 h3 q⟩
 | _,_,_,.tup (a:=a) h hs,r=>by
  cases r;obtain⟨MS,c,p,_⟩:=I.tuple h;obtain⟨e,q⟩:=DVs.reads I hs c;obtain⟨o,h1,h2,n,h3⟩:=p;exact⟨_,.tuple h1 h2 h3 q⟩
theorem DVs.reads(I:Inv X MO σ H s):∀{xs:List V} {b:List PyData} {us:List Value},DVs X.K H xs b->Vals xs us->∃ a,ReadsAll s.heap us b a
 | _,_,_,.nil,.nil=>⟨_,.nil⟩
 | _,_,_,.cons h hs,.cons r rs=>by
  obtain⟨a,q⟩:=DV.reads I h r;obtain⟨bs,c⟩:=DVs.reads I hs rs;exact⟨_,.cons q c⟩
end
end
theorem DVs.ints{K:Frag}{H:Hp}:∀ ns:∅,DVs K H (ns.map V.int) (ns.map PyData.int)
 | []=>.nil
 | n::r=>.cons (.int n) (DVs.ints r)
def zS:∀ ns ms:∅,PyData.eqvAll (ns.map PyData.int) (ms.map PyData.int)=decide (ns=ms):=PySem.W.ked_eqvAll
theorem qb:∀ ns:∅,PyData.canLayAll0 (ns.map PyData.int)=true
 | []=>rfl
 | n::r=>by rw[NK,PyData.canLayAll0,qb r];rfl
theorem lW:∀ ns:∅,PyData.depthAll (ns.map PyData.int)=0
 | []=>rfl
 | n::r=>by rw[NK,PyData.depthAll,lW r];rfl
theorem kS(ns:∅):SeqAt.shaped (.list (ns.map PyData.int))=true:=by
 simp[SeqAt.shaped,PyData.canLay0,qb,PyData.depth,lW]
def cAdd:R2
 | .int i,.int j,H,Q=>Q (.int (i+j)) H
 | .str i,.str j,H,Q=>i.length+j.length<=sizeLine/\Q (.str (i++j)) H
 | .ref l,.ref b,H,Q=>bnd (unM (H l)) λxs=>bnd (unM (H b)) λa=>xs.length+a.length<=sizeLine/\∀ p,H p=none->Q (.ref p) (upd H p (.lst (xs++a)))
 | _,_,_,_=>False
def cSub:R2
 | .int i,.int j,H,Q=>Q (.int (i-j)) H
 | _,_,_,_=>False
def cMul:R2
 | .int i,.int j,H,Q=>CMul i j/\Q (.int (i*j)) H
 | _,_,_,_=>False
def cDiv:R2
 | .int i,.int j,H,Q=>CDiv i j/\Q (.int (i/j)) H
 | _,_,_,_=>False
def cMod:R2
 | .int i,.int j,H,Q=>0<j/\Q (.int (i%j)) H
 | _,_,_,_=>False
def cPow:R2
 | .int i,.int j,H,Q=>CPow i j/\Q (.int (i^j.toNat)) H
 | _,_,_,_=>False
def cCmp(g:Int->Int->Bool):R2
 | .int i,.int j,H,Q=>Q (.bl (g i j)) H
 | _,_,_,_=>False
def rEqD(K:Frag):R2:=λx y H Q=>∃ d e,DV K H x d/\DV K H y e/\SeqAt.shaped d=true/\SeqAt.shaped e=true/\Q (.bl (PyData.eqv d e)) H
def rNeD(K:Frag):R2:=λx y H Q=>∃ d e,DV K H x d/\DV K H y e/\SeqAt.shaped d=true/\SeqAt.shaped e=true/\Q (.bl (!PyData.eqv d e)) H
def cEq(K:Frag):R2
 | .int i,.int j,H,Q=>Q (.bl (decide (i=j))) H
 | .bl i,.bl j,H,Q=>Q (.bl (decide (i=j))) H
 | .str i,.str j,H,Q=>Q (.bl (decide (i=j))) H
 | x,y,H,Q=>rEqD K x y H Q
def cNe(K:Frag):R2
 | .int i,.int j,H,Q=>Q (.bl (!decide (i=j))) H
 | .bl i,.bl j,H,Q=>Q (.bl (!decide (i=j))) H
 | .str i,.str j,H,Q=>Q (.bl (!decide (i=j))) H
 | x,y,H,Q=>rNeD K x y H Q
def rInD(K:Frag)(b:Bool):R2:=λx y H Q=>∃ d a,DV K H x d/\(DV K H y (.list a)\/DV K H y (.tuple a))/\PyData.canLayAll0 a=true/\PyData.canLay0 d=true/\min (PyData.depthAll a) d.depth<=62/\
 Q (.bl (if b then !a.any (λy=>PyData.eqv y d) else a.any λy=>PyData.eqv y d)) H
def keyOf:V->Option Key
 | .int i=>some (.inl i)
 | .str x=>some (.inr x)
 | _=>none
def unD:Option HO->Option (List (Key × V))
 | some (.dK MR)=>some MR
 | _=>none
def cIn(K:Frag)(b:Bool):R2
 | .ref a,y,H,Q=>rInD K b (.ref a) y H Q
 | x,.ref p,H,Q=>(match unD (H p) with
  | some c=>bnd (keyOf x) λk=>Q (.bl (if b then !(valV c k).isSome else(valV c k).isSome)) H
  | none=>bnd (unS (H p)) λxs=>flatV x=true/\xs.all flatV=true/\Q (.bl (if b then !inV x xs else inV x xs)) H)
 | .str i,.str j,H,Q=>Q (.bl (if b then !(!(Builtin.Str.occurrences j i 0 j.length 1).isEmpty) else !(Builtin.Str.occurrences j i 0 j.length 1).isEmpty)) H
 | _,_,_,_=>False
def cIx:R2
 | .ref p,y,H,Q=>(match unD (H p) with
  | some a=>bnd (keyOf y) λk=>bnd (valV a k) λv=>Q v H
  | none=>match y with
   | .int i=>bnd (unS (H p)) λxs=>bnd (atI xs i) λv=>Q v H
   | _=>False)
 | .str z,.int i,H,Q=>z.length<=sizeLine/\bnd (atI z.cps.toList i) λc=>Q (.str ⟨#[c]⟩) H
 | _,_,_,_=>False
theorem vm{a:List (Key × V)}(h:unD o=some a):o=some (.dK a):=by
 unfold unD at h;split at h
 . cases h;rfl
 . cases h
theorem uv{x:V}{k:Key}(h:keyOf x=some k):x=kV k:=by
 unfold keyOf at h;split at h
 . cases h;rfl
 . cases h;rfl
 . cases h
section
variable{X:Cx}{a b c:Expr}{ta tb tc:TE}{pos:Pos}
theorem aJ:OpR X (binaryOp .Add) cAdd:=by
 intro a s σ H x y v u Q I b c h;unfold cAdd at h
 split at h
 . exact HI a s σ H _ _ v u Q I b c ⟨_,_,rfl,rfl,h⟩
 . exact CJ a s σ H _ _ v u Q I b c ⟨_,_,rfl,rfl,h.1,h.2⟩
 . obtain⟨xs,e1,h⟩:=bf h;obtain⟨d,e2,h⟩:=bf h;exact HU a s σ H _ _ v u Q I b c ⟨_,_,xs,d,rfl,rfl,jt e1,jt e2,h.1,h.2⟩
 . exact h.elim
theorem bB:OpR X (binaryOp .Sub) cSub:=by
 intro a s σ H x y v u Q I b c h;unfold cSub at h
 split at h
 . exact HJ a s σ H _ _ v u Q I b c ⟨_,_,rfl,rfl,h⟩
 . exact h.elim
theorem cZ:OpR X (binaryOp .Mult) cMul:=by
 intro a s σ H x y v u Q I b c h;unfold cMul at h
 split at h
 . exact HK a s σ H _ _ v u Q I b c ⟨_,_,rfl,rfl,h.1,h.2⟩
 . exact h.elim
theorem cR:OpR X (binaryOp .FloorDiv) cDiv:=by
 intro a s σ H x y v u Q I b c h;unfold cDiv at h
 split at h
 . exact GE a s σ H _ _ v u Q I b c ⟨_,_,rfl,rfl,h.1,h.2⟩
 . exact h.elim
theorem a9:OpR X (binaryOp .Mod) cMod:=by
 intro a s σ H x y v u Q I b c h;unfold cMod at h
 split at h
 . exact HL a s σ H _ _ v u Q I b c ⟨_,_,rfl,rfl,h.1,h.2⟩
 . exact h.elim
theorem sZ{a:CmpOp}{g:Int->Int->Bool}(o:OpR X (compareOp a) (rI0 λi j=>.bl (g i j))):OpR X (compareOp a) (cCmp g):=by
 intro b s σ H x y v u Q I c d h;unfold cCmp at h
 split at h
 . exact o b s σ H _ _ v u Q I c d ⟨_,_,rfl,rfl,h⟩
 . exact h.elim
def cQ:OpR X (compareOp .Lt) (cCmp λi j=>decide (i<j)):=sZ Jl
def iq:OpR X (compareOp .LtE) (cCmp λi j=>decide (i<=j)):=sZ Jm
def fD:OpR X (compareOp .Gt) (cCmp λi j=>decide (j<i)):=sZ Jn
def vn:OpR X (compareOp .GtE) (cCmp λi j=>decide (j<=i)):=sZ Jo
theorem HX(a:X.A.units+64<cLine):OpR X (compareOp .Eq) (rEqD X.K):=by
 intro j s σ H x y v u Q I b f h;obtain⟨d,e,h1,h2,h3,h4,q⟩:=h;obtain⟨i,r1⟩:=h1.reads I b;obtain⟨g,c⟩:=h2.reads I f;exact eq_dataH r1 c h3 h4 a ⟨.bl _,H,I,rfl,q⟩
theorem HY(a:X.A.units+64<cLine):OpR X (compareOp .NotEq) (rNeD X.K):=by
 intro j s σ H x y v u Q I b f h;obtain⟨d,e,h1,h2,h3,h4,q⟩:=h;obtain⟨i,r1⟩:=h1.reads I b;obtain⟨g,c⟩:=h2.reads I f;exact ne_dataH r1 c h3 h4 a ⟨.bl _,H,I,rfl,q⟩
theorem aw(d:X.A.units+64<cLine):OpR X (compareOp .Eq) (cEq X.K):=by
 intro b s σ H x y v u Q I c a h;unfold cEq at h
 split at h
 . refine CH b s σ H _ _ v u Q I c a ⟨rfl,?_⟩
   simpa using h
 . refine CH b s σ H _ _ v u Q I c a ⟨rfl,?_⟩
   simpa using h
 . refine CH b s σ H _ _ v u Q I c a ⟨rfl,?_⟩
   simpa using h
 . exact HX d b s σ H _ _ v u Q I c a h
theorem bb(d:X.A.units+64<cLine):OpR X (compareOp .NotEq) (cNe X.K):=by
 intro b s σ H x y v u Q I c a h;unfold cNe at h
 split at h
 . refine CI b s σ H _ _ v u Q I c a ⟨rfl,?_⟩
   simpa using h
 . refine CI b s σ H _ _ v u Q I c a ⟨rfl,?_⟩
   simpa using h
 . refine CI b s σ H _ _ v u Q I c a ⟨rfl,?_⟩
   simpa using h
 . exact HY d b s σ H _ _ v u Q I c a h
theorem HZ(f:X.A.units+64<cLine):OpR X (compareOp .In) (rInD X.K false):=by
 intro j s σ H x y v u Q I e b h;obtain⟨d,i,h1,h2,h3,h4,h5,q⟩:=h;obtain⟨g,r1⟩:=h1.reads I e;rcases h2 with h2 | h2
 . obtain⟨c,a⟩:=h2.reads I b;exact SeqAt.in_list_reads a r1 h3 h4 #[4] ⟨.bl _,H,I,rfl,q⟩
 . obtain⟨c,a⟩:=h2.reads I b;exact SeqAt.in_tuple_reads a r1 h3 h4 #[4] ⟨.bl _,H,I,rfl,q⟩
theorem Eb(f:X.A.units+64<cLine):OpR X (compareOp .NotIn) (rInD X.K true):=by
 intro j s σ H x y v u Q I e b h;obtain⟨d,i,h1,h2,h3,h4,h5,q⟩:=h;obtain⟨g,r1⟩:=h1.reads I e;rcases h2 with h2 | h2
 . obtain⟨c,a⟩:=h2.reads I b;exact SeqAt.notIn_list_reads a r1 h3 h4 #[4] ⟨.bl _,H,I,rfl,q⟩
 . obtain⟨c,a⟩:=h2.reads I b;exact SeqAt.notIn_tuple_reads a r1 h3 h4 #[4] ⟨.bl _,H,I,rfl,q⟩
theorem gl(d:X.A.units+64<cLine):OpR X (compareOp .In) (cIn X.K false):=by
 intro c s σ H x y v u Q I a b h;unfold cIn at h
 split at h
 . exact HZ d c s σ H _ _ v u Q I a b h
 . rename_i p o
   split at h
   . rename_i j e
     obtain⟨k,l,q⟩:=bf h;cases (show u=Value.ref p from b);have g:DGet H p x (valV j k):=by rw[uv l];exact DGet.k (vm e)
     exact JL (Ot (PU (by decide:1<=64) _) d) I g a λn f=>⟨.bl _,H,f,rfl,q⟩
   . obtain⟨xs,e,m,i,q⟩:=bf h;exact nc c s σ H _ _ v u Q I a b ⟨p,xs,rfl,oW e,m,i,q⟩
 . exact DJ c s σ H _ _ v u Q I a b ⟨_,_,rfl,rfl,h⟩
 . exact h.elim
theorem cW(d:X.A.units+64<cLine):OpR X (compareOp .NotIn) (cIn X.K true):=by
 intro c s σ H x y v u Q I a b h;unfold cIn at h
 split at h
 . exact Eb d c s σ H _ _ v u Q I a b h
 . rename_i p o
   split at h
   . rename_i j e
     obtain⟨k,l,q⟩:=bf h;cases (show u=Value.ref p from b);have g:DGet H p x (valV j k):=by rw[uv l];exact DGet.k (vm e)
     exact GQ (Ot (PU (by decide:1<=64) _) d) I g a λn f=>⟨.bl _,H,f,rfl,q⟩
   . obtain⟨xs,e,m,i,q⟩:=bf h;exact rB c s σ H _ _ v u Q I a b ⟨p,xs,rfl,oW e,m,i,q⟩
 . exact zK c s σ H _ _ v u Q I a b ⟨_,_,rfl,rfl,h⟩
 . exact h.elim
end
section
variable{X:Cx}{a b c:Expr}{ta tb tc:TE}{pos:Pos}
theorem Ia(w:X.A.units+64<cLine):IxR X cIx:=by
 intro b a n s σ H x y v u Q I f j h l
 cases x with
 | ref p=>
  unfold cIx at h;dsimp only at h
  split at h
  . rename_i D e
    obtain⟨k,B,h⟩:=bf h;obtain⟨z,d,q⟩:=bf h;cases (show v=Value.ref p from f);have g:DGet H p y (some z):=by rw[uv B,← d];exact DGet.k (vm e)
    exact tail_any (Br I g) Qc.lookup (DW (Ot (PU (by decide:1<=64) _) w) I g j λE F C m=>⟨z,H,C,m,q⟩) l
  . split at h
    . obtain⟨xs,e,h⟩:=bf h;obtain⟨z,d,q⟩:=bf h;rcases oW (K:=X.K) e with r | r
      . exact B4 b a n s σ H _ _ v u Q I f j ⟨p,xs,_,z,rfl,rfl,r,d,q⟩ l
      . exact DP b a n s σ H _ _ v u Q I f j ⟨p,xs,_,z,rfl,rfl,r,d,q⟩ l
    . exact h.elim
 | str o=>
  cases y with
  | int i=>
   obtain⟨t,h⟩:=(show o.length<=sizeLine/\bnd (atI o.cps.toList i) λc=>Q (.str ⟨#[c]⟩) H from h);obtain⟨z,d,q⟩:=bf h;exact HQ b a n s σ H _ _ v u Q I f j ⟨_,_,z,rfl,rfl,t,d,q⟩ l
  | _=>exact False.elim h
 | _=>exact False.elim h
def kLen:List V->Hp->VK->Prop
 | [.ref p],H,Q=>(match unD (H p) with
  | some a=>Q (.int a.length) H
  | none=>bnd (unS (H p)) λxs=>Q (.int xs.length) H)
 | [.str z],H,Q=>z.length<=sizeLine/\Q (.int z.length) H
 | _,_,_=>False
theorem aE:CallR X (.builtin "len") kLen:=by
 intro a s σ H xs b Q I r h;unfold kLen at h
 split at h
 . split at h
   . rename_i d e
     exact DX a s σ H _ b Q I r ⟨_,d,rfl,vm e,h⟩
   . obtain⟨c,e,q⟩:=bf h;exact rC a s σ H _ b Q I r ⟨_,c,rfl,oW e,q⟩
 . exact zL a s σ H _ b Q I r ⟨_,rfl,h.1,h.2⟩
 . exact h.elim
def kAbs:List V->Hp->VK->Prop
 | [.int i],H,Q=>Q (.int (if i<0 then -i else i)) H
 | _,_,_=>False
def kMin:List V->Hp->VK->Prop
 | [.int i,.int j],H,Q=>Q (.int (if j<i then j else i)) H
 | _,_,_=>False
theorem Ec(c:X.calm=true):CallR X (.builtin "min") kMin:=by
 intro a s σ H xs b Q I r h;unfold kMin at h
 split at h
 . exact DK c a s σ H _ b Q I r ⟨_,_,rfl,h⟩
 . exact h.elim
def kMax:List V->Hp->VK->Prop
 | [.int i,.int j],H,Q=>Q (.int (if j>i then j else i)) H
 | _,_,_=>False
def kList:List V->Hp->VK->Prop
 | [.ref p],H,Q=>bnd (unS (H p)) λys=>∀ l,H l=none->Q (.ref l) (upd H l (.lst ys))
 | _,_,_=>False
theorem e7:CallR X (.type "list") kList:=by
 intro b s σ H xs c Q I r h;unfold kList at h
 split at h
 . obtain⟨a,e,q⟩:=bf h;exact zM b s σ H _ c Q I r ⟨_,a,rfl,oW e,q⟩
 . exact h.elim
def gt:List V->Hp->VK->Prop
 | [.ref p],H,Q=>bnd (unL (H p)) λys=>∃ ns:∅,ys=ns.map V.int/\ns.length<64/\∀(a:∅) l,H l=none->a.Perm ns->a.Pairwise (· <=·)->Q (.ref l) (upd H l (.lst (a.map V.int)))
 | _,_,_=>False
theorem ju:CallR X (.builtin "sorted") gt:=by
 intro D s σ H xs E Q I r h;unfold gt at h
 split at h
 . rename_i p
   obtain⟨F,e,y,rfl,x,q⟩:=bf h;obtain⟨u,rfl,B⟩:=d4 r;cases B;obtain⟨k,t,A,C⟩:=I.list (oV e);have v:IntsAre k y:=vg t;have w:=t.length;rw[MZ]at w;refine sorted_ints A.isList v #[4] λd g i m z=>?_;have j:∀ b o,s.heap.get? b=some o->(sortedAll s.heap k d).get? b=some o:=λb o e=>sortedAll_old e;obtain⟨n,l⟩:=sortedAll_at s.heap k d;have c:H (s.heap.objs.size+1)=none:=I.hok.fresh (PJ _)
   have f:(g.map V.int).length<=sizeLine:=by
    rw[MZ,m.length_eq];exact NU (Nat.lt_trans x #[1])
   refine⟨.ref (s.heap.objs.size+1),_,I.laid (t':=s.toks) (a:=s.heap.objs.size+1) (o:=.lst (g.map V.int)) j (PJ _) ⟨f,d.toList,n,rD i,?_⟩,rfl,q g _ c m z⟩;rw[l]
 . exact h.elim
def mq(H:Hp):V->Option String
 | .non=>some "NoneType"
 | .bl _=>some "bool"
 | .int _=>some "int"
 | .str _=>some "str"
 | .ref p=>match H p with
  | ↥_=>some "list"
  | some (.frz _ (.lst _))=>some "list"
  | some (.tup _)=>some "tuple"
  | some (.dK _)=>some "dict"
  | _=>none
 | _=>none
def isTy(t n:String):Bool:=t==n||(t=="bool"&&n=="int")
def tm(n:String):Bool:=["int","bool","str","list","tuple","dict"].contains n
theorem Ed{K:Frag}{H:Hp}{x:V}{t:String}(h:mq H x=some t):TyOf K H x (.type t)/\["NoneType","int","bool","str","list","tuple","dict"].contains t=true:=by
 cases x with
 | non=>cases h;exact⟨.non,by decide⟩
 | bl b=>cases h;exact⟨.bl b,by decide⟩
 | int i=>cases h;exact⟨.int i,by decide⟩
 | str i=>cases h;exact⟨.str i,by decide⟩
 | byt _=>cases h
 | flt _=>cases h
 | ty _=>cases h
 | ref p=>
  unfold mq at h;dsimp only at h
  split at h
  . rename_i e;cases h;exact⟨.lst e,by decide⟩
  . rename_i e;cases h;exact⟨.frz e,by decide⟩
  . rename_i e;cases h;exact⟨.tup e,by decide⟩
  . rename_i e;cases h;exact⟨.dK e,by decide⟩
  . cases h
theorem Ib(K:Frag):∀ t∈["NoneType","int","bool","str","list","tuple","dict"],∀ n∈["int","bool","str","list","tuple","dict"],PySem.W.kitOne K (.type t) (.type n)=some (isTy t n):=by
 intro t b n a;simp only[Ng,NR,OJ]at b a;rcases b with rfl | rfl | rfl | rfl | rfl | rfl | rfl <;> rcases a with rfl | rfl | rfl | rfl | rfl | rfl <;> rfl
def kIsi:List V->Hp->VK->Prop
 | [x,.ty n],H,Q=>tm n=true/\bnd (mq H x) λt=>Q (.bl (isTy t n)) H
 | _,_,_=>False
theorem jl:CallR X (.builtin "isinstance") kIsi:=by
 intro j s σ H xs i Q I r h;unfold kIsi at h
 split at h
 . obtain⟨b,h⟩:=h;obtain⟨t,g,q⟩:=bf h;obtain⟨u,w,rfl,f,a⟩:=CK r;cases a;obtain⟨d,c⟩:=Ed (K:=X.K) g;exact DN I f d (Ib X.K t (by simpa using c) _ (by simpa [tm] using b)) λe=>⟨.bl _,H,I.tok e,rfl,q⟩
 . exact h.elim
def bi:V->List V->Hp->VK->Prop
 | .ref l,[y],H,Q=>bnd (unM (H l)) λxs=>xs.length<sizeLine/\Q .non (upd H l (.lst (xs++[y])))
 | _,_,_,_=>False
theorem bc:MtR X "list.append" bi:=by
 intro b s σ H x vs v c Q I d a h;unfold bi at h
 split at h
 . obtain⟨xs,e,h1,q⟩:=bf h;exact yf b s σ H _ _ v c Q I d a ⟨_,xs,_,rfl,rfl,jt e,h1,q⟩
 . exact h.elim
def kq:V->List V->Hp->VK->Prop
 | .ref l,[.ref b],H,Q=>bnd (unM (H l)) λxs=>bnd (unM (H b)) λa=>xs.length+a.length<=sizeLine/\Q .non (upd H l (.lst (xs++a)))
 | _,_,_,_=>False
theorem qc:MtR X "list.extend" kq:=by
 intro f s σ H x vs v c Q I d a h;unfold kq at h
 split at h
 . obtain⟨xs,e,h⟩:=bf h;obtain⟨b,e2,h1,q⟩:=bf h;exact DT f s σ H _ _ v c Q I d a ⟨_,_,xs,b,rfl,rfl,jt e,jt e2,h1,q⟩
 . exact h.elim
def aZ{K:Frag}{H:Hp}{p:Addr}{xs:List V}(h:H p=↥xs):tyV K "list" (.ref p) H:=.inl ⟨rfl,_,Nm h⟩
def cSl:V->Option Int->Option Int->Hp->VK->Prop
 | .ref p,lo,hi,H,Q=>bnd (unL (H p)) λxs=>∀ l,H l=none->Q (.ref l) (upd H l (.lst (cutV xs lo hi)))
 | _,_,_,_,_=>False
theorem JM:SlR X cSl:=by
 intro l s σ H x v i j b f k Q I d g a c h;unfold cSl at h
 split at h
 . obtain⟨xs,e,q⟩:=bf h;exact GM l s σ H _ v i j b f k Q I d g a c ⟨_,xs,rfl,oV e,q⟩
 . exact h.elim
end
structure Cal(P:Program)(w:World)(K:Frag)(mg:Str->Option Value)(base:Heap)(k:Nat)(x:Str)(ps:List Str)(sp:Sp):Prop where
 ex:∃(f:Addr) (fd:FuncData),FnOk P w K mg base CX0 k f fd ps sp/\mg x=↑f/\keepIn K (.ref f)=true/\Binds K fd ps []
theorem Ic {X:Cx} {k n:Nat} {x:Str} {j:List Str} {sp:Sp} {p pos:Pos} {e:Expr} {a:List Expr} {t:TA} (C:Cal X.prog X.w X.K X.mg X.base k x j sp) (q:Room n X.A) (g:k<=n) (h:Gl X x) (o:PA X (e::a) t)
  (d:(x==("__debug__":Str))=false:=by decide) (l:starEach (e::a) X.env=(false,eval e X.env)::starEach a X.env:=by rfl) (b:(backTo pos (starEach a X.env)).any (·.1)=false:=by rfl):
  PE X (.Call (.Name x p) (e::a) [] pos) (tCall sp [] E0 t):=by
 obtain⟨f,r,F,m,c,i⟩:=C.ex;exact GJ F (q.mono g) h m c i .nil zq o d l b
theorem aO:bootBuiltins "len"=some (.builtin "len"):=by decide+kernel
theorem Id:bootBuiltins "min"=some (.builtin "min"):=by decide+kernel
theorem Ie:bootBuiltins "max"=some (.builtin "max"):=by decide+kernel
theorem ld:bootBuiltins "sorted"=some (.builtin "sorted"):=by decide+kernel
theorem zT:bootBuiltins "any"=some (.builtin "any"):=by decide+kernel
theorem eV:bootBuiltins "isinstance"=some (.builtin "isinstance"):=by decide+kernel
theorem fE:bootBuiltins "list"=some (.type "list"):=by decide+kernel
theorem Ee:bootBuiltins "int"=some (.type "int"):=by decide+kernel
theorem GR:bootBuiltins "bool"=some (.type "bool"):=by decide+kernel
theorem zU:bootBuiltins "str"=some (.type "str"):=by decide+kernel
theorem uw:bootBuiltins "tuple"=some (.type "tuple"):=by decide+kernel
def compN(scope:Scope):List Str:=(scope.names.filter λp=>p.2==.local||p.2==.cell||p.2==.free).map (·.1)
def vo(N:List Str)(scope:Scope):List (Option Nat):=(compN scope).map λx=>if scope.names.lookup x==some .free then N.findIdx? (· ==x) else none
def isCF:Option NameKind->Bool
 | some .cell=>true
 | some .free=>true
 | _=>false
def Ig{X:Cx}{scope:Scope}(h1:scope.kind=.function)(h2:(scope.names.map (·.1)).Nodup)(h3:(scope.names.all λp=>p.2 != .free||isCF (X.env.kindOf p.1))=true):BlkOk X (compN scope) (vo X.N scope) scope where
 kind:=h1
 nd:=h2.sublist (List.Sublist.map _ (List.filter_sublist ..))
 len:=by unfold vo;rw[MZ]
 names:=h2
 free:=λx b=>by
  have:=Na.mp h3 (x,.free) b;simp only[bne_self_eq_false,Of]at this;unfold isCF at this
  split at this
  . rename_i e;exact .inl e
  . rename_i e;exact .inr e
  . cases this
 at_:=λj i x e1 e2=>by
  unfold vo at e2;rw[M7,e1]at e2;simp only[QC,Qg]at e2
  split at e2
  . rename_i d
    obtain⟨a,c,_⟩:=List.findIdx?_eq_some_iff_getElem.mp e2
    have b:X.N[i]? =some x:=by
     rw[M0 a];have:X.N[i]=x:=by simpa using c
     rw[this]
    refine⟨b,Ol (by simpa using d)⟩
  . cases e2
section
variable{t u:TS}{D:Ends}{σ:St}{H:Hp}{Q:VK}{ta tb:TE}{R:Bool->Hp->Prop}{c d:TT}
def aG:tSeq t u D σ H=t {D with nx:=u D} σ H:=rfl
def bY:tNext D σ H=D.nx σ H:=rfl
def bC{g:TG}:tAsg ta g D σ H=ta σ H λx a=>g x σ a D.nx:=rfl
def aY{i:Nat}{v:V}{k:St->Hp->Prop}:gName i v σ H k=k (σ.set i (some v)) H:=rfl
def Jq{i:Nat}:tVar i σ H Q=∃ v,σ[i]? =some (some v)/\Q v H:=propext ⟨Gi,λ⟨_,e,h⟩=>kR e h⟩
def b7{v:V}{σ:St}:tVar 0 (some v::σ) H Q=Q v H:=rfl
def b8{i:Nat}{a:Option V}{σ:St}:tVar (i+1) (a::σ) H Q=tVar i σ H Q:=rfl
def w_c{v:V}:tC v σ H Q=Q v H:=rfl
def eI{r:R2}:tOp r ta tb σ H Q=ta σ H λx a=>tb σ a λy b=>r x y b Q:=rfl
def b9:tRet ta D σ H=ta σ H D.rt:=rfl
def ce:tRetN D σ H=D.rt .non H:=rfl
def bZ:tDrop ta D σ H=ta σ H λ_ a=>D.nx σ a:=rfl
def aD:tIfS c t u D σ H=c σ H λb a=>if b=true then t D σ a else u D σ a:=rfl
def cg:tTest ta σ H R=ta σ H λx a=>∃ k,x=.bl k/\R k a:=rfl
def w_b:tB ta σ H R=ta σ H λx a=>∃ k,x=.bl k/\R k a:=rfl
def w_not:tNot c σ H R=c σ H λk a=>R (!k) a:=rfl
def dn:tAnd c d σ H R=c σ H λk a=>if k=true then d σ a R else R false a:=rfl
def fO:tOr c d σ H R=c σ H λk a=>if k=true then R true a else d σ a R:=rfl
def cj:tNotV ta σ H Q=ta σ H λx a=>∃ c,x=.bl c/\Q (.bl (!c)) a:=rfl
def ck:tAndV ta tb σ H Q=ta σ H λx a=>∃ c,x=.bl c/\if c=true then tb σ a Q else Q (.bl false) a:=rfl
def dq:tOrV ta tb σ H Q=ta σ H λx a=>∃ c,x=.bl c/\if c=true then Q (.bl true) a else tb σ a Q:=rfl
def c5{k:List V->Hp->Prop}:tNil σ H k=k [] H:=rfl
def bS{a:TA}{k:List V->Hp->Prop}:tCons ta a σ H k=ta σ H λx b=>a σ b λxs c=>k (x::xs) c:=rfl
def fP{r:List V->Hp->VK->Prop}{a:TA}:tCB r a σ H Q=a σ H λvs b=>r vs b Q:=rfl
def cm{sp:Sp}{a:List V}{E:XK}{b:TA}:tCall sp a E b σ H Q=b σ H λvs c=>sp (vs++a) c Q E:=rfl
def dr{a:TA}:tTup a σ H Q=a σ H λxs b=>xs.length<=sizeLine/\∀ p,b p=none->Q (.ref p) (upd b p (.tup xs)):=rfl
def c6{a:TA}:tLst a σ H Q=a σ H λxs b=>xs.length<=sizeLine/\∀ p,b p=none->Q (.ref p) (upd b p (.lst xs)):=rfl
def fF{K:Frag}{T:String}{r:V->List V->Hp->VK->Prop}{b:TA}:tBM K T r ta b σ H Q=ta σ H λx a=>tyV K T x a/\b σ a λxs c=>r x xs c Q:=rfl
def dt{K:Frag}{T:String}{r:V->List V->Hp->VK->Prop}:CP K T r ta σ H Q=ta σ H λx a=>tyV K T x a/\r x [] a Q:=rfl
def b3:tTrue σ H R=R true H:=rfl
def cq:HW σ H Q=∀ p,H p=none->Q (.ref p) (upd H p (.dK [])):=rfl
def cw{e d b:TE}:sDPut e d b D σ H=b σ H λv f=>e σ f λx h=>d σ h λy g=>∃ a c,x=.ref a/\DPut g a y v c/\D.nx σ c:=rfl
def du{i j:Int}:cAdd (.int i) (.int j) H Q=Q (.int (i+j)) H:=rfl
def dw{i j:Int}:cSub (.int i) (.int j) H Q=Q (.int (i-j)) H:=rfl
def dz{i j:Int}:cMul (.int i) (.int j) H Q=(CMul i j/\Q (.int (i*j)) H):=rfl
def dA{i j:Int}:cDiv (.int i) (.int j) H Q=(CDiv i j/\Q (.int (i/j)) H):=rfl
def dB{i j:Int}:cMod (.int i) (.int j) H Q=(0<j/\Q (.int (i%j)) H):=rfl
def dC{g:Int->Int->Bool}{i j:Int}:cCmp g (.int i) (.int j) H Q=Q (.bl (g i j)) H:=rfl
def dD{K:Frag}{i j:Int}:cEq K (.int i) (.int j) H Q=Q (.bl (decide (i=j))) H:=rfl
def dE{K:Frag}{i j:Int}:cNe K (.int i) (.int j) H Q=Q (.bl (!decide (i=j))) H:=rfl
def dF{K:Frag}{i j:Bool}:cEq K (.bl i) (.bl j) H Q=Q (.bl (decide (i=j))) H:=rfl
def dG{K:Frag}{i j:Bool}:cNe K (.bl i) (.bl j) H Q=Q (.bl (!decide (i=j))) H:=rfl
theorem iJ{p:Addr}{i:Int}{xs:List V}(h:H p=some (.tup xs)):cIx (.ref p) (.int i) H Q=bnd (atI xs i) λv=>Q v H:=by
 unfold cIx;dsimp only;rw[h];rfl
theorem Gm{p:Addr}{i:Int}{xs:List V}(h:H p=↥xs):cIx (.ref p) (.int i) H Q=bnd (atI xs i) λv=>Q v H:=by
 unfold cIx;dsimp only;rw[h];rfl
def dH{i:Int}:kAbs [.int i] H Q=Q (.int (if i<0 then -i else i)) H:=rfl
def dI{i j:Int}:kMin [.int i,.int j] H Q=Q (.int (if j<i then j else i)) H:=rfl
theorem a8{p:Addr}{xs:List V}(h:H p=↥xs):kLen [.ref p] H Q=Q (.int xs.length) H:=by
 unfold kLen;dsimp only;rw[h];rfl
theorem Ih{p:Addr}{xs:List V}(h:H p=some (.tup xs)):kLen [.ref p] H Q=Q (.int xs.length) H:=by
 unfold kLen;dsimp only;rw[h];rfl
theorem cy{p:Addr}{xs:List V}{y:V}(h:H p=↥xs):bi (.ref p) [y] H Q=(xs.length<sizeLine/\Q .non (upd H p (.lst (xs++[y])))):=by
 unfold bi;dsimp only;rw[h];rfl
theorem rE:∀ ns:∅,(ns.map V.int).all flatV=true
 | []=>rfl
 | n::r=>by rw[NK,PF,rE r];rfl
theorem ux(i:Int):∀ ns:∅,inV (.int i) (ns.map V.int)=decide (i∈ns)
 | []=>by simp[inV]
 | n::r=>by
  have a:=ux i r;unfold inV at a ⊢;rw[NK,Ql,a];show((n==i)||decide (i∈r))=decide (i∈n::r);rw[ND,OS,O7,M4,M4,Ng];exact⟨λh=>h.elim (λe=>.inl e.symm) .inr,λh=>h.elim (λe=>.inl e.symm) .inr⟩
theorem oo{K:Frag}{p:Addr}{i:Int}{ns:∅}(h:H p=↥(ns.map V.int)):cIn K false (.int i) (.ref p) H Q=Q (.bl (decide (i∈ns))) H:=by
 unfold cIn;dsimp only;rw[h];dsimp only[unD,unS,bnd];rw[ux,rE];simp[flatV]
theorem kT{K:Frag}{p:Addr}{i:Int}{ns:∅}(h:H p=↥(ns.map V.int)):cIn K true (.int i) (.ref p) H Q=Q (.bl (!decide (i∈ns))) H:=by
 unfold cIn;dsimp only;rw[h];dsimp only[unD,unS,bnd];rw[ux,rE];simp[flatV]
end
def LoopR(J:It)(g:TG)(e:TS)(D:Ends)(σ:St)(d:Hp):Prop:=∃ W:Nat->Nat->St->Hp->Prop,(∃ m,W 0 m σ d)/\∀ i m σ H,W i m σ H->
 (J.stop i H/\D.nx σ H)\/(J.go i H/\∃ N:St->Hp->Prop,(∀ b a,N b a->∃ c,c<m/\W (i+1) c b a)/\∀ x a,J.yld i H x a->g x σ a λf h=>e {D with nx:=N,ct:=N,bk:=D.nx} f h)
def CompR(J:It)(g:TG)(r:TT)(te:TE)(f:Addr->Hp->Prop)(t:St)(j:Hp):Prop:=∀ l,j l=none->
 ∃ W:Nat->Nat->St->Hp->Prop,(∃ m,W 0 m t (upd j l (.lst [])))/\∀ i m o d,W i m o d->
  (J.stop i d/\f l d)\/(J.go i d/\∃ N:St->Hp->Prop,(∀ c a,N c a->∃ n,n<m/\W (i+1) n c a)/\∀ x p,J.yld i d x p->g x o p λe s=>r e s λb k=>
   if b=true then te e k λy q=>∃ h,q l=↥h/\h.length<sizeLine/\N e (upd q l (.lst (h++[y]))) else N e k)
section
variable{K:Frag}{g:TG}{tb:TS}{D:Ends}{σ:St}{H:Hp}{tl:TE}{ta:TA}{ix:List (Option Nat)}{tt:TT}{te:TE}{k:Nat}{Q:VK}
def cA:tFor (iList K tl) g tb D σ H=tl σ H λx b=>∃ a,x=.ref a/\(∃ xs,SqL K b a xs)/\LoopR (Itl K a) g tb D σ b:=rfl
def bD:tFor (gG ta) g tb D σ H=ta σ H λvs a=>∃ j:Int,vs=[.int j]/\ -(2^62)<=j/\j<2^62/\LoopR (Itr 0 j.toNat) g tb D σ a:=rfl
def bE:tFor (sX ta) g tb D σ H=ta σ H λvs a=>∃ i j:Int,vs=[.int i,.int j]/\(-(2^62)<=i/\i<2^62/\ -(2^62)<=j/\j<2^62)/\LoopR (Itr i (j-i).toNat) g tb D σ a:=rfl
def bq:tComp ix (iList K tl) g tt te σ H Q=tl σ H λx b=>∃ a,x=.ref a/\(∃ xs,SqL K b a xs)/\CompR (Itl K a) g tt te (λl c=>Q (.ref l) c) (subσ ix σ) b:=rfl
def bj:tComp ix (gG ta) g tt te σ H Q=ta σ H λvs b=>∃ j:Int,vs=[.int j]/\ -(2^62)<=j/\j<2^62/\CompR (Itr 0 j.toNat) g tt te (λl a=>Q (.ref l) a) (subσ ix σ) b:=rfl
def bn:sComp k ix (iList K tl) g tt te D σ H=tl σ H λx b=>∃ a,x=.ref a/\(∃ xs,SqL K b a xs)/\CompR (Itl K a) g tt te (λl c=>D.nx (σ.set k ↑l) c) (subσ ix σ) b:=rfl
def be:sComp k ix (gG ta) g tt te D σ H=ta σ H λvs b=>∃ j:Int,vs=[.int j]/\ -(2^62)<=j/\j<2^62/\CompR (Itr 0 j.toNat) g tt te (λl a=>D.nx (σ.set k ↑l) a) (subσ ix σ) b:=rfl
theorem vp {k:Int} {n:Nat} {h:Addr->Hp->Prop} {r:St} {f:Hp} (a:Addr->Nat->St->Hp->Prop) (h0:∀ l,f l=none->a l 0 r (upd f l (.lst [])))
  (v:∀ l i σ H,f l=none->i<n->a l i σ H->g (.int (k+i)) σ H λj t=>tt j t λb o=>if b=true then te j o λy q=>∃ ys,q l=↥ys/\ys.length<sizeLine/\a l (i+1) j (upd q l (.lst (ys++[y]))) else a l (i+1) j o)
  (s:∀ l σ H,f l=none->a l n σ H->h l H):CompR (Itr k n) g tt te h r f:=by
 intro l c;refine⟨λi m σ H=>m=n-i/\i<=n/\a l i σ H,⟨n,by simp,Oc _,h0 l c⟩,?_⟩;rintro i m σ H ⟨rfl,z,p⟩;by_cases d:i<n
 . refine .inr ⟨d,a l (i+1),λA w u=>⟨n - (i+1),by lia,rfl,d,u⟩,λx w y=>?_⟩;obtain⟨e,y⟩:=y;subst e y;exact v l i σ _ c d p
 . have e:i=n:=by lia
   subst e;exact .inl ⟨Nr _,s l σ H c p⟩
theorem rF {a:Addr} {xs:List V} {h:Addr->Hp->Prop} {r:St} {f:Hp} (d:Addr->Nat->St->Hp->Prop) (h0:∀ l,f l=none->d l 0 r (upd f l (.lst []))) (t:∀ l i σ H,f l=none->i<=xs.length->d l i σ H->SqL K H a xs)
  (z:∀ l i x σ H,f l=none->xs[i]? =some x->d l i σ H->g x σ H λk u=>tt k u λb n=>if b=true then te k n λy o=>∃ ys,o l=↥ys/\ys.length<sizeLine/\d l (i+1) k (upd o l (.lst (ys++[y]))) else d l (i+1) k n)
  (s:∀ l σ H,f l=none->d l xs.length σ H->h l H):CompR (Itl K a) g tt te h r f:=by
 intro l c;refine⟨λi m σ H=>m=xs.length-i/\i<=xs.length/\d l i σ H,⟨xs.length,by simp,Oc _,h0 l c⟩,?_⟩;rintro i m σ H ⟨rfl,v,p⟩;have q:=t l i σ H c v p;by_cases j:i<xs.length
 . refine .inr ⟨⟨xs,xs[i],q,by simp[j]⟩,d l (i+1),λB A w=>⟨xs.length - (i+1),by lia,rfl,j,w⟩,λx A y=>?_⟩;obtain⟨e,y⟩:=y;subst e;exact z l i x σ _ c (y xs q) p
 . have e:i=xs.length:=by lia
   subst e;exact .inl ⟨⟨xs,q,Nr _⟩,s l σ H c p⟩
theorem vq{p q:Addr}{xs ys:∅}(a:H p=↥(xs.map V.int))(b:H q=↥(ys.map V.int))(h:Q (.bl (decide (xs=ys))) H):cEq K (.ref p) (.ref q) H Q:=by
 show rEqD K (.ref p) (.ref q) H Q;refine⟨.list (xs.map PyData.int),.list (ys.map PyData.int),.lst (Nm a) (.ints xs),.lst (Nm b) (.ints ys),kS xs,kS ys,?_⟩;rw[PyData.eqv,zS];exact h
theorem tp{p q:Addr}{xs ys:∅}(a:H p=↥(xs.map V.int))(b:H q=↥(ys.map V.int))(h:Q (.bl (!decide (xs=ys))) H):cNe K (.ref p) (.ref q) H Q:=by
 show rNeD K (.ref p) (.ref q) H Q;refine⟨.list (xs.map PyData.int),.list (ys.map PyData.int),.lst (Nm a) (.ints xs),.lst (Nm b) (.ints ys),kS xs,kS ys,?_⟩;rw[PyData.eqv,zS];exact h
theorem FD{p:Addr}{ns:∅}(c:H p=↥(ns.map V.int))(b:ns.length<64)(h:∀(a:∅) l,H l=none->a.Perm ns->a.Pairwise (· <=·)->Q (.ref l) (upd H l (.lst (a.map V.int)))):gt [.ref p] H Q:=by
 unfold gt;dsimp only;rw[c];exact⟨ns,rfl,b,h⟩
theorem mr{p:Addr}{xs:List V}(a:H p=↥xs)(h:∀ l,H l=none->Q (.ref l) (upd H l (.lst xs))):kList [.ref p] H Q:=by
 unfold kList;dsimp only;rw[a];exact h
end
theorem aA{X:Cx}{N:List Str}{ix:List (Option Nat)}{scope:Scope}(h1:scope.kind=.function)(h2:(scope.names.map (·.1)).Nodup)(h3:(scope.names.all λp=>p.2 != .free||isCF (X.env.kindOf p.1))=true)(h4:N=compN scope)(h5:ix=vo X.N scope):BlkOk X N ix scope:=by
 subst h4 h5;exact Ig h1 h2 h3
def kLenS(K:Frag):List V->Hp->VK->Prop:=λxs H Q=>∃ p a,xs=[.ref p]/\(SqL K H p a\/SqT K H p a)/\Q (.int a.length) H
structure Bt(mg:Str->Option Value):Prop where
 len_:mg "len"=none
 abs_:mg "abs"=none
 min_:mg "min"=none
 max_:mg "max"=none
 sorted_:mg "sorted"=none
 any_:mg "any"=none
 isinstance_:mg "isinstance"=none
 list_:mg "list"=none
 int_:mg "int"=none
 bool_:mg "bool"=none
 str_:mg "str"=none
 tuple_:mg "tuple"=none
 reversed_:mg "reversed"=none
 set_:mg "set"=none
 range_:mg "range"=none
 zip_:mg "zip"=none
theorem Vals.get':∀{xs:List V} {us:List Value} {i:Nat} {u:Value},Vals xs us->us[i]? =some u->∃ x,xs[i]? =some x/\RelV x u
 | _,_,_,_,.nil,h=>by simp at h
 | _,_,0,_,.cons r _,h=>by simp at h;subst h;exact⟨_,rfl,r⟩
 | _,_,i+1,_,.cons _ t,h=>by
  obtain⟨x,a,r⟩:=Vals.get' (i:=i) t (by simpa using h);exact⟨x,by simpa using a,r⟩
section
variable{X:Cx}{MO:List (Addr × Obj)}{σ:St}{H:Hp}{s s':Shared}
def Inv.kept'(I:Inv X MO σ H s)(k:∀ b u,s.heap.get? b=some u->s'.heap.get? b=some u)(c:s'.os=s.os)(a:AllBare s'.gens):Inv X MO σ H s':=
 I.call' (ch:=[]) c (Un.kept k) (I.hok.kept k) a λb z=>absurd z (by simp)
theorem Inv.walked{l:Addr}{o:Obj}(I:Inv X MO σ H s)(c:Moved [s.heap.objs.size] (λa b=>b=a) {s with heap:=s.heap.push o} s'):Inv X MO σ H s':=by
 refine I.kept' (λb u e=>c.heap b u (λz=>?_) (Nq _ e)) c.os (by rw[show s'.gens=s.gens from c.gens];exact I.bare);have:b=s.heap.objs.size:=by simpa using z
 exact absurd (NC e) (by rw[this];exact Oj _)
def kAny:List V->Hp->VK->Prop
 | [.ref p],H,Q=>bnd (unL (H p)) λys=>∃ bs:List Bool,ys=bs.map V.bl/\Q (.bl (bs.any id)) H
 | _,_,_=>False
theorem Ef(bs:List Bool):(List.range bs.length).any (λi=>bs.getD i false)=bs.any id:=by
 rw[ND,Ou,Ou];constructor
 . rintro⟨i,c,h⟩;have a:i<bs.length:=Nj.mp c;exact⟨bs[i],NB a,by simpa [List.getD,a] using h⟩
 . rintro⟨b,d,h⟩;obtain⟨i,c,e⟩:=Ov.mp d;refine⟨i,Nj.mpr c,?_⟩;have f:b=true:=h;rw[List.getD,M0 c,e];exact f
theorem rG(y:X.calm=true):CallR X (.builtin "any") kAny:=by
 intro MO s σ H xs F Q I r h;unfold kAny at h
 split at h
 . rename_i p
   obtain⟨J,e,c,rfl,q⟩:=bf h;obtain⟨u,rfl,C⟩:=d4 r;cases C;obtain⟨a,j,f,E⟩:=I.list (oV e);have g:=j.length;rw[MZ]at g
   have d:p<s.heap.objs.size:=by
    obtain⟨o,h1,_⟩:=f.isList;exact NC h1
   refine call_any_walkS (O4 f.isList ?_);refine⟨s.heap.objs.size,_,_,_,a.toArray.size,_,_,λi=>c.getD i false,rfl,(QQ (A:=X.A.in1) (I.ok.hd y) s.heap.objs.size p (NS d) a.toArray).toS,⟨⟨_,NN _ rfl,rfl,rfl⟩,f.isList.push _⟩,?_,λs' w=>?_⟩
   . intro i v s1 G D m n;have B:a[i]? =some v:=by simpa using m
     obtain⟨x,t,z⟩:=j.get' B;obtain⟨b,hb,rfl⟩:∃ b,c[i]? =some b/\V.bl b=x:=by simpa using t
     cases z;refine OE ?_;have k:c.getD i false=b:=by simp[List.getD,hb]
     rw[← k];exact n
   . refine⟨.bl _,H,I.walked (l:=p) w,?_,q⟩;have e2:a.toArray.size=c.length:=by rw[Nz];exact g.symm
     rw[e2,Ef];rfl
 . exact h.elim
def jv(K:Frag):V->List V->Hp->VK->Prop
 | .ref p,[y],H,Q=>∃(a:List PyData) (d:PyData) (j:Nat),DV K H (.ref p) (.list a)/\DV K H y d/\PyData.canLayAll0 a=true/\PyData.canLay0 d=true/\min (PyData.depthAll a) d.depth<=62/\
   j<=1000/\(∃ e,a[j]? =some e/\PyData.eqv e d=true)/\(∀ m e,m<j->a[m]? =some e->PyData.eqv e d=false)/\Q (.int j) H
 | _,_,_,_=>False
theorem jm(P:X.A.units+64<cLine):MtR X "list.index" (jv X.K):=by
 intro MO s σ H x vs v U Q I l M h;unfold jv at h
 split at h
 . rename_i p y
   obtain⟨w,d,j,L,C,t,J,B,W,⟨e,z,D⟩,k,q⟩:=h;cases l;obtain⟨u,rfl,O⟩:=d4 M;obtain⟨R,N⟩:=L.reads I rfl;obtain⟨T,l⟩:=C.reads I O
   cases N with
   | @list _ o g n _ _ h1 h2 h3 h4=>
    obtain⟨S,G,E,r⟩:=o;dsimp only at h2 h3;subst h2 h3;have a:=SeqAt.readsAll_map w _ _ t h4
    have c:∀(m:Nat) (f:m<g.size),w[m]? =some (SeqAt.readOf s.heap g[m]):=λm f=>by
     rw[← a,M7,QG,Array.getElem?_eq_getElem f];rfl
    have b:j<g.size:=by
     have:=(M6.mp z).1;rw[← a,MZ,Pi]at this;exact this
    refine O1 F.slot_list_index ⟨_,h1,rfl⟩ F.entry_list_index (F.args_list_index_2 _ _) (SeqAt.list_indexAt p g n G r u (λy=>PyData.eqv (SeqAt.readOf s.heap y) d) j b #[4] ?_ ?_) ⟨h1,SeqAt.items_eqAt h4 l t J ?_,⟨.int j,H,I.tok _,⟨_,rfl⟩,q⟩⟩
    . have:=c j b;rw[z]at this;cases this;exact D
    . intro m f i;exact k m _ i (c m f)
    . lia
 . exact h.elim
def Itz(K:Frag)(a b:Addr):It:=
 ⟨λi H=>∃ xs c x y,SqL K H a xs/\SqL K H b c/\xs[i]? =some x/\c[i]? =some y,
  λi H v d=>∃ T x y,v=.ref T/\H T=none/\d=upd H T (.tup [x,y])/\(∀ xs,SqL K H a xs->xs[i]? =some x)/\∀ c,SqL K H b c->c[i]? =some y,
  λi H=>∃ xs c,SqL K H a xs/\SqL K H b c/\(xs.length<=i\/c.length<=i)⟩
theorem aV{h:Heap}{a b:Addr}{o u:Obj}{c d:String}(j:h.get? a=some o)(f:h.get? b=some u)(g:o.cls=.type c)(e:u.cls=.type d)(i:c≠d):a≠b:=by
 rintro rfl;rw[j]at f;cases f;rw[g]at e;cases e;exact i rfl
def ZSt(a b z d e c f:Addr)(i:Nat)(h:Heap):Prop:=IsZip h z d e .none/\IsPair h d (.ref c) (.ref f)/\(∃ u v,IsPair h e u v)/\h.IsListIter c a i/\h.IsListIter f b i
def FE{P:Program}{w:World}{K:Frag}{es:List Expr}{x1:Nat}{pos:Pos}(a b z TI B A t:Addr)(dT:TI≠B)(d1:A≠t):
  Turn P w K (.Tuple es x1 pos) (Itz K a b) [z,TI,B,A,t] z (ZSt a b z TI B A t) where
 mem:=by simp
 obj:=λi h M c j=>by
  obtain⟨m,l,⟨u,v,f⟩,⟨o1,e1,r,N⟩,⟨o2,e2,q,U⟩⟩:=M;simp only[Ng,NR,OJ]at j;rcases j with rfl | rfl | rfl | rfl | rfl
  . exact⟨_,m,λv z=>by have z':Data.fields _=Data.cell v:=z;cases z'⟩
  . exact⟨_,l,λv z=>by have z':Data.seq _ _=Data.cell v:=z;cases z'⟩
  . exact⟨_,f,λv z=>by have z':Data.seq _ _=Data.cell v:=z;cases z'⟩
  . exact⟨_,e1,λv z=>by rw[N]at z;cases z⟩
  . exact⟨_,e2,λv z=>by rw[U]at z;cases z⟩
 keep:=λi h h' M k=>by
  obtain⟨m,l,⟨u,v,f⟩,h1,h2⟩:=M;exact⟨k z (by simp) _ m,k TI (by simp) _ l,⟨u,v,k B (by simp) _ f⟩,h1.at λo e=>k A (by simp) o e,h2.at λo e=>k t (by simp) o e⟩
 item:=by
  intro X hP hw hK j i MO s σ H E I hf M hg;subst hP hw hK;obtain⟨xs,ys,x,y,J,C,p,hy⟩:=hg;obtain⟨T,Z,p1,ac⟩:=I.list J;obtain⟨S,aa,p2,Y⟩:=I.list C;obtain⟨u1,ae,ad⟩:=Z.get p;obtain⟨u2,ai,ag⟩:=aa.get hy;obtain⟨m,l,⟨u,v,f⟩,⟨o1,e1,r,N⟩,⟨o2,e2,q,U⟩⟩:=id M;obtain⟨oa,O,F,_⟩:=p1.isList;obtain⟨ob,G,L,_⟩:=p2.isList
  have D:ZipApart z TI B A t a b:=⟨aV l m rfl rfl #[1],aV f m rfl rfl #[1],aV e1 m r rfl #[1],aV e2 m q rfl #[1],dT,aV l e1 rfl r #[1],aV l e2 rfl q #[1],aV f e1 rfl r #[1],aV f e2 rfl q #[1],d1,
   aV O m F rfl #[1],aV O f F rfl #[1],aV O e1 F r #[1],aV O e2 F q #[1],aV G m L rfl #[1],aV G f L rfl #[1],aV G e1 L r #[1],aV G e2 L q #[1]⟩
  refine wpAny_pyNext_zip_item D m l f ⟨o1,e1,r,N⟩ ⟨o2,e2,q,U⟩ p1.isList p2.isList (x:=u1) (y:=u2) (by simpa using ae) (by simpa using ai) λh' a1 a2 a3 a4 a5 a6 hk=>?_;refine⟨_,rfl,wpAny_letOwnedTupleGo_zip a1 λh2 Y sb=>?_⟩;have hT:H s.heap.objs.size=none:=I.fresh;have lt:∀{c o},s.heap.get? c=some o->c≠s.heap.objs.size:=λe=>NS (NC e)
  have R:∀ c o,c∉[z,B,A,t]->s.heap.get? c=some o->h2.get? c=some o:=λc o j e=>by
   simp only[Ng,NR,OJ,not_or]at j;exact sb.extBut _ _ j.1 (hk c o j.1 j.2.1 j.2.2.1 j.2.2.2 e)
  have af:s.heap.objs.size≠z:=(lt m).symm;have gT:h2.get? s.heap.objs.size=some {cls:=.type "tuple",data:=.seq #[u1,u2]}:=sb.extBut _ _ af a5;have nH:∀ c∈[z,B,A,t],H c=none:=λc j=>(hf c (by simp only[Ng,NR,OJ]at j ⊢;rcases j with h | h | h | h <;> simp[h])).1;refine⟨.ref s.heap.objs.size,upd H s.heap.objs.size (.tup [x,y]),I.call' (s':={s with heap:=h2}) (ch:=[z,B,A,t]) rfl ⟨λc o e n _ p=>R c o p e,λc o e n _ p=>⟨o.slots,R c o p e⟩,λc o e n _=>by rw[aj (lt e)];exact n,λc o e p=>⟨o,R c o p e⟩,λc xs e=>by rw[aj (ax e hT)];exact e,λc o u e=>by rw[aj (ax e hT)];exact e,λc ps e=>⟨#[],by rw[aj (ax e hT),e];simp⟩⟩ ?_ I.bare ?_,rfl,⟨_,x,y,rfl,hT,rfl,λzs W=>by rw[I.list_inj W J];exact p,λzs W=>by rw[I.list_inj W C];exact hy⟩,?_,?_⟩
  . intro c ob e;by_cases hb:c=s.heap.objs.size
    . subst hb;rw[ah]at e;cases e;exact⟨by show(2:Nat)<=sizeLine;exact NU (aC #[1]),[u1,u2],.cons ad (.cons ag .nil),⟨_,gT,rfl,_,rfl⟩⟩
    . rw[aj hb]at e;refine(I.hok c ob e).stay (λd w' Q g=>R d w' ?_ g) (λd g=>by rw[aj (ax g hT)];exact g) λd xs g=>by rw[aj (ax g hT)];exact g
      intro hm;rcases Q with rfl | Q
      . rw[nH _ hm]at e;cases e
      . rw[nH _ hm]at Q;cases Q
  . intro c j;obtain⟨f0,N,U,f3,f4,f5⟩:=hf c (by simp only[Ng,NR,OJ]at j ⊢;rcases j with h | h | h | h <;> simp[h]);exact⟨f3,N,f4,f5⟩
  . exact⟨Y,sb.extBut _ _ D.TIz (hk _ _ D.TIz D.TITO D.TIi1 D.TIi2 l),⟨_,_,sb.extBut _ _ D.TOz a2⟩,a3.extBut sb.extBut D.i1z,a4.extBut sb.extBut D.i2z⟩
  . intro c j
    obtain⟨o,e,_⟩:∃ o,s.heap.get? c=some o/\True:=by
     simp only[Ng,NR,OJ]at j;rcases j with rfl | rfl | rfl | rfl | rfl
     . exact⟨_,m,trivial⟩
     . exact⟨_,l,trivial⟩
     . exact⟨_,f,trivial⟩
     . exact⟨_,e1,trivial⟩
     . exact⟨_,e2,trivial⟩
    rw[aj (lt e)];exact(hf c j).1
 done:=by
  intro X hP hw hK j i MO s σ H E I hf M hg;subst hP hw hK;obtain⟨xs,ys,J,C,p⟩:=hg;obtain⟨T,Z,p1,ac⟩:=I.list J;obtain⟨S,aa,p2,Y⟩:=I.list C;have al:=Z.length;have ak:=aa.length;obtain⟨m,l,⟨u,v,f⟩,⟨o1,e1,r,N⟩,⟨o2,e2,q,U⟩⟩:=id M;obtain⟨oa,O,F,_⟩:=p1.isList;obtain⟨ob,G,L,_⟩:=p2.isList
  have D:ZipApart z TI B A t a b:=⟨aV l m rfl rfl #[1],aV f m rfl rfl #[1],aV e1 m r rfl #[1],aV e2 m q rfl #[1],dT,aV l e1 rfl r #[1],aV l e2 rfl q #[1],aV f e1 rfl r #[1],aV f e2 rfl q #[1],d1,
   aV O m F rfl #[1],aV O f F rfl #[1],aV O e1 F r #[1],aV O e2 F q #[1],aV G m L rfl #[1],aV G f L rfl #[1],aV G e1 L r #[1],aV G e2 L q #[1]⟩
  have ab:T.toArray[i]? =none\/S.toArray[i]? =none:=by
   rcases p with h | h
   . exact .inl (by simp;omega)
   . exact .inr (by simp;omega)
  refine wpAny_pyNext_zip_end (I.ok.hd j) D m l f ⟨o1,e1,r,N⟩ ⟨o2,e2,q,U⟩ p1.isList p2.isList ab λh' hk=>⟨rfl,?_⟩
  have R:∀ c o,c∉[z,B,A,t]->s.heap.get? c=some o->h'.get? c=some o:=λc o j e=>by
   simp only[Ng,NR,OJ,not_or]at j;exact hk c o j.1 j.2.1 j.2.2.1 j.2.2.2 e
  have nH:∀ c∈[z,B,A,t],H c=none:=λc j=>(hf c (by simp only[Ng,NR,OJ]at j ⊢;rcases j with h | h | h | h <;> simp[h])).1;refine I.call' (s':={s with heap:=h'}) (ch:=[z,B,A,t]) rfl ⟨λc o e n _ p=>R c o p e,λc o e n _ p=>⟨o.slots,R c o p e⟩,λc o e n _=>n,λc o e p=>⟨o,R c o p e⟩,λc xs e=>e,λc o u e=>e,λc ps e=>⟨#[],by rw[e];simp⟩⟩ ?_ I.bare ?_
  . intro c ob e;refine(I.hok c ob e).stay (λd w' Q g=>R d w' ?_ g) (λd g=>g) λd xs g=>g;intro hm;rcases Q with rfl | Q
    . rw[nH _ hm]at e;cases e
    . rw[nH _ hm]at Q;cases Q
  . intro c j;obtain⟨f0,N,U,f3,f4,f5⟩:=hf c (by simp only[Ng,NR,OJ]at j ⊢;rcases j with h | h | h | h <;> simp[h]);exact⟨f3,N,f4,f5⟩
 self:=λ_ _ _ _ _ M h=>wpAny_pyIter_zip M.1 h
def iZip(K:Frag)(e:TA):TI:=λσ H R=>e σ H λvs c=>∃ a b,vs=[.ref a,.ref b]/\(∃ xs,SqL K c a xs)/\(∃ d,SqL K c b d)/\R (Itz K a b) c
theorem Ii:bootBuiltins "zip"=some (.type "zip"):=by decide+kernel
def Ij{F:List Expr}{Q:Nat}{g:Pos}{e1 e2:Expr}{o:TA}{p pos:Pos}(N:Gl X "zip")(D:X.mg "zip"=none)(L:PA X [e1,e2] o)(P:starEach [e1,e2] X.env=[(false,eval e1 X.env),(false,eval e2 X.env)]:=by rfl)(e:starEach [e2] X.env=[(false,eval e2 X.env)]:=by rfl):
  PI X (.Tuple F Q g) (.Call (.Name "zip" p) [e1,e2] [] pos) (iZip X.K o):=by
 intro MO s σ H R I h;refine Call_ (gj I N D Ii (N4 (thn (L pos MO s σ H _ I h) λZ s1 ⟨vs,m,f,r1,O⟩=>?_) (by rw[P,e]) (by rw[e];rfl)));obtain⟨a,b,rfl,⟨xs,k⟩,⟨ys,j⟩,q⟩:=O;obtain⟨W,U,rfl,i,l⟩:=CK r1;cases i;cases l;obtain⟨u,y,x,T⟩:=f.list k;obtain⟨n,A,M,J⟩:=f.list j;refine call_zip_2 x.isList M.isList λS t G C E v Y B=>?_;refine wpAny_pyIter_zip t ?_;have w:Inv X MO σ m {s1 with heap:=S,toks:=s1.toks}:=f.kept B;refine⟨s1.heap.objs.size+4,[s1.heap.objs.size+4,s1.heap.objs.size+2,s1.heap.objs.size+3,s1.heap.objs.size,s1.heap.objs.size+1],ZSt a b (s1.heap.objs.size+4) (s1.heap.objs.size+2) (s1.heap.objs.size+3) s1.heap.objs.size (s1.heap.objs.size+1),Itz X.K a b,m,rfl,w,FE a b (s1.heap.objs.size+4) (s1.heap.objs.size+2) (s1.heap.objs.size+3) s1.heap.objs.size (s1.heap.objs.size+1) (λz=>by have:s1.heap.objs.size+2=s1.heap.objs.size+3:=z;omega) (λz=>by have:s1.heap.objs.size=s1.heap.objs.size+1:=z;omega),⟨t,G,⟨_,_,C⟩,E,v⟩,λc r=>?_,q⟩
 have d:s1.heap.objs.size<=c:=by
  simp only[Ng,NR,OJ]at r;rcases r with rfl | rfl | rfl | rfl | rfl <;> omega
 exact f.fpOk d (f.hok.fresh d)
end
open Builtin Builtin.Str
theorem xf:∀{ts:List Str} {us:List Value},Vals (ts.map V.str) us->∃ l:List (Str × Tok),us=strValues l/\l.map (·.1)=ts
 | [],_,.nil=>⟨[],rfl,rfl⟩
 | t::ts,_,.cons r rs=>by
  obtain⟨l,rfl,e⟩:=xf (ts:=ts) rs;obtain⟨u,rfl⟩:=r;exact⟨(t,u)::l,rfl,by rw[NK,e]⟩
theorem yh:∀(l:List (Str × Tok)),Vals ((l.map (·.1)).map V.str) (strValues l)
 | []=>.nil
 | (t,u)::l=>.cons ⟨u,rfl⟩ (yh l)
section
variable{X:Cx}
def kFind:V->List V->Hp->VK->Prop
 | .str x,[.str y],H,Q=>Q (.int (Txt.find x y)) H
 | _,_,_,_=>False
def vt:V->List V->Hp->VK->Prop
 | .str x,[.str y],H,Q=>(y.length==0)=false/\x.length<=sizeLine/\(Txt.split x y).length<=sizeLine/\∀ l,H l=none->Q (.ref l) (upd H l (.lst ((Txt.split x y).map V.str)))
 | _,_,_,_=>False
theorem Eg:MtR X "str.split" vt:=by
 intro n s σ H x vs v p Q I j i h;unfold vt at h
 split at h
 . rename_i x y
   obtain⟨t,rfl⟩:=j;obtain⟨u,rfl,o⟩:=d4 i;obtain⟨c,rfl⟩:=o;obtain⟨g,m,f,q⟩:=h
   have a:∀(l:List (Str × Tok)) (k:Nat),l.map (·.1)=Txt.split x y->EP X n σ Q (.ref s.heap.objs.size) {s with heap:=s.heap.push {cls:=.type "list",data:=.seq (strValues l).toArray},toks:=k}:=λl k e=>by
    refine⟨.ref s.heap.objs.size,_,I.lnew (t':=k) (ys:=(Txt.split x y).map V.str) (MS:=strValues l) ?_ (by rw[MZ];exact f),rfl,q _ I.fresh⟩;rw[← e];exact yh l
   cases h1:(decide (x.length<y.length)||decide (strKind x<strKind y))
   . cases b:(occurrences x y 0 x.length (x.length+1)).isEmpty
     . have d:Txt.split x y=partsBetween x (occurrences x y 0 x.length (x.length+1)) y.length:=(Nt (PV h1)).trans (Nt (PV b));refine O1 Qo (Pz _ _ _) Qh (P9 _ _) (meets_str_split_sep x y t c h1 g b m (by rw[← d];exact f)) ?_;show wants _ _ _ {s with toks:=_,heap:=s.heap.push {cls:=.type "list",data:=.seq (strsFrom s.toks (partsBetween x (occurrences x y 0 x.length (x.length+1)) y.length)).toArray}};rw[strsFrom_eq];exact a (numbered s.toks _) _ ((numbered_texts _ _).trans d.symm)
     . exact O1 Qo (Pz _ _ _) Qh (P9 _ _) (meets_str_split_not_found x y t c h1 g b)
        (a [(x,t)] s.toks ((Nt (PV h1)).trans (NA b)).symm)
   . exact O1 Qo (Pz _ _ _) Qh (P9 _ _) (meets_str_split_cannot_occur x y t c h1)
      (a [(x,t)] s.toks (NA h1).symm)
 . exact h.elim
def kr:V->Option Int->Option Int->Hp->VK->Prop
 | .ref p,lo,hi,H,Q=>cSl (.ref p) lo hi H Q
 | .str z,lo,hi,H,Q=>z.length<=sizeLine/\Q (.str (Txt.slice z lo hi)) H
 | _,_,_,_,_=>False
theorem lX:SlR X kr:=by
 intro w s σ H x v y A e m B Q I o b r g h
 cases x with
 | ref p=>exact JM w s σ H _ v y A e m B Q I o b r g h
 | str z=>
  obtain⟨c,q⟩:=(show z.length<=sizeLine/\Q (.str (Txt.slice z e m)) H from h);obtain⟨t,rfl⟩:=o;have a:∀ d k,EP X w σ Q (.str (Txt.slice z e m) d) {s with toks:=k}:=λd k=>⟨.str _,H,I.tok k,⟨d,rfl⟩,q⟩;refine⟨"str",_,F.slot_str_getitem.lookup,Pz _ _ _,?_⟩
  cases r with
  | none=>
   cases g with
   | none=>exact OY (l:=none) (u:=none) (st:=none) b rfl (PN ⟨Nk (Qx z _ _) c,a⟩)
   | int j f=>exact OY (l:=none) (u:=some (j,f)) (st:=none) b rfl (PN ⟨Nk (Qx z _ _) c,a⟩)
  | int i n=>
   cases g with
   | none=>exact OY (l:=some (i,n)) (u:=none) (st:=none) b rfl (PN ⟨Nk (Qx z _ _) c,a⟩)
   | int j f=>exact OY (l:=some (i,n)) (u:=some (j,f)) (st:=none) b rfl (PN ⟨Nk (Qx z _ _) c,a⟩)
 | _=>exact False.elim h
def Its(x:Str):It:=⟨λi _=>i<x.cps.size,λi H v a=>a=H/\∃ c,x.cps[i]? =some c/\v=.str ⟨#[c]⟩,λi _=>x.cps.size<=i⟩
def zV {P:Program} {w:World} {K:Frag} {tg:Expr} {x:Str} {t:Tok} (it:Addr) (l:String) (M:["enumerate","zip","dict_itemiterator","dict_reverseitemiterator","odict_iterator","itertools.zip_longest","itertools.pairwise"].contains l=false)
  (W:∀ A:Around,A.handled=none->Walks P w A it [it] [it] x.cps.size (SignAt x) (λi h=>h.IsStrIter it l x t i))
  (r:∀(A:Around) (i:Nat) (s:Shared) (Q:Value->Shared->Prop) (E:Value->Shared->Prop),s.heap.IsStrIter it l x t i->Q (.ref it) s->wpAny (model P w) A (pyIter (.ref it)) Q E s):
  Turn P w K tg (Its x) [it] it (λi h=>i<=x.cps.size/\h.IsStrIter it l x t i) where
 mem:=by simp
 obj:=λi h a b f=>by
  have e:b=it:=by simpa using f
  subst e;obtain⟨_,o,e,c,d⟩:=a;exact⟨o,e,λv z=>by rw[d]at z;cases z⟩
 keep:=λi h n a k=>by
  obtain⟨Y,o,e,c,d⟩:=a;exact⟨Y,o,k it (by simp) o e,c,d⟩
 item:=by
  intro X B hw D G i S s σ H E I m a R;subst B hw D;obtain⟨N,F,U,q,L,y⟩:=m it (by simp);have g:i<x.cps.size:=R;refine(W X.A (I.ok.hd G)).item i s _ _ g a.2 λv n J hv j O=>?_;obtain⟨c,u,C,rfl⟩:=hv;have Z:Inv X S σ H {s with heap:=n,toks:=J}:=I.turned (λb o f e=>O b o (by simpa using f) e) N F q L y;obtain⟨o,e,T,d⟩:=id j;exact⟨_,rfl,zp (s:={s with heap:=n,toks:=J}) e T d M ⟨.str ⟨#[c]⟩,H,Z,⟨u,rfl⟩,⟨rfl,c,C,rfl⟩,⟨g,j⟩,λb f=>(m b f).1⟩⟩
 done:=by
  intro X B hw D G i S s σ H E I m a R;subst B hw D;obtain⟨N,F,U,q,L,y⟩:=m it (by simp);have p:x.cps.size<=i:=R;have e:i=x.cps.size:=Nat.le_antisymm a.1 p;subst e;exact(W X.A (I.ok.hd G)).done s _ _ a.2 λn J O=>⟨rfl,I.turned (λb o f e=>O b o (by simpa using f) e) N F q L y⟩
 self:=λA i s Q E a h=>r A i s Q E a.2 h
def iStr(a:TE):TI:=λσ H R=>a σ H λx b=>∃ z,x=.str z/\R (Its z) b
theorem Ik{w l:Expr}{k:TE}(p:PE X l k):PI X w l (iStr k):=by
 intro m s σ H R I h;refine thn (p m s σ H _ I h) λv s1 ⟨x,d,c,r1,y⟩=>?_;obtain⟨z,rfl,q⟩:=y;obtain⟨t,rfl⟩:=r1
 have a:∀ b∈[s1.heap.objs.size],FpOk X m d b:=λb u=>by
  have e:b=s1.heap.objs.size:=by simpa using u
  subst e;exact c.fpOk (Nr _) (c.hok.fresh (Nr _))
 cases n:z.cps.all (· < 128)
 . refine wpAny_pyIter_wide n ⟨s1.heap.objs.size,[s1.heap.objs.size],_,Its z,d,rfl,c.kept (t':=s1.toks) λb o e=>Nq _ e,zV (t:=t) _ "str_iterator" #[1] (λr j=>Walks.strWide j _ z t) (λA i s Q E g f=>wpAny_pyIter_striter_wide g f),⟨Oc _,_,NN _ rfl,rfl,rfl⟩,a,q⟩
 . refine wpAny_pyIter_ascii n ⟨s1.heap.objs.size,[s1.heap.objs.size],_,Its z,d,rfl,c.kept (t':=s1.toks) λb o e=>Nq _ e,zV (t:=t) _ "str_ascii_iterator" #[1] (λr j=>Walks.strAscii j _ z t) (λA i s Q E g f=>wpAny_pyIter_striter_ascii g f),⟨Oc _,_,NN _ rfl,rfl,rfl⟩,a,q⟩
end
section
variable{K:Frag}{g:TG}{tb:TS}{D:Ends}{σ:St}{H:Hp}{tl:TE}{ix:List (Option Nat)}{tt:TT}{te ta:TE}{k:Nat}{Q:VK}
def fQ{r:V->Option Int->Option Int->Hp->VK->Prop}{a b:TO}:tSl r te a b σ H Q=te σ H λx c=>a σ c λl d=>b σ d λu e=>r x l u e Q:=rfl
def cB{R:Option Int->Hp->Prop}:tPart te σ H R=te σ H λx a=>∃ i,x=.int i/\R (some i) a:=rfl
def bo{R:Option Int->Hp->Prop}:gq σ H R=R none H:=rfl
def cC{a b:TE}{t:TSet}{v:V}{R:St->Hp->Prop}:gSub a b t v σ H R=a σ H λo c=>b σ c λi e=>t o i v e λd=>R σ d:=rfl
def fS{r:V->Hp->VK->Prop}:tUn r te σ H Q=te σ H λx a=>r x a Q:=rfl
def cD:tFor (iStr tl) g tb D σ H=tl σ H λx a=>∃ z,x=.str z/\LoopR (Its z) g tb D σ a:=rfl
def bF:tComp ix (iStr tl) g tt te σ H Q=tl σ H λx b=>∃ z,x=.str z/\CompR (Its z) g tt te (λl a=>Q (.ref l) a) (subσ ix σ) b:=rfl
def bp:sComp k ix (iStr tl) g tt te D σ H=tl σ H λx b=>∃ z,x=.str z/\CompR (Its z) g tt te (λl a=>D.nx (σ.set k ↑l) a) (subσ ix σ) b:=rfl
def Gn{x:Str}:tyV K "str" (.str x) H:=rfl
def dJ{i j:Str}:cEq K (.str i) (.str j) H Q=Q (.bl (decide (i=j))) H:=rfl
def dL{i j:Str}:cNe K (.str i) (.str j) H Q=Q (.bl (!decide (i=j))) H:=rfl
def cE{z:Str}:kLen [.str z] H Q=(z.length<=sizeLine/\Q (.int z.length) H):=rfl
def cF{i j:Str}:cAdd (.str i) (.str j) H Q=(i.length+j.length<=sizeLine/\Q (.str (i++j)) H):=rfl
def Jr{z:Str}{i:Int}:cIx (.str z) (.int i) H Q=(z.length<=sizeLine/\bnd (atI z.cps.toList i) λc=>Q (.str ⟨#[c]⟩) H):=rfl
def cG{x y:Str}:kFind (.str x) [.str y] H Q=Q (.int (Txt.find x y)) H:=rfl
def GS{x y:Str}:vt (.str x) [.str y] H Q=((y.length==0)=false/\x.length<=sizeLine/\(Txt.split x y).length<=sizeLine/\∀ l,H l=none->Q (.ref l) (upd H l (.lst ((Txt.split x y).map V.str)))):=rfl
theorem qd{p:Addr}{b a:Option Int}{xs:List V}(c:H p=↥xs)(h:∀ l,H l=none->Q (.ref l) (upd H l (.lst (cutV xs b a)))):kr (.ref p) b a H Q:=by
 show bnd (unL (H p)) _;rw[c];exact h
end
def cBitI(g:Int->Int->Int):R2
 | .int i,.int j,H,Q=>Q (.int (g i j)) H
 | _,_,_,_=>False
def cShr:R2
 | .int i,.int j,H,Q=>0<=j/\Q (.int (i/2^j.toNat)) H
 | _,_,_,_=>False
abbrev cOr:R2:=cBitI Builtin.bitOr
section
variable{X:Cx}
theorem FF{o:Operator}{g:Int->Int->Int}(h0:OpR X (binaryOp o) (rI0 λi j=>.int (g i j))):OpR X (binaryOp o) (cBitI g):=by
 intro a s σ H x y v u Q I b c h;unfold cBitI at h
 split at h
 . exact h0 a s σ H _ _ v u Q I b c ⟨_,_,rfl,rfl,h⟩
 . exact h.elim
def Eh:OpR X (binaryOp .BitOr) cOr:=FF Jk
theorem GT:OpR X (binaryOp .RShift) cShr:=by
 intro a s σ H x y v u Q I b c h;unfold cShr at h
 split at h
 . exact HM a s σ H _ _ v u Q I b c ⟨_,_,rfl,rfl,h.1,h.2⟩
 . exact h.elim
end
section
variable{H:Hp}{Q:VK}{i j:Int}
def cX{g:Int->Int->Int}:cBitI g (.int i) (.int j) H Q=Q (.int (g i j)) H:=rfl
def ft:cShr (.int i) (.int j) H Q=(0<=j/\Q (.int (i/2^j.toNat)) H):=rfl
end
section
variable{X:Cx}
def kInt:List V->Hp->VK->Prop
 | [.int i],H,Q=>Q (.int i) H
 | [.bl k],H,Q=>Q (.int (if k then 1 else 0)) H
 | _,_,_=>False
def oX:V->List V->Hp->VK->Prop
 | .int i,[],H,Q=>Q (.int (Builtin.Int.intBits i:Nat)) H
 | _,_,_,_=>False
theorem vv:MtR X "int.bit_length" oX:=by
 intro c s σ H x vs v d Q I b a h;unfold oX at h
 split at h
 . obtain⟨t,rfl⟩:=b;cases a;exact call_int_bit_length ⟨.int _,H,I.tok _,⟨_,rfl⟩,h⟩
 . exact h.elim
def cRepL:R2
 | .ref l,.int k,H,Q=>bnd (unM (H l)) λxs=> -(2^63)<=k/\k<2^63/\xs.length*k.toNat<=sizeLine/\∀ p,H p=none->Q (.ref p) (upd H p (.lst (List.replicate k.toNat xs).flatten))
 | _,_,_,_=>False
theorem FG:OpR X (binaryOp .Mult) cRepL:=by
 intro a s σ H x y v u Q I b c h;unfold cRepL at h
 split at h
 . obtain⟨xs,e,h1,h2,h3,q⟩:=bf h;exact HV a s σ H _ _ v u Q I b c ⟨_,_,xs,rfl,rfl,jt e,h1,h2,h3,q⟩
 . exact h.elim
def kAll:List V->Hp->VK->Prop
 | [.ref p],H,Q=>bnd (unL (H p)) λys=>∃ bs:List Bool,ys=bs.map V.bl/\Q (.bl (bs.all id)) H
 | _,_,_=>False
theorem Ei(bs:List Bool):(List.range bs.length).all (λi=>bs.getD i false)=bs.all id:=by
 rw[ND,Na,Na];constructor
 . intro h b d;obtain⟨i,c,e⟩:=Ov.mp d;have:=h i (Nj.mpr c);rw[List.getD,M0 c,e]at this;exact this
 . intro h i c;have a:i<bs.length:=Nj.mp c;have:=h bs[i] (NB a)
   simpa [List.getD,a] using this
theorem iu:bootBuiltins "all"=some (.builtin "all"):=by decide+kernel
theorem vw:bootBuiltins "sum"=some (.builtin "sum"):=by decide+kernel
theorem dO(y:X.calm=true):CallR X (.builtin "all") kAll:=by
 intro F s σ H xs J Q I r h;unfold kAll at h
 split at h
 . rename_i p
   obtain⟨L,e,c,rfl,q⟩:=bf h;obtain⟨u,rfl,C⟩:=d4 r;cases C;obtain⟨a,j,f,E⟩:=I.list (oV e);have g:=j.length;rw[MZ]at g
   have d:p<s.heap.objs.size:=by
    obtain⟨o,h1,_⟩:=f.isList;exact NC h1
   refine call_all_walkS (O4 f.isList ?_);refine⟨s.heap.objs.size,_,_,_,a.toArray.size,_,_,λi=>c.getD i false,rfl,(QQ (A:=X.A.in1) (I.ok.hd y) s.heap.objs.size p (NS d) a.toArray).toS,⟨⟨_,NN _ rfl,rfl,rfl⟩,f.isList.push _⟩,?_,λG w=>?_⟩
   . intro i v s1 K D m n;have B:a[i]? =some v:=by simpa using m
     obtain⟨x,t,z⟩:=j.get' B;obtain⟨b,hb,rfl⟩:∃ b,c[i]? =some b/\V.bl b=x:=by simpa using t
     cases z;refine OE ?_;have k:c.getD i false=b:=by simp[List.getD,hb]
     rw[← k];exact n
   . refine⟨.bl _,H,I.walked (l:=p) w,?_,q⟩;have e2:a.toArray.size=c.length:=by rw[Nz];exact g.symm
     rw[e2,Ei];rfl
 . exact h.elim
def kSum:List V->Hp->VK->Prop
 | [.ref p],H,Q=>bnd (unL (H p)) λys=>∃ ns:∅,ys=ns.map V.int/\(∀ x∈ns,0<=x/\x<=1000000)/\ns.length<=1000000/\Q (.int ns.sum) H
 | _,_,_=>False
theorem Ej:∀(ns:∅),(∀ x∈ns,0<=x/\x<=1000000)->0<=ns.sum/\ns.sum<=1000000*ns.length
 | [],_=>by simp
 | n::r,h=>by
  have b:=Ej r λx a=>h x (Ni _ a);have h1:=h n Nh;rw[OM,NJ];lia
theorem ng(E:X.calm=true):CallR X (.builtin "sum") kSum:=by
 intro M s σ H xs O Q I r h;unfold kSum at h
 split at h
 . rename_i p
   obtain⟨P,e,a,rfl,n,K,q⟩:=bf h;obtain⟨u,rfl,J⟩:=d4 r;cases J;obtain⟨f,y,m,L⟩:=I.list (oV e);have w:=y.length;rw[MZ]at w
   have d:p<s.heap.objs.size:=by
    obtain⟨o,h1,_⟩:=m.isList;exact NC h1
   have e2:f.toArray.size=a.length:=by rw[Nz];exact w.symm
   refine call_sum_walkS (O4 m.isList ?_);refine⟨s.heap.objs.size,_,_,_,f.toArray.size,_,_,λi=>a.getD i 0,rfl,(QQ (A:=X.A.in1) (I.ok.hd E) s.heap.objs.size p (NS d) f.toArray).toS,⟨⟨_,NN _ rfl,rfl,rfl⟩,m.isList.push _⟩,?_,?_,?_,λN B D=>?_⟩
   . intro b c;show b < (s.heap.push _).objs.size;rw[ON];simp only[Ng,NR,OJ]at c;rcases c with rfl | rfl
     . exact Pd _
     . exact Oz d
   . intro i v C;have G:f[i]? =some v:=by simpa using C
     obtain⟨x,g,F⟩:=y.get' G;obtain⟨b,c,rfl⟩:∃ b,a[i]? =some b/\V.int b=x:=by simpa using g
     obtain⟨t,rfl⟩:=F;exact⟨t,by simp[List.getD,c]⟩
   . intro j k;rw[e2]at k;refine⟨?_,?_⟩
     . have:=n a[j] (NB k);have z:a.getD j 0=a[j]:=by simp[List.getD,k]
       show InLong (a.getD j 0);rw[z];exact⟨by lia,by lia⟩
     . rw[preSum_getD];have h1:=Ej (a.take (j+1)) λx g=>n x (O8 g);have h2:(a.take (j+1)).length<=a.length:=by rw[Oa];lia
       exact⟨by lia,by lia⟩
   . refine⟨.int a.sum,H,I.walked (l:=p) D,⟨B,?_⟩,q⟩;rw[e2,preSum_getD,N6]
 . exact h.elim
def Itd(a:Int)(n:Nat):It:=⟨λi _=>i<n,λi H x b=>b=H/\x=.int (a-i),λi _=>n<=i⟩
def iRngD(b:TA):TI:=λσ H R=>b σ H λvs a=>∃ i j:Int,vs=[.int i,.int j,.int (-1)]/\(-(2^60)<=i/\i<2^60/\ -(2^60)<=j/\j<2^60)/\R (Itd i (i-j).toNat) a
end
section
variable{K:Frag}{g:TG}{tb:TS}{D:Ends}{σ:St}{H:Hp}{ta:TA}{Q:VK}
def dc{k:Bool}:kInt [.bl k] H Q=Q (.int (if k then 1 else 0)) H:=rfl
def de{i:Int}:kInt [.int i] H Q=Q (.int i) H:=rfl
def bG{i:Int}:oX (.int i) [] H Q=Q (.int (Builtin.Int.intBits i:Nat)) H:=rfl
theorem kU{p:Addr}{bs:List Bool}(b:H p=↥(bs.map V.bl))(h:Q (.bl (bs.all id)) H):kAll [.ref p] H Q:=by
 show bnd (unL (H p)) _;rw[b];exact ba (a:=bs.map V.bl) rfl ⟨bs,rfl,h⟩
theorem zu{p:Addr}{ns:∅}(c:H p=↥(ns.map V.int))(d:∀ x∈ns,0<=x/\x<=1000000)(b:ns.length<=1000000)(h:Q (.int ns.sum) H):kSum [.ref p] H Q:=by
 show bnd (unL (H p)) _;rw[c];exact ba (a:=ns.map V.int) rfl ⟨ns,rfl,d,b,h⟩
theorem Il{p:Addr}{xs:List V}{k:Int}(c:H p=↥xs)(h0:0<=k)(h1:k<=1000)(b:xs.length<=1)(h:∀ l,H l=none->Q (.ref l) (upd H l (.lst (List.replicate k.toNat xs).flatten))):cRepL (.ref p) (.int k) H Q:=by
 show bnd (unM (H p)) _;rw[c];refine ba (a:=xs) rfl ⟨by lia,by lia,?_,h⟩;refine NU (aC (Nk (PK _ b) ?_));lia
def cJ:tFor (iRngD ta) g tb D σ H=ta σ H λvs a=>∃ i j:Int,vs=[.int i,.int j,.int (-1)]/\(-(2^60)<=i/\i<2^60/\ -(2^60)<=j/\j<2^60)/\LoopR (Itd i (i-j).toNat) g tb D σ a:=rfl
end
section
variable{X:Cx}
def Ite(K:Frag)(a:Addr):It:=
 ⟨λi H=>∃ xs x,SqL K H a xs/\xs[i]? =some x,
  λi H v b=>∃ T x,v=.ref T/\H T=none/\b=upd H T (.tup [.int i,x])/\∀ xs,SqL K H a xs->xs[i]? =some x,
  λi H=>∃ xs,SqL K H a xs/\xs.length<=i⟩
def ESt(a e it:Addr)(i:Nat)(h:Heap):Prop:=(∃ b,IsEnum h e it i b)/\h.IsListIter it a i
def Ek{P:Program}{w:World}{K:Frag}{es:List Expr}{x1:Nat}{pos:Pos}(a e it:Addr):
  Turn P w K (.Tuple es x1 pos) (Ite K a) [e,it] e (ESt a e it) where
 mem:=by simp
 obj:=λi h m c f=>by
  obtain⟨⟨l,j⟩,⟨L,e1,C,A⟩⟩:=m;simp only[Ng,NR,OJ]at f;rcases f with rfl | rfl
  . exact⟨_,j,λv z=>by have z':Data.fields _=Data.cell v:=z;cases z'⟩
  . exact⟨_,e1,λv z=>by rw[A]at z;cases z⟩
 keep:=λi h h' m k=>by
  obtain⟨⟨l,j⟩,h1⟩:=m;exact⟨⟨l,k e (by simp) _ j⟩,h1.at λo q=>k it (by simp) o q⟩
 item:=by
  intro X Y hw Z f i MO s σ H E I G m hg;subst Y hw Z;obtain⟨xs,x,r,p⟩:=hg;obtain⟨t,y,S,ac⟩:=I.list r;obtain⟨u1,W,T⟩:=y.get p;obtain⟨⟨l,j⟩,⟨L,e1,C,A⟩⟩:=id m;have F:e≠it:=aV j e1 rfl C #[1];refine wpAny_pyNext_enum_item j ⟨L,e1,C,A⟩ S.isList (x:=u1) (by simpa using W) F λh' a1 a2 a3 a4 hk=>?_;refine⟨_,rfl,wpAny_letOwnedTupleGo_enum a1 λh2 ab sb=>?_⟩;have B:H s.heap.objs.size=none:=I.fresh;have lt:∀{c o},s.heap.get? c=some o->c≠s.heap.objs.size:=λe=>NS (NC e)
  have N:∀ c o,c∉[e,it]->s.heap.get? c=some o->h2.get? c=some o:=λc o f q=>by
   simp only[Ng,NR,OJ,not_or]at f;exact sb.extBut _ _ f.1 (hk c o f.1 f.2 q)
  have O:s.heap.objs.size≠e:=(lt j).symm;have gT:h2.get? s.heap.objs.size=some {cls:=.type "tuple",data:=.seq #[.int i s.toks,u1]}:=sb.extBut _ _ O a3;have nH:∀ c∈[e,it],H c=none:=λc f=>(G c f).1;refine⟨.ref s.heap.objs.size,upd H s.heap.objs.size (.tup [.int i,x]),I.call' (s':={s with heap:=h2,toks:=s.toks+1}) (ch:=[e,it]) rfl ⟨λc o e n _ p=>N c o p e,λc o e n _ p=>⟨o.slots,N c o p e⟩,λc o e n _=>by rw[aj (lt e)];exact n,λc o e p=>⟨o,N c o p e⟩,λc xs e=>by rw[aj (ax e B)];exact e,λc o u e=>by rw[aj (ax e B)];exact e,λc ps e=>⟨#[],by rw[aj (ax e B),e];simp⟩⟩ ?_ I.bare ?_,rfl,⟨_,x,rfl,B,rfl,λzs aa=>by rw[I.list_inj aa r];exact p⟩,?_,?_⟩
  . intro c ob e;by_cases J:c=s.heap.objs.size
    . subst J;rw[ah]at e;cases e;exact⟨by show(2:Nat)<=sizeLine;exact NU (aC #[1]),[.int i s.toks,u1],.cons ⟨_,rfl⟩ (.cons T .nil),⟨_,gT,rfl,_,rfl⟩⟩
    . rw[aj J]at e;refine(I.hok c ob e).stay (λd w' M g=>N d w' ?_ g) (λd g=>by rw[aj (ax g B)];exact g) λd xs g=>by rw[aj (ax g B)];exact g
      intro hm;rcases M with rfl | M
      . rw[nH _ hm]at e;cases e
      . rw[nH _ hm]at M;cases M
  . intro c f;obtain⟨f0,A,f2,R,f4,U⟩:=G c f;exact⟨R,A,f4,U⟩
  . exact⟨⟨_,ab⟩,a2.extBut sb.extBut F.symm⟩
  . intro c f
    obtain⟨o,q⟩:∃ o,s.heap.get? c=some o:=by
     simp only[Ng,NR,OJ]at f;rcases f with rfl | rfl
     . exact⟨_,j⟩
     . exact⟨_,e1⟩
    rw[aj (lt q)];exact(G c f).1
 done:=by
  intro X Y hw Z f i MO s σ H E I G m hg;subst Y hw Z;obtain⟨xs,r,p⟩:=hg;obtain⟨t,y,S,ac⟩:=I.list r;have ad:=y.length;obtain⟨⟨l,j⟩,⟨L,e1,C,A⟩⟩:=id m;have D:t.toArray[i]? =none:=by simp;omega
  obtain⟨f0,Q,f2,R,f4,U⟩:=G it (by simp);exact wpAny_pyNext_enum_end (I.ok.hd f) j ⟨L,e1,C,A⟩ S.isList D λh' eb=>⟨rfl,I.turned (t':=s.toks) (λb o J e=>eb b o J e) f0 Q R f4 U⟩
 self:=λ_ _ _ _ _ m h=>by
  obtain⟨⟨l,j⟩,_⟩:=m;exact wpAny_pyIter_enum j h
def iEnum(K:Frag)(c:TA):TI:=λσ H R=>c σ H λvs b=>∃ a,vs=[.ref a]/\(∃ xs,SqL K b a xs)/\R (Ite K a) b
theorem zW:bootBuiltins "enumerate"=some (.type "enumerate"):=by decide+kernel
def xg{w:List Expr}{C:Nat}{d:Pos}{e1:Expr}{j:TA}{p pos:Pos}(z:Gl X "enumerate")(v:X.mg "enumerate"=none)(y:PA X [e1] j)(B:starEach [e1] X.env=[(false,eval e1 X.env)]:=by rfl):
  PI X (.Tuple w C d) (.Call (.Name "enumerate" p) [e1] [] pos) (iEnum X.K j):=by
 intro n s σ H R I h;refine Call_ (gj I z v zW (N4 (thn (y pos n s σ H _ I h) λJ s1 ⟨vs,i,e,r1,A⟩=>?_) B rfl));obtain⟨a,rfl,⟨xs,g⟩,q⟩:=A;obtain⟨G,rfl,f⟩:=d4 r1;cases f;obtain⟨m,t,r,E⟩:=e.list g;refine call_enumerate_list r.isList λD l x F u=>?_;refine wpAny_pyIter_enum l ?_;have o:Inv X n σ i {s1 with heap:=D,toks:=s1.toks}:=e.kept u;refine⟨s1.heap.objs.size+1,[s1.heap.objs.size+1,s1.heap.objs.size],ESt a (s1.heap.objs.size+1) s1.heap.objs.size,Ite X.K a,i,rfl,o,Ek a (s1.heap.objs.size+1) s1.heap.objs.size,⟨⟨_,l⟩,x⟩,λc k=>?_,q⟩
 have b:s1.heap.objs.size<=c:=by
  simp only[Ng,NR,OJ]at k;rcases k with rfl | rfl <;> omega
 exact e.fpOk b (e.hok.fresh b)
end
section
variable{K:Frag}{g:TG}{tb:TS}{D:Ends}{σ:St}{H:Hp}{ta:TA}{Q:VK}{ix:List (Option Nat)}{tt:TT}{te:TE}{k:Nat}
def df:tFor (iEnum K ta) g tb D σ H=ta σ H λvs b=>∃ a,vs=[.ref a]/\(∃ xs,SqL K b a xs)/\LoopR (Ite K a) g tb D σ b:=rfl
def cK:tComp ix (iEnum K ta) g tt te σ H Q=ta σ H λvs b=>∃ a,vs=[.ref a]/\(∃ xs,SqL K b a xs)/\CompR (Ite K a) g tt te (λl c=>Q (.ref l) c) (subσ ix σ) b:=rfl
def bH:sComp k ix (iEnum K ta) g tt te D σ H=ta σ H λvs b=>∃ a,vs=[.ref a]/\(∃ xs,SqL K b a xs)/\CompR (Ite K a) g tt te (λl c=>D.nx (σ.set k ↑l) c) (subσ ix σ) b:=rfl
theorem El {a:Addr} {xs:List V} {h:Addr->Hp->Prop} {r:St} {f:Hp} (d:Addr->Nat->St->Hp->Prop) (h0:∀ l,f l=none->d l 0 r (upd f l (.lst []))) (t:∀ l i σ H,f l=none->i<=xs.length->d l i σ H->SqL K H a xs)
  (B:∀ l i x T σ H,f l=none->xs[i]? =some x->d l i σ H->H T=none->g (.ref T) σ (upd H T (.tup [.int i,x])) λk u=>tt k u λb n=>if b=true then te k n λy o=>∃ ys,o l=↥ys/\ys.length<sizeLine/\d l (i+1) k (upd o l (.lst (ys++[y]))) else d l (i+1) k n)
  (s:∀ l σ H,f l=none->d l xs.length σ H->h l H):CompR (Ite K a) g tt te h r f:=by
 intro l c;refine⟨λi m σ H=>m=xs.length-i/\i<=xs.length/\d l i σ H,⟨xs.length,by simp,Oc _,h0 l c⟩,?_⟩;rintro i m σ H ⟨rfl,w,p⟩;have q:=t l i σ H c w p;by_cases j:i<xs.length
 . refine .inr ⟨⟨xs,xs[i],q,by simp[j]⟩,d l (i+1),λD C z=>⟨xs.length - (i+1),by lia,rfl,j,z⟩,λv C y=>?_⟩;obtain⟨T,x,rfl,A,rfl,e⟩:=y;exact B l i x T σ _ c (e xs q) p A
 . have e:i=xs.length:=by lia
   subst e;exact .inl ⟨⟨xs,q,Nr _⟩,s l σ H c p⟩
theorem qe {a:Addr} {xs:List V} {j:Addr->Hp->Prop} {g:St} {c:Hp} {k1 k2:Nat} (b:Nat->Bool) (f:Nat->V) (O:xs.length<=900) (m:k1≠k2) (G:SqL K c a xs)
  (F:∀(i:Nat) x H R,xs[i]? =some x->Same c H->(∀ k,Same H k->R (b i) k)->tt ((g.set k1 ⇑(i:Int)).set k2 (some x)) H R)
  (M:∀(i:Nat) x H Q,xs[i]? =some x->b i=true->Same c H->(∀ k,Same H k->Q (f i) k)->te ((g.set k1 ⇑(i:Int)).set k2 (some x)) H Q)
  (E:∀ l H,c l=none->Same c H->H l=↥(((List.range xs.length).filter b).map f)->j l H):
  CompR (Ite K a) (gTup K 2 (gCons (gName k1) (gCons (gName k2) gNil))) tt te j g c:=by
 refine El (xs:=xs) (λl i σ H=>(σ=g\/∃ z B,σ=(g.set k1 z).set k2 B)/\Same c H/\H l=↥(((List.range i).filter b).map f)) (λl h=>⟨.inl rfl,λb u e=>by rw[aj (ax e h)];exact e,by rw[ah];rfl⟩) (λl i σ H _ _ p=>p.2.1.seq G) ?_ (λl σ H h p=>E l H h p.2.1 p.2.2);rintro l i x T σ H h t ⟨D,s1,C⟩ J;have I:i<xs.length:=(M6.mp t).1;have v:Same H (upd H T (.tup [.int i,x])):=λb u e=>by rw[aj (ax e J)];exact e
 refine⟨T,_,rfl,QY ah,rfl,_,_,rfl,_,_,rfl,rfl,?_⟩
 have e:(σ.set k1 ⇑i).set k2 (some x)=(g.set k1 ⇑i).set k2 (some x):=by
  rcases D with rfl | ⟨z,B,rfl⟩
  . rfl
  . rw[Qn _ _ (P1 m),OD,OD,Qn _ _ m]
 show tt ((σ.set k1 ⇑i).set k2 (some x)) _ _;rw[e];refine F i x _ _ t (s1.trans v) λN y=>?_;have n:=y _ _ (v _ _ C);have d:=(s1.trans v).trans y;have w:∀{r:Hp} {o:HO},Same c r->Same c (upd r l o):=λs b u e=>by rw[aj (ax e h)];exact s b u e
 have L:∀ i,i<=900->(((List.range i).filter b).map f).length<sizeLine:=λi I=>by
  rw[MZ];refine aC (Nk (Np b _) ?_);rw[Og];lia
 cases q:b i with
 | false=>
  rw[Nt Nc];refine⟨.inr ⟨_,_,rfl⟩,d,?_⟩;rw[Ob,NP,NX,q]
  simpa using n
 | true=>
  rw[NA rfl];refine M i x N _ t q d λr A=>⟨_,A _ _ n,L i #[4],.inr ⟨_,_,rfl⟩,w (d.trans A),?_⟩;rw[ah,Ob,NP,NX,q];simp
end
def rngL(i j:Int):∅:=(List.range (j-i).toNat).map λ(k:Nat)=>i+(k:Int)
theorem gL(i j:Int):(rngL i j).length=(j-i).toNat:=by unfold rngL;simp
theorem tY:∀{xs:List V} {us:List Value},xs.length=us.length->(∀(i:Nat) x u,xs[i]? =some x->us[i]? =some u->RelV x u)->Vals xs us
 | [],[],_,_=>.nil
 | [],_::_,h,_=>by simp at h
 | _::_,[],h,_=>by simp at h
 | x::xs,u::us,h,f=>.cons (f 0 x u rfl rfl) (tY (by simpa using h) λi y e h1 h2=>f (i+1) y e (by simpa using h1) (by simpa using h2))
theorem FH{i j:Int}{b:Array Value}(h:ItemsOf (λk v=>∃ t,v=.int (i+k*1) t) b (j-i).toNat):Vals ((rngL i j).map V.int) b.toList:=by
 refine tY (by rw[MZ,gL,Pi];exact h.1.symm) λk x u a d=>?_;obtain⟨t,rfl⟩:=h.2 k u (by simpa using d);unfold rngL at a;rw[NH,M7]at a;by_cases c:k < (j-i).toNat
 . rw[N8 c]at a;cases a;exact⟨t,by rw[Int.mul_one]⟩
 . rw[NI (by simpa using c)]at a;cases a
section
variable{X:Cx}
def lf(b:TA):TE:=λσ H Q=>b σ H λvs a=>∃ j:Int,vs=[.int j]/\ -(2^60)<=j/\j<=1000/\∀ l,a l=none->Q (.ref l) (upd a l (.lst ((rngL 0 j).map V.int)))
def Em(b:TA):TE:=λσ H Q=>b σ H λvs a=>∃ i j:Int,vs=[.int i,.int j]/\(0<=i/\i<=1000/\ -(2^60)<=j/\j<=1000)/\∀ l,a l=none->Q (.ref l) (upd a l (.lst ((rngL i j).map V.int)))
theorem FI {h:List (Addr × Obj)} {σ:St} {d:Hp} {s1:Shared} {Q:VK} {i j:Int} {t u v:Tok} {m:Nat} {A:Around} {E:Value->Shared->Prop} (r:A.handled=none) (x:Inv X h σ d s1) (h1:0<=i) (h2:i<=1000) (h3: -(2^60)<=j) (h4:j<=1000)
  (q:∀ l,d l=none->Q (.ref l) (upd d l (.lst ((rngL i j).map V.int)))):
  wpAny (model X.prog X.w) A (call (.type "list") [.ref s1.heap.objs.size]) (EP X h σ Q) E {s1 with heap:=s1.heap.push {cls:=.type "range",data:=.fields #[.int i t,.int j u,.int 1 v]},toks:=m}:=by
 have p:Inv X h σ d {s1 with heap:=s1.heap.push {cls:=.type "range",data:=.fields #[.int i t,.int j u,.int 1 v]},toks:=m}:=x.kept λb o e=>Nq _ e;refine call_list_range (n:=(j-i).toNat) r (IsRange.new ..) (small_one #[4] #[4] #[4] #[4]) (by rw[rangeSize_one];split <;> lia) #[4] λz k a s g f c=>?_;have y:((rngL i j).map V.int).length<=sizeLine:=by rw[MZ,gL];exact NU (aC #[4])
 exact⟨.ref _,_,p.laid (t':=k) (o:=.lst ((rngL i j).map V.int)) g (Nr _) ⟨y,a.toList,s,FH c,f⟩,rfl,q _ (p.hok.fresh (Nr _))⟩
theorem oq {a:Expr} {k:TA} {p d pos b:Pos} (l:X.calm=true) (f:Gl X "list") (i:Gl X "range") (m:X.mg "list"=none) (y:X.mg "range"=none) (x:PA X [a] k)
  (c:starEach [.Call (.Name "range" d) [a] [] b] X.env=[(false,eval (.Call (.Name "range" d) [a] [] b) X.env)]:=by rfl) (v:starEach [a] X.env=[(false,eval a X.env)]:=by rfl):
  PE X (.Call (.Name "list" p) [.Call (.Name "range" d) [a] [] b] [] pos) (lf k):=by
 intro u s σ H Q I h;refine Os (gj I f m fE ?_ #[1] #[1]);refine N4 ?_ c rfl;rw[c];show wpAny _ _ (spliced [(false,eval (.Call (.Name "range" d) [a] [] b) X.env)]) _ _ s;refine O0 ?_;refine Call_ (gj I i y boot_range (N4 (thn (x b u s σ H _ I h) λA s1 ⟨vs,z,w,r1,g⟩=>?_) v rfl));obtain⟨j,e,g,o,q⟩:=g;subst e
 cases r1 with
 | cons r n=>
  cases n;obtain⟨t,rfl⟩:=r;refine call_range_1 ?_;refine O5 ?_;exact FI (I.ok.hd l) w #[4] #[4] g o q
end
section
variable{σ:St}{H:Hp}{Q:VK}{ta:TA}
def cM:lf ta σ H Q=ta σ H λvs a=>∃ j:Int,vs=[.int j]/\ -(2^60)<=j/\j<=1000/\∀ l,a l=none->Q (.ref l) (upd a l (.lst ((rngL 0 j).map V.int))):=rfl
def cN:Em ta σ H Q=ta σ H λvs a=>∃ i j:Int,vs=[.int i,.int j]/\(0<=i/\i<=1000/\ -(2^60)<=j/\j<=1000)/\∀ l,a l=none->Q (.ref l) (upd a l (.lst ((rngL i j).map V.int))):=rfl
end
end L2
namespace L2
def besL(h w c:Int):∅:=(if 0<c/w then [c-w] else [])++(if 0<c%w then [c-1] else [])++(if c%w<w-1 then [c+1] else [])++(if c/w<h-1 then [c+w] else [])
inductive RC(h w:Int)(cs:∅)(st:Int):Int->Prop
 | start:st∈cs->RC h w cs st st
 | step {x y:Int}:RC h w cs st x->y∈besL h w x->y∈cs->RC h w cs st y
variable{h w x:Int}{cs:∅}
theorem RC.mem{st:Int}(r:RC h w cs st x):x∈cs:=by cases r <;> assumption
theorem RC.st{st:Int}(r:RC h w cs st x):st∈cs:=by
 induction r with
 | start h=>exact h
 | step _ _ _ a=>exact a
theorem e8:∀{xs ys:∅},xs.Nodup->(∀ x∈xs,x∈ys)->xs.length<=ys.length
 | [],_,_,_=>Oc _
 | x::xs,ys,nd,h=>by
  have c:=h x Nh;have a:=NY.mp nd
  have d:=e8 (xs:=xs) (ys:=ys.erase x) a.2 λy b=>by
   have f:y≠x:=λe=>a.1 (e ▸ b);exact(List.mem_erase_of_ne f).mpr (h y (Ni _ b))
  rw[List.length_erase_of_mem c]at d;have:0<ys.length:=Qy c;simp only[NJ];lia
structure BI(h w:Int)(cs:∅)(st:Int)(fs:∅)(pl:Nat):Prop where
 nd:fs.Nodup
 rc:∀ x∈fs,RC h w cs st x
 hst:st∈fs
 le:pl<=fs.length
 cl:∀(i:Nat) (x y:Int),i<pl->fs[i]? =some x->y∈besL h w x->y∈cs->y∈fs
variable{pl:Nat}
def BI.len{st:Int}{fs:∅}(b:BI h w cs st fs pl):fs.length<=cs.length:=e8 b.nd λx a=>(b.rc x a).mem
def BI.start{st:Int}(c:st∈cs):BI h w cs st [st] 0:=
 ⟨by simp,λx b=>by rw[Nd.mp b];exact .start c,by simp,Oc _,λi x y a=>absurd a (Nat.not_lt_zero _)⟩
theorem BI.done{st:Int}{fs:∅}(b:BI h w cs st fs pl)(e:¬ pl<fs.length)(x:Int):x∈fs↔RC h w cs st x:=by
 refine⟨b.rc x,λr=>?_⟩
 induction r with
 | start _=>exact b.hst
 | step r f d c=>
  obtain⟨i,a⟩:=List.getElem?_of_mem c;have g:i<fs.length:=(M6.mp a).1;exact b.cl i _ _ #[4] a f d
def addC(cs fs:∅)(y:Int):∅:=if y∈cs/\¬ y∈fs then fs++[y] else fs
structure BJ(h w:Int)(cs:∅)(st:Int)(f0:∅)(pl:Nat)(bs:∅)(fs:∅):Prop where
 nd:fs.Nodup
 rc:∀ x∈fs,RC h w cs st x
 pre:f0 <+:fs
 al:∀ y∈bs,y∈cs->y∈fs
def BJ.zero{st:Int}{fs:∅}(b:BI h w cs st fs pl):BJ h w cs st fs pl [] fs:=⟨b.nd,b.rc,List.prefix_refl _,λy a=>nomatch a⟩
theorem BJ.more{st:Int}{g fs bs:∅}{y:Int}(j:BJ h w cs st g pl bs fs)(l:RC h w cs st x)(k:y∈besL h w x):BJ h w cs st g pl (bs++[y]) (addC cs fs y):=by
 unfold addC
 split
 . rename_i f
   refine⟨?_,λz c=>?_,j.pre.trans (List.prefix_append _ _),λz c d=>?_⟩
   . refine OF.mpr ⟨j.nd,by simp,λa m b i=>?_⟩;rw[Nd.mp i];intro e;exact f.2 (e ▸ m)
   . rcases Ny.mp c with c | c
     . exact j.rc z c
     . rw[Nd.mp c];exact .step l k f.1
   . rcases Ny.mp c with c | c
     . exact OU _ (j.al z c d)
     . rw[Nd.mp c];simp
 . rename_i f
   refine⟨j.nd,j.rc,j.pre,λz c d=>?_⟩;rcases Ny.mp c with c | c
   . exact j.al z c d
   . rw[Nd.mp c]at d ⊢;exact Qd λn=>f ⟨d,n⟩
theorem BJ.done{st:Int}{a fs:∅}(b:BI h w cs st a pl)(l:a[pl]? =some x)(j:BJ h w cs st a pl (besL h w x) fs):BI h w cs st fs (pl+1):=by
 have n:pl<a.length:=(M6.mp l).1;have m:=j.pre.length_le
 have d:∀ i,i<a.length->fs[i]? =a[i]? :=λi g=>by
  obtain⟨t,e⟩:=j.pre;rw[← e,NO g]
 refine⟨j.nd,j.rc,j.pre.subset b.hst,by lia,λi z y g c k f=>?_⟩;rw[d i #[4]]at c;by_cases e:i<pl
 . exact j.pre.subset (b.cl i z y e c k f)
 . have:i=pl:=by lia
   subst this;rw[l]at c;cases c;exact j.al y k f
theorem En{c fs:∅}(p:c.Perm fs)(s:c.Pairwise (· <=·))(e:fs.Nodup):c.Pairwise (· < ·):=by
 have d:c.Nodup:=p.nodup_iff.mpr e;refine(s.and d).imp ?_;intro a b h;have:=h.1;have:=h.2;lia
theorem vx:∀{xs ys:∅},xs.Pairwise (· < ·)->ys.Pairwise (· < ·)->(∀ z,z∈xs↔z∈ys)->xs=ys
 | [],[],_,_,_=>rfl
 | [],y::ys,_,_,h=>absurd ((h y).mpr Nh) (λq=>nomatch q)
 | x::xs,[],_,_,h=>absurd ((h x).mp Nh) (λq=>nomatch q)
 | x::xs,y::ys,hx,hy,h=>by
  have b:=Pn.mp hx;have a:=Pn.mp hy
  have e:x=y:=by
   rcases Ng.mp ((h x).mp Nh) with e | d
   . exact e
   . rcases Ng.mp ((h y).mpr Nh) with e | c
     . exact e.symm
     . have:=a.1 x d;have:=b.1 y c;lia
  subst e;refine congrArg (x::·) (vx b.2 a.2 λz=>⟨λm=>?_,λm=>?_⟩)
  . rcases Ng.mp ((h z).mp (Ni _ m)) with e | q
    . have:=b.1 z m;lia
    . exact q
  . rcases Ng.mp ((h z).mpr (Ni _ m)) with e | q
    . have:=a.1 z m;lia
    . exact q
theorem RC.trans{a b c:Int}(r:RC h w cs a b)(q:RC h w cs b c):RC h w cs a c:=by
 induction q with
 | start _=>exact r
 | step _ d f e=>exact .step e d f
theorem GU{y:Int}:y∈besL h w x↔(0<x/w/\y=x-w)\/(0<x%w/\y=x-1)\/(x%w<w-1/\y=x+1)\/(x/w<h-1/\y=x+w):=by
 unfold besL;simp only[Ny];constructor
 . rintro(((q | q) | q) | q)
   . split at q
     . simp at q;exact .inl ⟨by assumption,q⟩
     . cases q
   . split at q
     . simp at q;exact .inr (.inl ⟨by assumption,q⟩)
     . cases q
   . split at q
     . simp at q;exact .inr (.inr (.inl ⟨by assumption,q⟩))
     . cases q
   . split at q
     . simp at q;exact .inr (.inr (.inr ⟨by assumption,q⟩))
     . cases q
 . rintro(⟨q,rfl⟩ | ⟨q,rfl⟩ | ⟨q,rfl⟩ | ⟨q,rfl⟩)
   . rw[NA q];simp
   . rw[NA q];simp
   . rw[NA q];simp
   . rw[NA q];simp
theorem zX{y:Int}(b:0<w)(i:0<=x)(g:x<h*w)(m:y∈besL h w x):x∈besL h w y:=by
 have f:=NZ x (Int.ne_of_gt b);have d:=NQ x b;have e:=QH x w;have k:0<=x/w:=Int.ediv_nonneg i (Int.le_of_lt b)
 have j:x/w<h:=by
  refine QI b ?_;exact g
 rw[GU]at m ⊢;generalize x/w=q at*;generalize x%w=r at*;rcases m with ⟨c,rfl⟩ | ⟨c,rfl⟩ | ⟨c,rfl⟩ | ⟨c,rfl⟩
 . have u:=(O9 (a:=x-w) (q:=q-1) (r:=r) b).mpr ⟨by rw[Int.mul_sub];lia,f,d⟩;exact .inr (.inr (.inr ⟨by rw[u.1];lia,by lia⟩))
 . have u:=(O9 (a:=x-1) (q:=q) (r:=r-1) b).mpr ⟨by lia,by lia,by lia⟩;exact .inr (.inr (.inl ⟨by rw[u.2];lia,by lia⟩))
 . have u:=(O9 (a:=x+1) (q:=q) (r:=r+1) b).mpr ⟨by lia,by lia,by lia⟩;exact .inr (.inl ⟨by rw[u.2];lia,by lia⟩)
 . have u:=(O9 (a:=x+w) (q:=q+1) (r:=r) b).mpr ⟨by rw[Int.mul_add];lia,f,d⟩;exact .inl ⟨by rw[u.1];lia,by lia⟩
theorem RC.symm{a b:Int}(e:0<w)(c:∀ x∈cs,0<=x/\x<h*w)(r:RC h w cs a b):RC h w cs b a:=by
 induction r with
 | start m=>exact .start m
 | step r i g f=>
  have d:=r.mem;exact RC.trans (.step (.start g) (zX e (c _ d).1 (c _ d).2 i) d) f
end L2
namespace L2
open PySem PySem.Spec PyProof.Rows
def wk9(t:String):Lean.MacroM Lean.Syntax:=do
 let x<-(t.splitOn " ").toArray.mapM λs=>`(Lean.Parser.Tactic.simpLemma|$(Lean.mkIdent s.toName):term)
 `(tactic|(first|simp only[$x,*]|dsimp only|skip))
def ws1:String:="aG bY bC aY b7 b8 w_c eI b9 ce bZ cg w_b w_not dn fO cj ck dq c5 bS fP cm dr c6 fF dt b3 cq cw cA bD bE bq bj bn be du dw dz dA dB dC dD dE dF dG dH dI fQ cB bo cC fS cD bF bp dJ dL cE cF cG List.getElem?_cons_zero List.getElem?_cons_succ Option.some.injEq exists_eq_left' exists_eq_left List.set_cons_zero List.set_cons_succ bh V.int.injEq V.bl.injEq V.ref.injEq V.str.injEq List.nil_append List.cons_append"
local macro_rules|`(tactic|walk_at "w")=>wk9 ws1
local macro_rules|`(tactic|symm)=>`(tactic|walk_at "w")
def aP{n:Nat}(h:n<=1000):n<=sizeLine:=NU (aC h)
def lnR{n:Nat}(h:Nat.ble n 1000=true):n<=sizeLine:=aP (N7 h)
def IsFl(H:Hp)(a:Addr)(h w g:Int):Prop:=H a=some (.tup [.int h,.int w,.int g])
variable{H:Hp}{p:Addr}
def Same.laid{a:Hp}{o:HO}(s:Same H a)(h:a p=none):Same H (upd a p o):=λb u e=>by
 rw[aj (ax (s b u e) h)];exact s b u e
def aW{U:Addr}(O:HO)(h:H U=none):∃ z,upd H U O=z/\Same H z/\z U=some O:=⟨_,rfl,(M5 H).laid h,ah⟩
def Same.own{a:Hp}{o:HO}(s:Same H a)(h:H p=none):Same H (upd a p o):=λb u e=>by
 rw[aj (ax e h)];exact s b u e
variable{l:∅}{i:Nat}
theorem eX{x:Int}(h:l[i]? =some x):l.getD i 0=x:=by
 rw[List.getD,h];rfl
variable{ns:∅}
theorem uy{k:Int}(h0:0<=k)(h1:k<ns.length):atI (ns.map V.int) k=⇑(ns.getD k.toNat 0):=by
 have e:((k.toNat:Nat):Int)=k:=Int.toNat_of_nonneg h0;have a:k.toNat<ns.length:=by lia
 have:(ns.map V.int)[k.toNat]? =⇑(ns.getD k.toNat 0):=by
  rw[M7,M0 a];simp[List.getD,a]
 have q:=gr this;rw[e]at q;exact q
def bg{α:Type}(l:List α):l.filter (λ_=>true)=l:=OX.mpr λ_ _=>rfl
theorem aN{y:V}(h:(l.map V.int)[i]? =some y):∃ z,l[i]? =some z/\y=.int z:=by
 rw[M7]at h
 cases e:l[i]? with
 | none=>rw[e]at h;cases h
 | some z=>rw[e]at h;cases h;exact⟨z,rfl,rfl⟩
theorem b5{l:List Addr}{y:V}(h:(l.map V.ref)[i]? =some y):∃ z,l[i]? =some z/\y=.ref z:=by
 rw[M7]at h
 cases e:l[i]? with
 | none=>rw[e]at h;cases h
 | some z=>rw[e]at h;cases h;exact⟨z,rfl,rfl⟩
def nh{h w:Int}(h0:1<=h)(h1:h<=6):CMul h w:=.inl ⟨by omega,by omega⟩
theorem iK{a:List Addr}{k:Int}(h0:0<=k)(h:a[k.toNat]? =some p):atI (a.map V.ref) k=↑p:=by
 have e:((k.toNat:Nat):Int)=k:=Int.toNat_of_nonneg h0;have b:(a.map V.ref)[k.toNat]? =↑p:=by rw[M7,h];rfl
 have q:=gr b;rw[e]at q;exact q
section
variable{k:Nat}{lo:Int}{n:Nat}{tt:TT}{te:TE}{fin:Addr->Hp->Prop}{σ0:St}{H1:Hp}{K:Frag}{a:Addr}
theorem mt{n i:Nat}(b:Nat->Bool)(h:i<n)(a:n<=900):((List.range i).filter b).length<=900:=by
 have:=Np b (List.range i);rw[Og]at this;lia
theorem tZ (b:Nat->Bool) (f:Nat->V) (s:n<=900)
  (t:∀ i H R,i<n->Same H1 H->(∀ c,Same H c->R (b i) c)->tt (σ0.set k ⇑(lo+i)) H R)
  (v:∀ i H Q,i<n->b i=true->Same H1 H->(∀ c,Same H c->Q (f i) c)->te (σ0.set k ⇑(lo+i)) H Q)
  (r:∀ l H,H1 l=none->Same H1 H->H l=↥(((List.range n).filter b).map f)->fin l H):
  CompR (Itr lo n) (gName k) tt te fin σ0 H1:=by
 refine vp (λl i σ H=>(σ=σ0\/∃ m,σ=σ0.set k m)/\Same H1 H/\H l=↥(((List.range i).filter b).map f)) (λl a=>⟨.inl rfl,(M5 H1).laid a,by rw[ah];rfl⟩) ?_ (λl σ H a p=>r l H a p.2.1 p.2.2);rintro l i σ H a j ⟨u,s1,q⟩;rw[aY]
 have e:σ.set k ⇑(lo+i)=σ0.set k ⇑(lo+i):=by
  rcases u with rfl | ⟨m,rfl⟩
  . rfl
  . exact OD ..
 rw[e];refine t i H _ j s1 λw g=>?_;have d:=g _ _ q
 cases h:b i with
 | false=>
  rw[Nt Nc];refine⟨.inr ⟨_,rfl⟩,s1.trans g,?_⟩;rw[Ob,NP,NX,h]
  simpa using d
 | true=>
  rw[NA rfl];refine v i w _ j h (s1.trans g) λx o=>⟨_,o _ _ d,by rw[MZ];exact aC (Nk (mt b j s) #[1]),.inr ⟨_,rfl⟩,((s1.trans g).trans o).own a,?_⟩;rw[ah,Ob,NP,NX,h];simp
theorem cH {xs:List V} (b:Nat->Bool) (f:Nat->V) (s:xs.length<=900) (v:SqL K H1 a xs)
  (t:∀ i x H R,xs[i]? =some x->Same H1 H->(∀ g,Same H g->R (b i) g)->tt (σ0.set k (some x)) H R)
  (y:∀ i x H Q,xs[i]? =some x->b i=true->Same H1 H->(∀ g,Same H g->Q (f i) g)->te (σ0.set k (some x)) H Q)
  (r:∀ l H,H1 l=none->Same H1 H->H l=↥(((List.range xs.length).filter b).map f)->fin l H):
  CompR (Itl K a) (gName k) tt te fin σ0 H1:=by
 refine rF (xs:=xs) (λl i σ H=>(σ=σ0\/∃ n,σ=σ0.set k n)/\Same H1 H/\H l=↥(((List.range i).filter b).map f)) (λl c=>⟨.inl rfl,(M5 H1).laid c,by rw[ah];rfl⟩) (λl i σ H _ _ p=>p.2.1.seq v) ?_ (λl σ H c p=>r l H c p.2.1 p.2.2);rintro l i x σ H c m ⟨u,s1,q⟩;have w:i<xs.length:=(M6.mp m).1;rw[aY]
 have e:σ.set k (some x)=σ0.set k (some x):=by
  rcases u with rfl | ⟨n,rfl⟩
  . rfl
  . exact OD ..
 rw[e];refine t i x H _ m s1 λz h=>?_;have d:=h _ _ q
 cases j:b i with
 | false=>
  rw[Nt Nc];refine⟨.inr ⟨_,rfl⟩,s1.trans h,?_⟩;rw[Ob,NP,NX,j]
  simpa using d
 | true=>
  rw[NA rfl];refine y i x z _ m j (s1.trans h) λA o=>⟨_,o _ _ d,by rw[MZ];exact aC (Nk (mt b w s) #[1]),.inr ⟨_,rfl⟩,((s1.trans h).trans o).own c,?_⟩;rw[ah,Ob,NP,NX,j];simp
def or (b:Nat->Bool) (f:Nat->Int) (g:n<=900)
  (h:∀ i H R,i<n->Same H1 H->(∀ a,Same H a->R (b i) a)->tt (σ0.set k ⇑(lo+i)) H R)
  (j:∀ i H Q,i<n->b i=true->Same H1 H->(∀ a,Same H a->Q (.int (f i)) a)->te (σ0.set k ⇑(lo+i)) H Q)
  (e:∀ l H,H1 l=none->Same H1 H->H l=↥((((List.range n).filter b).map f).map V.int)->fin l H):
  CompR (Itr lo n) (gName k) tt te fin σ0 H1:=
 tZ b (λi=>.int (f i)) g h j λl H d s1 c=>e l H d s1 (by rw[NH];exact c)
theorem Eo(b:Int->Bool)(f:Int->Int)(xs:∅):((List.range xs.length).filter λi=>b (xs.getD i 0)).map (λi=>V.int (f (xs.getD i 0)))=((xs.filter b).map f).map V.int:=by
 have e:xs=(List.range xs.length).map λi=>xs.getD i 0:=by
  refine OA λi=>?_;rw[M7];by_cases h:i<xs.length
  . rw[N8 h,M0 h];simp[List.getD,h]
  . rw[NI #[4],NI (by simpa using h)];rfl
 conv=>rhs;rw[e]
 rw[OH,NH,NH];rfl
theorem aS {xs:∅} (b:Int->Bool) (f:Int->Int) (o:xs.length<=900) (q:SqL K H1 a (xs.map V.int))
  (p:∀ x H R,x∈xs->Same H1 H->(∀ c,Same H c->R (b x) c)->tt (σ0.set k ⇑x) H R)
  (r:∀ x H Q,x∈xs->b x=true->Same H1 H->(∀ c,Same H c->Q (.int (f x)) c)->te (σ0.set k ⇑x) H Q)
  (n:∀ l H,H1 l=none->Same H1 H->H l=↥(((xs.filter b).map f).map V.int)->fin l H):
  CompR (Itl K a) (gName k) tt te fin σ0 H1:=by
 refine cH (xs:=xs.map V.int) (λi=>b (xs.getD i 0)) (λi=>.int (f (xs.getD i 0))) (by rw[MZ];exact o) q ?_ ?_ ?_
 . intro i x H R e s1 h;obtain⟨z,d,rfl⟩:=aN e;rw[eX d]at h;exact p z H R (M8 d) s1 h
 . intro i x H Q e j s1 h;obtain⟨z,d,rfl⟩:=aN e;rw[eX d]at h j;exact r z H Q (M8 d) j s1 h
 . intro l H m s1 g;refine n l H m s1 ?_;rw[MZ]at g;rw[g,Eo]
structure NewAt(H1 H:Hp)(l:Addr)(as:List Addr)(os:List HO):Prop where
 len:as.length=os.length
 nd:as.Nodup
 nl:l∉as
 fr:∀ a∈as,H1 a=none
 at_:∀(j:Nat) (a:Addr) (o:HO),as[j]? =some a->os[j]? =some o->H a=some o
def NewAt.nil{H1 H:Hp}{l:Addr}:NewAt H1 H l [] [] where
 len:=rfl
 nd:=Pa
 nl:=by simp
 fr:=λa h=>nomatch h
 at_:=λj a o h=>by simp at h
def NewAt.same{H1 H b:Hp}{l:Addr}{c:List Addr}{os:List HO}(x:NewAt H1 H l c os)(s:Same H b):NewAt H1 b l c os:=
 ⟨x.len,x.nd,x.nl,x.fr,λj a o h1 h2=>s _ _ (x.at_ j a o h1 h2)⟩
theorem NewAt.mem{H1 H:Hp}{l:Addr}{d:List Addr}{os:List HO}(x:NewAt H1 H l d os){a:Addr}(h:a∈d):∃ o,H a=some o:=by
 obtain⟨j,c,e⟩:=Ov.mp h;have b:j<os.length:=by rw[← x.len];exact c
 exact⟨os[j],x.at_ j a os[j] (by rw[M0 c,e]) (M0 b)⟩
theorem NewAt.more{H1 H k:Hp}{l p:Addr}{h:List Addr}{os:List HO}{o u:HO}(x:NewAt H1 H l h os)(s1:Same H1 H)(s:Same H k)(f:H p=none)(e:k p=some o)(n:H l=some u)(y:HO):NewAt H1 (upd k l y) l (h++[p]) (os++[o]):=by
 have d:p≠l:=λz=>by rw[z,n]at f;cases f
 refine⟨by simp[x.len],?_,?_,?_,?_⟩
 . refine OF.mpr ⟨x.nd,by simp,λa c b r z=>?_⟩;rw[Nd.mp r]at z;obtain⟨m,e2⟩:=x.mem c;rw[z,f]at e2;cases e2
 . intro g;rcases Ny.mp g with g | g
   . exact x.nl g
   . exact d (Nd.mp g).symm
 . intro a c;rcases Ny.mp c with c | c
   . exact x.fr a c
   . rw[Nd.mp c]
     cases q:H1 p with
     | none=>rfl
     | some v=>rw[s1 _ _ q]at f;cases f
 . intro j a m h1 h2;have A:=x.len;by_cases t:j<h.length
   . rw[NO t]at h1;rw[NO #[4]]at h2;have i:a≠l:=λz=>x.nl (z ▸ M8 h1);rw[aj i];exact s _ _ (x.at_ j a m h1 h2)
   . rw[NW #[4]]at h1;rw[NW #[4]]at h2
     have w:j-h.length=0:=by
      have:=(M6.mp h1).1;simp at this;lia
     rw[w]at h1;rw[show j-os.length=0 by lia]at h2;simp at h1 h2;subst h1 h2;rw[aj d];exact e
theorem t3 (b:Nat->Bool) (o:Nat->HO) (w:n<=900)
  (B:∀ i H R,i<n->Same H1 H->(∀ g,Same H g->R (b i) g)->tt (σ0.set k ⇑(lo+i)) H R)
  (D:∀ i H Q,i<n->b i=true->Same H1 H->(∀ a g,Same H g->H a=none->g a=some (o i)->Q (.ref a) g)->te (σ0.set k ⇑(lo+i)) H Q)
  (A:∀ l c H,H1 l=none->Same H1 H->H l=↥(c.map V.ref)->NewAt H1 H l c (((List.range n).filter b).map o)->fin l H):
  CompR (Itr lo n) (gName k) tt te fin σ0 H1:=by
 refine vp (λl i σ H=>(σ=σ0\/∃ u,σ=σ0.set k u)/\Same H1 H/\∃ c:List Addr,H l=↥(c.map V.ref)/\NewAt H1 H l c (((List.range i).filter b).map o)) (λl h=>⟨.inl rfl,(M5 H1).laid h,[],by rw[ah];rfl,NewAt.nil⟩) ?_ (λl σ H h ⟨_,s1,c,q,x⟩=>A l c H h s1 q x);rintro l i σ H h t ⟨z,s1,c,q,x⟩;rw[aY]
 have e:σ.set k ⇑(lo+i)=σ0.set k ⇑(lo+i):=by
  rcases z with rfl | ⟨u,rfl⟩
  . rfl
  . exact OD ..
 rw[e];refine B i H _ t s1 λE m=>?_;have f:=m _ _ q;have s:=x.same m;have d:=s1.trans m
 cases j:b i with
 | false=>
  rw[Nt Nc];refine⟨.inr ⟨_,rfl⟩,d,c,f,?_⟩;rw[Ob,NP,NX,j]
  simpa using s
 | true=>
  rw[NA rfl];refine D i E _ t j d λp F r C v=>⟨_,r _ _ f,?_,.inr ⟨_,rfl⟩,(d.trans r).own h,c++[p],?_,?_⟩
  . rw[MZ,s.len,MZ];exact aC (Nk (mt b t w) #[1])
  . rw[ah];simp
  . have y:=s.more d r C v f (.lst (c.map V.ref++[V.ref p]));rw[Ob,NP,NX,j]
    simpa using y
theorem qf {xs:List V} (b:Nat->Bool) (o:Nat->HO) (v:xs.length<=900) (C:SqL K H1 a xs)
  (B:∀ i x H R,xs[i]? =some x->Same H1 H->(∀ g,Same H g->R (b i) g)->tt (σ0.set k (some x)) H R)
  (F:∀ i x H Q,xs[i]? =some x->b i=true->Same H1 H->(∀ a g,Same H g->H a=none->g a=some (o i)->Q (.ref a) g)->te (σ0.set k (some x)) H Q)
  (A:∀ l c H,H1 l=none->Same H1 H->H l=↥(c.map V.ref)->NewAt H1 H l c (((List.range xs.length).filter b).map o)->fin l H):
  CompR (Itl K a) (gName k) tt te fin σ0 H1:=by
 refine rF (xs:=xs) (λl i σ H=>(σ=σ0\/∃ t,σ=σ0.set k t)/\Same H1 H/\∃ c:List Addr,H l=↥(c.map V.ref)/\NewAt H1 H l c (((List.range i).filter b).map o)) (λl h=>⟨.inl rfl,(M5 H1).laid h,[],by rw[ah];rfl,NewAt.nil⟩) (λl i σ H _ _ p=>p.2.1.seq C) ?_ (λl σ H h ⟨_,s1,c,q,x⟩=>A l c H h s1 q x);rintro l i y σ H h m ⟨w,s1,c,q,x⟩;have D:i<xs.length:=(M6.mp m).1;rw[aY]
 have e:σ.set k (some y)=σ0.set k (some y):=by
  rcases w with rfl | ⟨t,rfl⟩
  . rfl
  . exact OD ..
 rw[e];refine B i y H _ m s1 λG n=>?_;have f:=n _ _ q;have s:=x.same n;have d:=s1.trans n
 cases j:b i with
 | false=>
  rw[Nt Nc];refine⟨.inr ⟨_,rfl⟩,d,c,f,?_⟩;rw[Ob,NP,NX,j]
  simpa using s
 | true=>
  rw[NA rfl];refine F i y G _ m j d λp I r E u=>⟨_,r _ _ f,?_,.inr ⟨_,rfl⟩,(d.trans r).own h,c++[p],?_,?_⟩
  . rw[MZ,s.len,MZ];exact aC (Nk (mt b D v) #[1])
  . rw[ah];simp
  . have z:=s.more d r E u f (.lst (c.map V.ref++[V.ref p]));rw[Ob,NP,NX,j]
    simpa using z
end
theorem DVs.of_get{K:Frag}{H:Hp}:∀{xs:List V} {a:List PyData},xs.length=a.length->(∀(i:Nat) x d,xs[i]? =some x->a[i]? =some d->DV K H x d)->DVs K H xs a
 | [],[],_,_=>.nil
 | [],_::_,h,_=>by simp at h
 | _::_,[],h,_=>by simp at h
 | x::xs,d::a,h,f=>.cons (f 0 x d rfl rfl) (DVs.of_get (by simpa using h) λi y e h1 h2=>f (i+1) y e (by simpa using h1) (by simpa using h2))
theorem xh:∀{a:List PyData},(∀ d∈a,PyData.canLay0 d=true)->PyData.canLayAll0 a=true
 | [],_=>rfl
 | d::r,h=>by rw[PyData.canLayAll0,h d Nh,xh λe b=>h e (Ni _ b)];rfl
theorem rH{n:Nat}:∀{a:List PyData},(∀ d∈a,PyData.depth d<=n)->PyData.depthAll a<=n
 | [],_=>Oc _
 | d::r,h=>by rw[PyData.depthAll];exact Nat.max_le.mpr ⟨h d Nh,rH λe b=>h e (Ni _ b)⟩
theorem xi{α:Type}[DecidableEq α](g:α->PyData)(c:∀ a b,PyData.eqv (g a) (g b)=decide (a=b)):∀ xs ys:List α,PyData.eqvAll (xs.map g) (ys.map g)=decide (xs=ys)
 | [],[]=>rfl
 | [],_::_=>rfl
 | _::_,[]=>rfl
 | x::xs,y::ys=>by
  rw[NK,NK,PyData.eqvAll,c,xi g c xs ys,ND];simp
structure IsLL(H:Hp)(l:Addr)(as:List Addr)(MU:List ∅):Prop where
 top:H l=↥(as.map V.ref)
 len:as.length=MU.length
 at_:∀(j:Nat) (a:Addr) (xs:∅),as[j]? =some a->MU[j]? =some xs->H a=↥(xs.map V.int)
def IsLL.same{b:Hp}{l:Addr}{c:List Addr}{d:List ∅}(x:IsLL H l c d)(s:Same H b):IsLL b l c d:=
 ⟨s _ _ x.top,x.len,λj a e h1 h2=>s _ _ (x.at_ j a e h1 h2)⟩
def lY(K:Frag):Sp:=#[3,∃ a h w g c,vs=[.ref a,.int c]/\IsFl H a h w g/\0<w/\w<100/\∀ p,H p=none->Q (.ref p) (upd H p (.tup [.int (c/w),.int (c%w)]))]
def qg(K:Frag):TS:=#[":gmck0ef#1 h#2 jXacT12acH12d"]
abbrev eD9(Q:VK):Ends:={nx:=λ_ a=>Q .non a,rt:=Q}
variable{K:Frag}{vs:List V}
theorem CQ{Q:VK}{E:XK}(h:lY K vs H Q E):qg K (eD9 Q) (start ["floor","cell","wide"] vs) H:=by
 obtain⟨a,h,w,g,c,rfl,d,b,e,k⟩:=h;exists qg;rw[iJ d];refine ba (a:=V.int w) rfl ?_;exists⟨⟨b,by lia⟩,b,lnR rfl,k⟩
theorem uz(h w c:Int):(besL h w c).length<=4:=by
 unfold besL;simp only[NG]
 split <;> split <;> split <;> split <;> simp
def fJ(K:Frag):Sp:=#[3,∃ a h w g c,vs=[.ref a,.int c]/\IsFl H a h w g/\0<w/\w<100/\∀ l b,Same H b->H l=none->b l=↥((besL h w c).map V.int)->Q (.ref l) b]
def rJ(K:Frag):TS:=#[":gmck0ef#0 h#2 gmck0ef#1 h#3 gm,~?ba0a1dh#4 gmsdh#5 gnlc>ck4ef#0 ef#0 NDbER5acO13dognlc>ck4ef#1 ef#0 NDbER5acO1ef#1 dognlc<ck4ef#1 cO3ef#1 NDbER5acy1ef#1 dognlc<ck4ef#0 cO2ef#1 NDbER5acy13doj5"]
theorem vy {D:Ends} {σ:St} {t:TT} {e:TE} {b:Bool} {v:Int} {l:Addr} (h:σ[i]? =some ↑l) (g:∀ R,R b H->t σ H R) (a:H l=↥(ns.map V.int)) (m:ns.length<=900)
  (j:∀ Q,Q (.int v) H->e σ H Q) (k:∀ d,(d l=↥((ns++if b=true then [v] else []).map V.int))->(∀ c,c≠l->d c=H c)->D.nx σ d):
  tIfS t (tDrop (tBM K "list" bi (tVar i) (tCons e tNil))) tNext D σ H:=by
 rw[aD];refine g _ ?_
 cases b with
 | false=>
  refine iteF ?_;rw[bY];exact k H (by simpa using a) λ_ _=>rfl
 | true=>
  refine iteT ?_;rw[bZ,fF,Jq];refine⟨_,h,aZ a,?_⟩;rw[bS];refine j _ ?_;rw[c5,cy a];refine⟨by rw[MZ];exact aC #[4],k _ ?_ λc f=>aj f⟩;rw[ah];simp
theorem Ep{Q:VK}{E:XK}(h:fJ K vs H Q E):rJ K (eD9 Q) (start ["floor","cell","high","wide","spot","found"] vs) H:=by
 obtain⟨a,h,w,g,c,rfl,y,G,J,k⟩:=h;exists rJ;rw[iJ y];refine ba (a:=V.int h) rfl ?_;symm;rw[iJ y];refine ba (a:=V.int w) rfl ?_;exists⟨a,h,w,g,c,rfl,y,G,J,λp D=>?_⟩;exists⟨aP #[1],λl s=>?_⟩;have m:p≠l:=λe=>by rw[e,ah]at s;cases s
 have r:H l=none:=by rw[aj m.symm]at s;exact s
 have j:∀ x:Hp,(∀ d,d≠l->x d=upd H p (.tup [.int (c/w),.int (c%w)]) d)->x p=some (.tup [.int (c/w),.int (c%w)]):=λx e=>by rw[e p m,ah]
 refine vy (ns:=[]) (l:=l) (i:=5) (b:=decide (0<c/w)) (v:=c-w) rfl (λR q=>?_) ah #[1] (λQ q=>?_) λL e1 t=>?_
 . symm;rw[iJ (j _ λd f=>aj f)];refine ba rfl ?_;symm;exact q
 . symm;exact q
 exists vy (l:=l) (i:=5) (b:=decide (0<c%w)) (v:=c-1) rfl (λR q=>?_) e1 (by simp;split <;> simp) (λQ q=>?_) λN e2 u=>?_
 . symm;rw[iJ (j _ λd f=>by rw[t d f,aj f])];refine ba rfl ?_;symm;exact q
 . symm;exact q
 exists vy (l:=l) (i:=5) (b:=decide (c%w<w-1)) (v:=c+1) rfl (λR q=>?_) e2 (by simp;split <;> split <;> simp) (λQ q=>?_) λM B A=>?_
 . symm;rw[iJ (j _ λd f=>by rw[u d f,t d f,aj f])];refine ba rfl ?_;symm;exact q
 . symm;exact q
 exists vy (l:=l) (i:=5) (b:=decide (c/w<h-1)) (v:=c+w) rfl (λR q=>?_) B (by simp;split <;> split <;> split <;> simp) (λQ q=>?_) λI C F=>?_
 . symm;rw[iJ (j _ λd f=>by rw[A d f,u d f,t d f,aj f])];refine ba rfl ?_;symm;exact q
 . symm;exact q
 exists k l I (λb o e=>?_) r ?_
 . have n:b≠l:=ax e r;have z:b≠p:=ax e D;rw[F b n,A b n,u b n,t b n,aj n,aj z];exact e
 . rw[C];unfold besL;simp[M4]
structure FlOk(h w g:Int):Prop where
 h0:1<=h
 h1:h<=6
 w0:1<=w
 w1:w<=6
 m:h*w<=16
 g0:1<=g
 g1:g<=6
section
variable{K:Frag}{H:Hp}{Q:VK}
theorem Er{p:Addr}{xs:List V}(b:H p=↥xs)(h:Q (.bl true) H):kIsi [.ref p,.ty "list"] H Q:=by
 refine⟨by decide,ba (a:="list") (by unfold mq;dsimp only;rw[b]) ?_⟩;rw[show isTy "list" "list"=true by decide];exact h
theorem Im{p:Addr}{xs:List V}(b:H p=some (.tup xs))(h:Q (.bl true) H):kIsi [.ref p,.ty "tuple"] H Q:=by
 refine⟨by decide,ba (a:="tuple") (by unfold mq;dsimp only;rw[b]) ?_⟩;rw[show isTy "tuple" "tuple"=true by decide];exact h
theorem zY{p q:Addr}{xs ys:List V}(b:H p=↥xs)(c:H q=↥ys)(a:xs.length+ys.length<=1000)(h:Q .non (upd H p (.lst (xs++ys)))):kq (.ref p) [.ref q] H Q:=by
 show bnd (unM (H p)) _;rw[b];show bnd (unM (H q)) _;rw[c];exact⟨NU (aC a),h⟩
def Io{n:Nat}{t:TGs}{σ:St}{k:St->Hp->Prop}{p:Addr}{xs:List V}(b:H p=some (.tup xs))(a:xs.length=n)(h:t xs σ H k):gTup K n t (.ref p) σ H k:=⟨p,xs,rfl,QY b,a,h⟩
theorem FJ{i j:Nat}{x y:V}{σ:St}{k:St->Hp->Prop}:gCons (gName i) (gCons (gName j) gNil) [x,y] σ H k=k ((σ.set i (some x)).set j (some y)) H:=by
 refine propext ⟨?_,λh=>⟨x,[y],rfl,y,[],rfl,rfl,h⟩⟩;rintro⟨v,r,e,b,c,e2,a,h⟩;cases e;cases e2;exact h
end
end L2
namespace L2
open PySem PySem.Builtin PySem.Builtin.Str
def tx(l:List Nat):Str:=⟨l.toArray⟩
theorem vz(l:List Nat):(tx l).cps.toList=l:=by simp[tx]
theorem Js(x:Str):tx x.cps.toList=x:=by cases x;simp[tx]
theorem Es{a b:List Nat}(h:tx a=tx b):a=b:=by rw[← vz a,h,vz]
theorem gM(l:List Nat):(tx l).length=l.length:=by simp[tx,Str.length]
theorem vA(a b:List Nat):tx a++tx b=tx (a++b):=by
 refine Str.ext' ?_;rw[Str.cps_append];simp[tx]
theorem bA(a b:List Nat):decide (tx a=tx b)=decide (a=b):=by
 by_cases h:a=b
 . subst h;simp
 . have:¬ tx a=tx b:=λe=>h (Es e);rw[M2 h,M2 this]
def catL(c:Nat):List (List Nat)->List Nat
 | []=>[]
 | [x]=>x
 | x::y::r=>x++c::catL c (y::r)
theorem xj(c:Nat):∀ ts:List (List Nat),Str.join (tx [c]) (ts.map tx)=tx (catL c ts)
 | []=>rfl
 | [x]=>rfl
 | x::y::r=>by
  show tx x++tx [c]++Str.join (tx [c]) ((y::r).map tx)=_;rw[xj c (y::r),vA,vA];show tx _=tx (x++c::catL c (y::r));rw[Om];rfl
def FK(a:Str)(ts:List Str):Txt.join a ts=Str.join a ts:=StrLaws.glued_eq_join a ts
theorem B7{c:Nat}:∀{a b x y:List Nat},c∉a->c∉b->a++c::x=b++c::y->a=b/\x=y
 | [],[],_,_,_,_,h=>⟨rfl,by simpa using h⟩
 | [],b::bs,_,_,_,hb,h=>by
  simp at h;exact absurd (Ng.mpr (.inl h.1)) hb
 | a::as,[],_,_,ha,_,h=>by
  simp at h;exact absurd (Ng.mpr (.inl h.1.symm)) ha
 | a::as,b::bs,x,y,ha,hb,h=>by
  simp at h;have:=B7 (λz=>ha (Ni _ z)) (λz=>hb (Ni _ z)) h.2;exact⟨by rw[h.1,this.1],this.2⟩
theorem zZ{c:Nat}:∀{x:List Nat} {r:List (List Nat)} {y:List Nat},c∈catL c (x::y::r):=by
 intro x r y;show c∈x++c::_;simp
theorem z4{c:Nat}:∀{xs ys:List (List Nat)},xs≠[]->ys≠[]->(∀ x∈xs,c∉x)->(∀ y∈ys,c∉y)->catL c xs=catL c ys->xs=ys
 | [],_,h,_,_,_,_=>absurd rfl h
 | _,[],_,h,_,_,_=>absurd rfl h
 | [x],[y],_,_,_,_,h=>by
  have h':x=y:=h;rw[h']
 | [x],y::z::r,_,_,hx,_,h=>by
  have h':x=catL c (y::z::r):=h;exact absurd (h' ▸ zZ) (hx x Nh)
 | x::z::r,[y],_,_,_,hy,h=>by
  have h':catL c (x::z::r)=y:=h;exact absurd (h' ▸ zZ) (hy y Nh)
 | x::z::r,y::u::s,_,_,hx,hy,h=>by
  obtain⟨e1,e2⟩:=B7 (hx x Nh) (hy y Nh) (show x++c::catL c (z::r)=y++c::catL c (u::s) from h);rw[e1,z4 (by simp) (by simp) (λw hw=>hx w (Ni _ hw)) (λw hw=>hy w (Ni _ hw)) e2]
theorem FL(x y:Str):Txt.split x y≠[]:=by
 intro h;unfold Txt.split at h
 split at h
 . cases h
 . split at h
   . cases h
   . rw[StrLaws.partsBetween_eq]at h;obtain⟨p,r,e⟩:=StrLaws.partsFrom_ne x y.length 0 (occurrences x y 0 x.length (x.length+1));rw[e]at h;cases h
theorem FM{c:Nat}{MP:List (List Nat)}(a:MP≠[])(d:∀ r∈MP,c∉r):Txt.split (tx (catL c MP)) (tx [c])=MP.map tx:=by
 have h1:=StrLaws.join_split (tx (catL c MP)) (tx [c]);have h2:∀ p∈Txt.split (tx (catL c MP)) (tx [c]),c∉p.cps.toList:=StrLaws.split_free _ c;have h3:=FL (tx (catL c MP)) (tx [c]);generalize Txt.split (tx (catL c MP)) (tx [c])=S at*
 have e:S=(S.map (·.cps.toList)).map tx:=by
  rw[NH]
  conv=>lhs;rw[← QM S]
  exact OK λx _=>(Js x).symm
 rw[e,xj]at h1;have h4:=Es h1;have h5:=z4 (c:=c) (xs:=S.map (·.cps.toList)) (ys:=MP) (by simpa using h3) a (λx f=>by obtain⟨p,b,rfl⟩:=Nl.mp f;exact h2 p b) d h4;rw[e,h5]
end L2
namespace L2
end L2
namespace L2
open PySem PySem.Spec PyProof.Rows
local macro_rules|`(tactic|walk_at "w")=>wk9 ws1
local macro_rules|`(tactic|symm)=>`(tactic|walk_at "w")
section
variable{k:Nat}{tt:TT}{te:TE}{fin:Addr->Hp->Prop}{σ0:St}{H1:Hp}
theorem Et {cs:List Nat} (b:Nat->Bool) (f:Nat->V) (t:cs.length<=900)
  (z:∀ i c H R,cs[i]? =some c->Same H1 H->(∀ a,Same H a->R (b i) a)->tt (σ0.set k (some (.str (tx [c])))) H R)
  (A:∀ i c H Q,cs[i]? =some c->b i=true->Same H1 H->(∀ a,Same H a->Q (f i) a)->te (σ0.set k (some (.str (tx [c])))) H Q)
  (y:∀ l H,H1 l=none->Same H1 H->H l=↥(((List.range cs.length).filter b).map f)->fin l H):
  CompR (Its (tx cs)) (gName k) tt te fin σ0 H1:=by
 intro l q;have h:(tx cs).cps.size=cs.length:=by simp[tx]
 refine⟨λi m σ H=>m=cs.length-i/\i<=cs.length/\(σ=σ0\/∃ o,σ=σ0.set k o)/\Same H1 H/\H l=↥(((List.range i).filter b).map f),⟨cs.length,by simp,Oc _,.inl rfl,(M5 H1).laid q,by rw[ah];rfl⟩,?_⟩;rintro i m σ H ⟨rfl,D,u,s1,r⟩;by_cases d:i<cs.length
 . refine .inr ⟨by show i < (tx cs).cps.size;rw[h];exact d,λσ H=>(σ=σ0\/∃ o,σ=σ0.set k o)/\Same H1 H/\H l=↥(((List.range (i+1)).filter b).map f),λE a v=>⟨cs.length - (i+1),by lia,rfl,d,v⟩,?_⟩;rintro x a ⟨rfl,c,w,rfl⟩;have g:cs[i]? =some c:=by simpa [tx] using w
   show gName k (.str (tx [c])) σ a _;rw[aY]
   have e:σ.set k (some (.str (tx [c])))=σ0.set k (some (.str (tx [c]))):=by
    rcases u with rfl | ⟨o,rfl⟩
    . rfl
    . exact OD ..
   rw[e];refine z i c a _ g s1 λB n=>?_;have j:=n _ _ r
   cases p:b i with
   | false=>
    rw[Nt Nc];refine⟨.inr ⟨_,rfl⟩,s1.trans n,?_⟩;rw[Ob,NP,NX,p]
    simpa using j
   | true=>
    rw[NA rfl];refine A i c B _ g p (s1.trans n) λC s=>⟨_,s _ _ j,by rw[MZ];exact aC (Nk (mt b d t) #[1]),.inr ⟨_,rfl⟩,((s1.trans n).trans s).own q,?_⟩;rw[ah,Ob,NP,NX,p];simp
 . have e:i=cs.length:=by lia
   subst e;exact .inl ⟨by show(tx cs).cps.size<=_;rw[h];exact Nr _,y l H q s1 r⟩
end
theorem qG{α:Type}(xs:∅)(g:Int->α):(List.range xs.length).map (λi=>g (xs.getD i 0))=xs.map g:=by
 have e:xs=(List.range xs.length).map λi=>xs.getD i 0:=by
  refine OA λi=>?_;rw[M7];by_cases h:i<xs.length
  . rw[N8 h,M0 h];simp[List.getD,h]
  . rw[NI #[4],NI (by simpa using h)];rfl
 conv=>rhs;rw[e]
 rw[NH];rfl
theorem z5{a:Str}{ts:List Str}(h1:ts.length<=1000)(h2:∀ t∈ts,t.length<=1000)(h3:a.length<=10):JoinOk a ts=true:=by
 unfold JoinOk;rw[Od];refine StrLaws.joinFits (B:=1000) h2 ?_;have b:ts.length*1000<=1000*1000:=PK _ h1;have c:ts.length*a.length<=1000*10:=QN h1 h3;lia
abbrev rIsN:R2:=λx y H Q=>y=.non/\Q (.bl (decide (x=.non))) H
abbrev rNotN:R2:=λx y H Q=>y=.non/\Q (.bl (!decide (x=.non))) H
def kStr:List V->Hp->VK->Prop
 | [.int i],H,Q=>i.natAbs.log2<1920/\Q (.str (Str.ofString (toString i))) H
 | _,_,_=>False
section
variable{X:Cx}
theorem yj:CallR X (.type "str") kStr:=by
 intro e s σ H c d Q I r h;unfold kStr at h
 split at h
 . obtain⟨b,q⟩:=h
   cases r with
   | cons r0 a=>
    cases a;obtain⟨t,rfl⟩:=r0;exact PySem.P.str_of_int b ⟨.str _,H,I.tok _,⟨_,rfl⟩,q⟩
 . exact h.elim
end
section
variable{K:Frag}{H:Hp}{Q:VK}
theorem fT{x:V}:rIsN x .non H Q=Q (.bl (decide (x=.non))) H:=by simp[rIsN]
theorem dW{x:V}:rNotN x .non H Q=Q (.bl (!decide (x=.non))) H:=by simp[rNotN]
def fu{i:Int}:kStr [.int i] H Q=(i.natAbs.log2<1920/\Q (.str (Str.ofString (toString i))) H):=rfl
end
structure Bt2(mg:Str->Option Value):Prop extends Bt mg where
 all_:mg "all"=none
 sum_:mg "sum"=none
 enumerate_:mg "enumerate"=none
section
variable{K:Frag}{H:Hp}{Q:VK}{D:Ends}{σ:St}{g:TG}{tb:TS}{ta:TA}{ix:List (Option Nat)}{tt:TT}{te tf:TE}{k:Nat}
def fv:tIf tt te tf σ H Q=tt σ H λc a=>if c=true then te σ a Q else tf σ a Q:=rfl
def bI:tComp ix (sX ta) g tt te σ H Q=ta σ H λvs b=>∃ i j:Int,vs=[.int i,.int j]/\(-(2^62)<=i/\i<2^62/\ -(2^62)<=j/\j<2^62)/\CompR (Itr i (j-i).toNat) g tt te (λl a=>Q (.ref l) a) (subσ ix σ) b:=rfl
def bt:sComp k ix (sX ta) g tt te D σ H=ta σ H λvs b=>∃ i j:Int,vs=[.int i,.int j]/\(-(2^62)<=i/\i<2^62/\ -(2^62)<=j/\j<2^62)/\CompR (Itr i (j-i).toNat) g tt te (λl a=>D.nx (σ.set k ↑l) a) (subσ ix σ) b:=rfl
theorem isiE{x:V}{n t:String}{b:Bool}(d:mq H x=some t)(a:tm n=true)(c:isTy t n=b):kIsi [x,.ty n] H Q=Q (.bl b) H:=by
 subst c;show(tm n=true/\bnd (mq H x) λt=>Q (.bl (isTy t n)) H)=_;rw[d];simp only[a,true_and,bh]
def bJ{i:Int}:kIsi [.int i,.ty "int"] H Q=Q (.bl true) H:=isiE (t:="int") rfl #[1] #[1]
def bK{i:Int}:kIsi [.int i,.ty "bool"] H Q=Q (.bl false) H:=isiE (t:="int") rfl #[1] #[1]
def bL{i:Int}:kIsi [.int i,.ty "str"] H Q=Q (.bl false) H:=isiE (t:="int") rfl #[1] #[1]
def bM{i:Bool}:kIsi [.bl i,.ty "bool"] H Q=Q (.bl true) H:=isiE (t:="bool") rfl #[1] #[1]
def bN{i:Bool}:kIsi [.bl i,.ty "int"] H Q=Q (.bl true) H:=isiE (t:="bool") rfl #[1] #[1]
def bO{i:Str}:kIsi [.str i,.ty "str"] H Q=Q (.bl true) H:=isiE (t:="str") rfl #[1] #[1]
def bP{i:Bool}:kIsi [.bl i,.ty "str"] H Q=Q (.bl false) H:=isiE (t:="bool") rfl #[1] #[1]
def dg{A B:Prop}:(if true=true then A else B)=A:=NA rfl
def dh{A B:Prop}:(if false=true then A else B)=B:=Nt Nc
theorem dj{i:Int}:rU (λi=>.int (-i)) (.int i) H Q=Q (.int (-i)) H:=by
 refine propext ⟨?_,λh=>⟨i,rfl,h⟩⟩;rintro⟨j,e,h⟩;cases e;exact h
theorem ixT{p:Addr}{i:Int}{xs:List V}{v:V}(h:H p=some (.tup xs))(e:atI xs i=some v)(q:Q v H):cIx (.ref p) (.int i) H Q:=by
 rw[iJ h];exact ba e q
theorem ixL{p:Addr}{i:Int}{xs:List V}{v:V}(h:H p=↥xs)(e:atI xs i=some v)(q:Q v H):cIx (.ref p) (.int i) H Q:=by
 rw[Gm h];exact ba e q
def ixI{p:Addr}{i:Int}{ns:∅}(h:H p=↥(ns.map V.int))(h0:0<=i)(h1:i<ns.length)(q:Q (.int (ns.getD i.toNat 0)) H):cIx (.ref p) (.int i) H Q:=ixL h (uy h0 h1) q
end
def cMulB:R2
 | .int i,.int j,H,Q=>IntMulOk i j/\Q (.int (i*j)) H
 | _,_,_,_=>False
end L2
namespace Att
open PySem PySem.W PySem.Calls PyProof.Rows
end Att
namespace L2
open PySem PySem.Spec PyProof.Rows
section
variable{K:Frag}{H:Hp}{Q:VK}{D:Ends}{σ:St}
def JQ{i j:Int}:cMulB (.int i) (.int j) H Q=(IntMulOk i j/\Q (.int (i*j)) H):=rfl
def fU{i j:Int}:cPow (.int i) (.int j) H Q=(CPow i j/\Q (.int (i^j.toNat)) H):=rfl
def xk{ix:List (Option Nat)}{b:TE}{g:TG}{d:TT}{te:TE}:tComp ix (iTup K b) g d te σ H Q=b σ H λx c=>∃ a,x=.ref a/\(∃ xs,SqT K c a xs)/\CompR (Itt K a) g d te (λl e=>Q (.ref l) e) (subσ ix σ) c:=rfl
theorem CS{p:Addr}{bs:List Bool}(b:H p=↥(bs.map V.bl))(h:Q (.bl (bs.any id)) H):kAny [.ref p] H Q:=by
 show bnd (unL (H p)) _;rw[b];exact ba (a:=bs.map V.bl) rfl ⟨bs,rfl,h⟩
theorem rK{p q:Addr}{xs ys:List V}(c:H p=↥xs)(d:H q=↥ys)(b:xs.length+ys.length<=1000)(h:∀ r,H r=none->Q (.ref r) (upd H r (.lst (xs++ys)))):cAdd (.ref p) (.ref q) H Q:=by
 show bnd (unM (H p)) _;rw[c];refine ba (a:=xs) rfl ?_;rw[d];exact ba (a:=ys) rfl ⟨NU (aC b),h⟩
theorem z6 {g:TG} {o:TT} {te:TE} {a:Addr} {xs:List V} {h:Addr->Hp->Prop} {s:St} {f:Hp} (d:Addr->Nat->St->Hp->Prop) (h0:∀ l,f l=none->d l 0 s (upd f l (.lst []))) (u:∀ l i σ H,f l=none->i<=xs.length->d l i σ H->SqT K H a xs)
  (A:∀ l i x σ H,f l=none->xs[i]? =some x->d l i σ H->g x σ H λk v=>o k v λb n=>if b=true then te k n λy r=>∃ ys,r l=↥ys/\ys.length<sizeLine/\d l (i+1) k (upd r l (.lst (ys++[y]))) else d l (i+1) k n)
  (t:∀ l σ H,f l=none->d l xs.length σ H->h l H):CompR (Itt K a) g o te h s f:=by
 intro l c;refine⟨λi m σ H=>m=xs.length-i/\i<=xs.length/\d l i σ H,⟨xs.length,by simp,Oc _,h0 l c⟩,?_⟩;rintro i m σ H ⟨rfl,w,p⟩;have q:=u l i σ H c w p;by_cases j:i<xs.length
 . refine .inr ⟨⟨xs,xs[i],q,by simp[j]⟩,d l (i+1),λC B z=>⟨xs.length - (i+1),by lia,rfl,j,z⟩,λx B y=>?_⟩;obtain⟨e,y⟩:=y;subst e;exact A l i x σ _ c (y xs q) p
 . have e:i=xs.length:=by lia
   subst e;exact .inl ⟨⟨xs,q,Nr _⟩,t l σ H c p⟩
end
inductive RK where
 | Rule | Unlike | Sum | Rising | Seen | Count | Joined | NoSquare | Ring
 deriving DecidableEq
structure RCl (ι:Type) where
 A:ι->Addr
 ok:ι->Bool
section
variable{ι:Type}
def tFldK(c:RCl ι)(e:TE)(f:Str):TE:=λσ H Q=>e σ H λx d=>∃ a k g b v,x=.ref a/\c.ok k=true/\d a=some (.ins (c.A k) g b)/\b.lookup f=some v/\Q v d
def sFldK(c:RCl ι)(i h:TE)(f:Str):TS:=λD σ H=>h σ H λy g=>i σ g λx e=>∃ a k d b,x=.ref a/\c.ok k=true/\e a=some (.ins (c.A k) d b)/\b.length<1000/\
 D.nx σ (upd e a (.ins (c.A k) d (putF f y b)))
def aH(c:RCl ι)(b:ι->Bool)(m:Str)(sp:ι->Sp)(h:TE)(t:TA):TE:=λσ H Q=>h σ H λx e=>∃ a k f d,x=.ref a/\b k=true/\e a=some (.ins (c.A k) f d)/\d.lookup m=none/\
 t σ e λvs g=>sp k (x::vs) g Q E0
structure FldK(K:Frag)(c:RCl ι)(f:Str):Prop where
 ex:∀ k,c.ok k=true->Cls K (c.A k)/\NoAttr K (c.A k) f
structure MCal(P:Program)(w:World)(K:Frag)(mg:Str->Option Value)(base:Heap)(c:RCl ι)(okm:ι->Bool)(k:Nat)(m:Str)(ps:List Str)(sp:ι->Sp):Prop where
 ex:∀ i,okm i=true->∃(f:Addr) (fd:FuncData),Cls K (c.A i)/\Meth K (c.A i) m f/\FnOk P w K mg base CX0 k f fd ps (sp i)/\Binds K fd ps []
structure KCal(P:Program)(w:World)(K:Frag)(mg:Str->Option Value)(base:Heap)(k:Nat)(x:Str)(C:Addr)(ps:List Str)(sp:Sp):Prop where
 ex:∃(f:Addr) (fd:FuncData),Mk K C f/\FnOk P w K mg base CX0 k f fd ps sp/\mg x=↑C/\Binds K fd ps []
end
section
variable{ι:Type}{X:Cx}{c:RCl ι}{o e value:Expr}{es:List Expr}{f x m:Str}{p pos pos' apos:Pos}{ta tv:TE}{t:TA}{okm:ι->Bool}{k n:Nat}{ps:List Str}{sp:ι->Sp}{sp1:Sp}{C:Addr}
theorem br(n:PE X e ta)(F:FldK X.K c f)(i:attributeBase e f X.env (eval e X.env)=eval e X.env:=by rfl):PE X (.Attribute e f pos) (tFldK c ta f):=by
 intro t s σ H Q I h;refine GI i (thn (n t s σ H _ I h) λu s1 ⟨x,b,p,m,a,k,A,z,v,d,g,y,l,q⟩=>?_);subst d;obtain rfl:u=Value.ref a:=m;obtain⟨j,r⟩:=F.ex k g;exact CL p y j r l λB C o w=>⟨v,b,o,w,q⟩
theorem jn(w:PE X o ta)(A:PE X value tv)(F:FldK X.K c f)(B:swapsWith value (some (.Attribute o f pos')) pos.line X.env=pure false:=by rfl):PS X (.Assign [.Attribute o f pos'] value pos) (sFldK c ta tv f):=by
 intro b s σ H D I h;refine plainObj_wpAny_Assign_Attribute (thn (A b s σ H _ I h) λu s1 ⟨y,d,v,n,q⟩=>thn (w b s1 σ d _ v q) λe G ⟨x,M,i,t,a,k,L,E,j,m,z,l,r⟩=>?_) B;subst j;obtain rfl:e=Value.ref a:=t;obtain⟨g,C⟩:=F.ex k m;exact CM i z g C l n λJ p=>⟨σ,_,p,r⟩
def bV {pl:Sem Bool} (M:MCal X.prog X.w X.K X.mg X.base c okm k m ps sp) (D:Room n X.A) (E:k<=n) (S:PE X o ta) (P:PA X (e::es) t)
  (d:starEach (e::es) X.env=(false,eval e X.env)::starEach es X.env:=by rfl) (b:(backTo pos (starEach es X.env)).any (·.1)=false:=by rfl)
  (L:eval (.Call (.Attribute o m apos) (e::es) [] pos) X.env=(do
   let ov ← eval o X.env
   standAt apos.atName
   let (f,first) ← holding [ov] (getMethod ov m pl)
   callWith pos f first (backTo pos (starEach (e::es) X.env)) (backToKw pos (keywordEach [] X.env))):=by rfl):
  PE X (.Call (.Attribute o m apos) (e::es) [] pos) (aH c okm m sp ta t):=by
 intro v s σ H Q I h;refine QJ (pl:=pl) (thn (S v s σ H _ I h) λu s1 ⟨x,z,p,N,a,i,W,T,G,O,R,l,q⟩=>?_) L;subst G;obtain rfl:u=Value.ref a:=N;obtain⟨f,Y,C,j,F,B⟩:=M.ex i O;refine vf p R C j l ?_;refine P7 (first:=[.ref a]) (h₀:=X.base) I.ok.mod.kin j.kp (thn (P pos v s1 σ z _ p q) λy U ⟨vs,Z,g,r,J⟩=>⟨g.kIn,?_⟩) d b;exact zI (us:=.ref a::y) (vs:=.ref a::vs) F (D.mono E) B .nil zq g (.cons rfl r) (by rw[O3];exact J)
theorem aK {pl:Sem Bool} (M:MCal X.prog X.w X.K X.mg X.base c okm k m ps sp) (B:Room n X.A) (e:k<=n) (y:PE X o ta)
  (j:eval (.Call (.Attribute o m apos) [] [] pos) X.env=(do
   let ov ← eval o X.env
   standAt apos.atName
   let (f,first) ← holding [ov] (getMethod ov m pl)
   callWith pos f first (backTo pos (starEach [] X.env)) (backToKw pos (keywordEach [] X.env))):=by rfl):
  PE X (.Call (.Attribute o m apos) [] [] pos) (aH c okm m sp ta tNil):=by
 intro z s σ H Q I h;refine QJ (pl:=pl) (thn (y z s σ H _ I h) λu s1 ⟨x,E,b,t,a,i,G,D,g,v,C,l,q⟩=>?_) j;subst g;obtain rfl:u=Value.ref a:=t;obtain⟨f,J,r,d,F,p⟩:=M.ex i v;refine vf b C r d l ?_;exact PySem.W.callWith_K0 (first:=[.ref a]) b.kIn d.kp (zI (us:=[.ref a]) (vs:=[.ref a]) F (B.mono e) p .nil zq b (.cons rfl .nil) q)
theorem lZ (M:KCal X.prog X.w X.K X.mg X.base k x C ps sp1) (c:Room n X.A) (d:k+1<=n) (g:Gl X x) (l:PA X (e::es) t)
  (b:(x==("__debug__":Str))=false:=by decide) (i:starEach (e::es) X.env=(false,eval e X.env)::starEach es X.env:=by rfl) (a:(backTo pos (starEach es X.env)).any (·.1)=false:=by rfl):
  PE X (.Call (.Name x p) (e::es) [] pos) (tMake C sp1 [] E0 t):=by
 obtain⟨f,m,mk,F,j,h⟩:=M.ex;exact GK mk F (c.mono d) g j h .nil zq l b i a
end
def mw(K:Frag):List V->Hp->VK->Prop
 | [.ref p],H,Q=>bnd (unM (H p)) λys=>∀ l,H l=none->Q (.ref l) (upd H l (.tup ys))
 | _,_,_=>False
def tInG(b:List Str)(a:Bool)(te:TE):TE:=λσ H Q=>te σ H λx c=>∃ z,x=.str z/\Q (.bl (if a then !decide (z∈b) else decide (z∈b))) c
structure GTup(K:Frag)(mg:Str->Option Value)(x:Str)(ws:List Str):Prop where
 ex:∃(p:Addr) (o:Obj) (MS:Array Value) (n:Nat),mg x=↑p/\K.lookup p=some o/\o.cls=.type "tuple"/\o.data=.seq MS n/\MS.size<=sizeLine/\Vals (ws.map V.str) MS.toList
theorem jo:∀ ns:List Str,(ns.map V.str).all flatV=true
 | []=>rfl
 | n::r=>by rw[NK,PF,jo r];rfl
theorem kt(i:Str):∀ ns:List Str,inV (.str i) (ns.map V.str)=decide (i∈ns)
 | []=>by simp[inV]
 | n::r=>by
  have a:=kt i r;unfold inV at a ⊢;rw[NK,Ql,a];show((n==i)||decide (i∈r))=decide (i∈n::r);rw[ND,OS,O7,M4,M4,Ng];exact⟨λh=>h.elim (λe=>.inl e.symm) .inr,λh=>h.elim (λe=>.inl e.symm) .inr⟩
section
variable{X:Cx}{a:Expr}{ta:TE}{pos p:Pos}{x:Str}{ws:List Str}
theorem t4:CallR X (.type "tuple") (mw X.K):=by
 intro b s σ H d a Q I r h;unfold mw at h
 split at h
 . obtain⟨c,e,q⟩:=bf h;exact yO b s σ H _ a Q I r ⟨_,c,rfl,.inl ⟨Nm (jt e),q⟩⟩
 . exact h.elim
theorem Ip{ws:List Str}{q:Addr}(a:∃(o:Obj) (MS:Array Value) (n:Nat),X.K.lookup q=some o/\o.cls=.type "tuple"/\o.data=.seq MS n/\MS.size<=sizeLine/\Vals (ws.map V.str) MS.toList):
  OpR X (compareOp .In) (λx y H Q=>∃ z,x=.str z/\y=.ref q/\Q (.bl (decide (z∈ws))) H):=by
 intro b s σ H x y v u Q I c d h;obtain⟨z,rfl,rfl,h⟩:=h;refine nc b s σ H _ _ v u Q I c d ⟨q,ws.map V.str,rfl,.inr (.inr a),rfl,jo ws,?_⟩;rw[kt];exact h
theorem GV{ws:List Str}{q:Addr}(a:∃(o:Obj) (MS:Array Value) (n:Nat),X.K.lookup q=some o/\o.cls=.type "tuple"/\o.data=.seq MS n/\MS.size<=sizeLine/\Vals (ws.map V.str) MS.toList):
  OpR X (compareOp .NotIn) (λx y H Q=>∃ z,x=.str z/\y=.ref q/\Q (.bl (!decide (z∈ws))) H):=by
 intro b s σ H x y v u Q I c d h;obtain⟨z,rfl,rfl,h⟩:=h;refine rB b s σ H _ _ v u Q I c d ⟨q,ws.map V.str,rfl,.inr (.inr a),rfl,jo ws,?_⟩;rw[kt];exact h
end
section
variable{ι:Type}{c:RCl ι}{ta tv:TE}{t:TA}{f m:Str}{σ:St}{H:Hp}{Q:VK}{D:Ends}{okm:ι->Bool}{sp:ι->Sp}{sp1:Sp}{C:Addr}{K:Frag}
def dX:tMake C sp1 [] E0 t σ H Q=t σ H λvs b=>∀ x a,b x=none->b a=none->a≠x->sp1 (.ref x::(vs++[])) (upd (upd b a (.own x)) x (.ins C a [])) (λv c=>v=.non/\Q (.ref x) c) E0:=rfl
def fV{b:List Str}{a:Bool}{te:TE}:tInG b a te σ H Q=te σ H λx c=>∃ z,x=.str z/\Q (.bl (if a then !decide (z∈b) else decide (z∈b))) c:=rfl
theorem GW{p:Addr}{xs:List V}(a:H p=↥xs)(h:∀ l,H l=none->Q (.ref l) (upd H l (.tup xs))):mw K [.ref p] H Q:=by
 unfold mw;dsimp only;rw[a];exact h
end
def cntD(ns:∅):Nat:=(firstMet (λi=>ns.getD i 0) ns.length).length
def oY(te:TE):TE:=λσ H Q=>te σ H λx b=>∃ p a,x=.ref p/\b p=↥(a.map V.int)/\a.length<=900/\Q (.int (cntD a:Nat)) b
def bW{te:TE}{σ:St}{H:Hp}{Q:VK}:oY te σ H Q=te σ H λx a=>∃ p ns,x=.ref p/\a p=↥(ns.map V.int)/\ns.length<=900/\Q (.int (cntD ns:Nat)) a:=rfl
theorem GX:bootBuiltins "set"=some (.type "set"):=by decide+kernel
theorem rL {X:Cx} {e:Expr} {te:TE} {p g pos a:Pos} (L:X.calm=true) (k:Gl X "len") (m:Gl X "set") (K:X.mg "len"=none) (R:X.mg "set"=none) (P:PE X e te)
  (c:starEach [.Call (.Name "set" g) [e] [] a] X.env=[(false,eval (.Call (.Name "set" g) [e] [] a) X.env)]:=by rfl) (d:starEach [e] X.env=[(false,eval e X.env)]:=by rfl):
  PE X (.Call (.Name "len" p) [.Call (.Name "set" g) [e] [] a] [] pos) (oY te):=by
 intro B s σ H Q I h;refine Os (gj I k K aO ?_ #[1] #[1]);refine Py ?_ c rfl;rw[c];show wpAny _ _ (spliced [(false,eval (.Call (.Name "set" g) [e] [] a) X.env)]) _ _ s;refine O0 ?_;refine Os (gj I m R GX ?_ #[1] #[1]);refine N4 ?_ d rfl;rw[d];show wpAny _ _ (spliced [(false,eval e X.env)]) _ _ s;refine O0 (thn (P B s σ H _ I h) λu s1 ⟨x,y,A,r1,O⟩=>?_);refine O5 ?_;obtain⟨l,j,rfl,v,z,q⟩:=O;cases r1;obtain⟨w,n,C,D,Y⟩:=A.lst v;have M:s1.heap.IsList l w.toArray:=⟨_,D,rfl,n,rfl⟩;have G:IntsAre w j:=vg C;have f:=C.length;rw[MZ]at f;refine call_set_list (ns:=j) (I.ok.hd L) M (by simpa using G) (by rw[Nz,← f];exact Ot (Nat.succ_le_succ z) #[1]) λS N J r=>?_;refine O5 ?_;obtain⟨o,W,U,t,h1,h2,h3,h4,h5,h6,h7,h8⟩:=J;have T:(firstMet (λi=>j.getD i 0) w.toArray.size).length<=900:=Nk (firstMet_length_le _ _) (by rw[Nz,← f];exact z);refine call_len_set h1 h2 h3 h7 #[4] ?_;have E:Inv X B σ y {s1 with heap:=S,toks:=N}:=A.kept λb F e=>r b F (NC e) e;refine⟨.int _,y,E.tok _,⟨_,rfl⟩,?_⟩;rw[h8,Nz,← f];exact q
def rM:V->List V->Hp->VK->Prop
 | .str sep,[.ref p],H,Q=>bnd (unS (H p)) λys=>∃ ts:List Str,ys=ts.map V.str/\JoinOk sep ts=true/\Q (.str (Txt.join sep ts)) H
 | _,_,_,_=>False
theorem Eu{X:Cx}:MtR X "str.join" rM:=by
 intro D s σ H x vs v A Q I w r h;unfold rM at h
 split at h
 . rename_i i p
   obtain⟨C,e,B,rfl,c,q⟩:=bf h;rcases oW (K:=X.K) e with g | g
   . obtain⟨t,rfl⟩:=w;obtain⟨u,rfl,m⟩:=d4 r;cases m;obtain⟨z,b,j,y⟩:=I.list g;obtain⟨l,rfl,f⟩:=xf b;exact SC.join j.isList f c λd k=>⟨.str _,H,I.tok k,⟨d,rfl⟩,q⟩
   . obtain⟨t,rfl⟩:=w;obtain⟨u,rfl,m⟩:=d4 r;cases m;obtain⟨z,b,j,y⟩:=I.tuple g;obtain⟨l,rfl,f⟩:=xf b;subst f;obtain⟨o,h1,h2,n,h3⟩:=j;have a:=c;unfold JoinOk at a;rw[Od]at a;exact O1 F.slot_str_join (Pz _ _ _) F.entry_str_join (F.args_str_join_2 _ _) (meets_str_join_tuple i t p l a) ⟨⟨o,n,h1,h2,h3⟩,post_join l ⟨joinFit_length a,λd k=>⟨.str _,H,I.tok k,⟨d,rfl⟩,q⟩⟩⟩
 . exact h.elim
section
variable{X:Cx}{e:Expr}{te:TE}{p2 p3 p4 pos:Pos}{z0:Nat}
def vC:V->List V->Hp->VK->Prop
 | .ref l,[.int i],H,Q=>bnd (unM (H l)) λxs=>0<=i/\i<xs.length/\bnd (xs[i.toNat]?) λy=>Q y (upd H l (.lst (xs.eraseIdx i.toNat)))
 | _,_,_,_=>False
theorem seqIx{i:Int}{n:Nat}(h0:0<=i)(h1:i<n):seqIndex? i n=some i.toNat:=by
 obtain⟨k,rfl⟩:=Po h0;have b:k<n:=by lia
 unfold seqIndex?;have a:¬ ((k:Int)<0):=by lia
 simp[b,a]
theorem Ev:MtR X "list.pop" vC:=by
 intro g s σ H x vs v c Q I d b h;unfold vC at h
 split at h
 . obtain⟨a,e,h0,h1,h⟩:=bf h;obtain⟨y,f,q⟩:=bf h;have j:a.length<=sizeLine:=(I.lstM (jt e)).1;have i:(sizeLine:Int)<2^63:=by decide
   exact FB g s σ H _ _ v c Q I d b ⟨_,a,_,_,y,rfl,rfl,jt e,by lia,by lia,seqIx h0 h1,f,q⟩
 . exact h.elim
def tRevL(te:TE):TE:=λσ H Q=>te σ H λx a=>∃ p b,x=.ref p/\a p=↥b/\∀ l,a l=none->Q (.ref l) (upd a l (.lst b.reverse))
end
section
variable{σ:St}{H:Hp}{Q:VK}{te:TE}
def fW{i j:Int}{H:Hp}{Q:VK}:kMax [.int i,.int j] H Q=Q (.int (if j>i then j else i)) H:=rfl
def dY:tRevL te σ H Q=te σ H λx a=>∃ p xs,x=.ref p/\a p=↥xs/\∀ l,a l=none->Q (.ref l) (upd a l (.lst xs.reverse)):=rfl
theorem GY{l:Addr}{i:Int}{xs:List V}{y:V}(c:H l=↥xs)(h0:0<=i)(h1:i<xs.length)(b:xs[i.toNat]? =some y)(q:Q y (upd H l (.lst (xs.eraseIdx i.toNat)))):vC (.ref l) [.int i] H Q:=by
 show bnd (unM (H l)) _;rw[c];exact ba (a:=xs) rfl ⟨h0,h1,ba b q⟩
end
theorem CT:typeLookup (.type "str") (Str.ofString "__int__")=pure none:=by rw[QE,Px];kernel_rfl
theorem z7:typeLookup (.type "str") (Str.ofString "__index__")=pure none:=by rw[QE,Px];kernel_rfl
theorem Aa:typeLookup (.type "str") (Str.ofString "__trunc__")=pure none:=by rw[QE,Px];kernel_rfl
def numC(n:Nat):List Nat:=if n<10 then [48+n] else [48+n/10,48+n%10]
variable{n:Nat}
theorem Ew(h:n<100):((tx (numC n)).cps.all λx=>decide (x<128))=true:=by
 have t:((List.range 100).all λn=>(tx (numC n)).cps.all λx=>decide (x<128))=true:=by decide+kernel
 exact Na.mp t n (Nj.mpr h)
def Ex{α:Type}{M:Model}{A:Around}{E:Value->Shared->Prop}{s:Shared}{Q:α->Shared->Prop}{m m':Sem α}(e:m=m')(h:wpAny M A m' Q E s):wpAny M A m Q E s:=e ▸ h
def gis(n:Nat)(b:n<100)(u:Tok):Gives (Builtin.«int.__new__» ⟨[.type "int",.str (tx (numC n)) u],[]⟩) (.int n):=
 .of_wp λM A E s Q h=>by
  obtain⟨l,g,d,o,k⟩:=s;have j:=PySem.F.conv_sub_int;have e:=PySem.F.madeHere_int;have f:=CT;have i:=z7;have c:=Aa
  iterate 44 (any_goals (first | assumption | wp_step))
  refine NV (wpAny_of_eq (a:=some (tx (numC n))) rfl ?_);refine wpAny_of_eq (a:=some (numC n)) ?e1 ?_
  case e1=>
   show(pure (some (if ((tx (numC n)).cps.all λx=>decide (x<128))=true then(tx (numC n)).cps.toList else _)):Sem _)=_;rw[NA (Ew b),vz]
  refine Ex (m':=mkInt (n:Int)) ?e2 ?_
  case e2=>
   clear h j e f i c
   match n,b with |0,_|1,_|2,_|3,_|4,_|5,_|6,_|7,_|8,_|9,_|10,_|11,_|12,_|13,_|14,_|15,_|16,_|17,_|18,_|19,_|20,_|21,_|22,_|23,_|24,_|25,_|26,_|27,_|28,_|29,_|30,_|31,_|32,_|33,_|34,_|35,_|36,_|37,_|38,_|39,_|40,_|41,_|42,_|43,_|44,_|45,_|46,_|47,_|48,_|49,_|50,_|51,_|52,_|53,_|54,_|55,_|56,_|57,_|58,_|59,_|60,_|61,_|62,_|63,_|64,_|65,_|66,_|67,_|68,_|69,_|70,_|71,_|72,_|73,_|74,_|75,_|76,_|77,_|78,_|79,_|80,_|81,_|82,_|83,_|84,_|85,_|86,_|87,_|88,_|89,_|90,_|91,_|92,_|93,_|94,_|95,_|96,_|97,_|98,_|99,_=>kernel_rfl | (m+100),hm=>exact absurd hm #[0]
  repeat (any_goals (first | assumption | wp_step))
  all_goals first | exact⟨_,rfl,h⟩ | skip
def tq:List V->Hp->VK->Prop
 | [.int i],H,Q=>Q (.int i) H
 | [.bl k],H,Q=>Q (.int (if k then 1 else 0)) H
 | [.str z],H,Q=>∃ n:Nat,n<100/\z=tx (numC n)/\Q (.int n) H
 | _,_,_=>False
theorem CU{X:Cx}:CallR X (.type "int") tq:=by
 intro b s σ H e a Q I r h;unfold tq at h
 split at h
 . exact xZ b s σ H _ a Q I r (.inl ⟨_,rfl,h⟩)
 . exact xZ b s σ H _ a Q I r (.inr ⟨_,rfl,h⟩)
 . obtain⟨n,c,rfl,q⟩:=h;obtain⟨u,rfl,d⟩:=d4 r;obtain⟨t,rfl⟩:=d;exact call_int_1 (gis n c t).meets (show(Made.int (n:Int)).post _ s from⟨rfl,⟨.int n,H,I.tok _,⟨_,rfl⟩,q⟩⟩)
 . exact h.elim
def cS{k:Bool}{H:Hp}{Q:VK}:tq [.bl k] H Q=Q (.int (if k then 1 else 0)) H:=rfl
def cT{i:Int}{H:Hp}{Q:VK}:tq [.int i] H Q=Q (.int i) H:=rfl
theorem B8(h:n<100):Str.ofString (toString (n:Int))=tx (numC n):=by
 have t:((List.range 100).all λ(n:Nat)=>decide (Str.ofString (toString (n:Int))=tx (numC n)))=true:=by decide+kernel
 simpa using Na.mp t n (Nj.mpr h)
theorem uA(h:n<100):32∉numC n:=by
 have t:((List.range 100).all λ(n:Nat)=>decide (32∉numC n))=true:=by decide+kernel
 simpa using Na.mp t n (Nj.mpr h)
theorem Iq(h:n<100):numC n≠[]:=by unfold numC;split <;> simp
theorem tu:(numC n).length<=2:=by unfold numC;split <;> simp
theorem FN(h:n<100):((numC n).head? =some 48->n=0)/\numC 0=[48]:=by
 have t:((List.range 100).all λ(n:Nat)=>decide ((numC n).head? =some 48->n=0))=true:=by decide+kernel
 exact⟨Nb (Na.mp t n (Nj.mpr h)),rfl⟩
theorem B9(h:n<100):∀ c∈numC n,48<=c/\c<=57:=by
 have t:((List.range 100).all λ(n:Nat)=>(numC n).all λc=>decide (48<=c/\c<=57))=true:=by decide+kernel
 intro c a
 simpa using Na.mp (Na.mp t n (Nj.mpr h)) c a
local macro_rules|`(tactic|walk_at "w")=>wk9 ws1
local macro_rules|`(tactic|symm)=>`(tactic|walk_at "w")
def cP(K:Frag):Sp:=#[3,∃ a h w g,vs=[.ref a]/\IsFl H a h w g/\1<=h/\h<=6/\Q (.int (h*w)) H]
def lw(K:Frag):TS:=#[":jcVck0ef#0 ck0ef#1 "]
variable{K:Frag}{vs:List V}{H:Hp}{Q:VK}{E:XK}
theorem yP(h:cP K vs H Q E):lw K (eD9 Q) (start ["floor"] vs) H:=by
 obtain⟨a,h,w,g,rfl,b,h0,h1,q⟩:=h;exists lw;rw[iJ b];refine ba (a:=V.int h) rfl ?_;symm;rw[iJ b];refine ba (a:=V.int w) rfl ?_;exists⟨nh h0 h1,q⟩
def cornB(h w c:Int):Bool:=decide (c/w<h-1)&&decide (c%w<w-1)
def my(K:Frag):Sp:=#[3,∃ a h w g c,vs=[.ref a,.int c]/\IsFl H a h w g/\0<w/\w<100/\∀ b,Same H b->Q (.bl (cornB h w c)) b]
def mB(K:Frag):TS:=#[":gm,~?ba0a1dh#2 jLc<ck2ef#0 cOck0ef#0 ef#1 c<ck2ef#1 cOck0ef#1 ef#1 "]
theorem Ab(h:my K vs H Q E):mB K (eD9 Q) (start ["floor","cell","spot"] vs) H:=by
 obtain⟨a,h,w,g,c,rfl,f,i,j,k⟩:=h;exists mB;refine⟨a,h,w,g,c,rfl,f,i,j,λp l=>?_⟩;have s1:Same H (upd H p (.tup [.int (c/w),.int (c%w)])):=(M5 H).laid l;have k1:=k _ s1;have d:=s1 _ _ f;have b:(upd H p (.tup [.int (c/w),.int (c%w)])) p=some (.tup [.int (c/w),.int (c%w)]):=ah;generalize upd H p (.tup [.int (c/w),.int (c%w)])=H1 at*;symm;rw[iJ b];refine ba (a:=V.int (c/w)) rfl ?_;symm;rw[iJ d];refine ba (a:=V.int h) rfl ?_;symm;unfold cornB at k1
 cases e:decide (c/w<h-1) with
 | false=>
  rw[e,Nw]at k1;exact iteF k1
 | true=>
  rw[e,Nv]at k1;refine iteT ?_;rw[iJ b];refine ba (a:=V.int (c%w)) rfl ?_;symm;rw[iJ d];refine ba (a:=V.int w) rfl ?_;symm;exact k1
def sqL(w c:Int):∅:=[c,c+1,c+w,c+w+1]
def mC(K:Frag):Sp:=#[3,∃ a h w g c,vs=[.ref a,.int c]/\IsFl H a h w g/\∀ p,H p=none->Q (.ref p) (upd H p (.lst ((sqL w c).map V.int)))]
def mD(K:Frag):TS:=#[":gmcy1ck0ef#1 h#2 jsa1acy1ef#1 a2acy2ef#1 d"]
theorem Ac(h:mC K vs H Q E):mD K (eD9 Q) (start ["floor","corner","below"] vs) H:=by
 obtain⟨a,h,w,g,c,rfl,b,k⟩:=h;exists mD;rw[iJ b];refine ba (a:=V.int w) rfl ?_;exists⟨lnR rfl,k⟩
def squL(h w:Int):List ∅:=((List.range (h*w).toNat).filter λ(i:Nat)=>cornB h w i).map λ(i:Nat)=>sqL w i
def jw(K:Frag):Sp:=#[3,∃ a h w g,vs=[.ref a]/\IsFl H a h w g/\FlOk h w g/\
 ∀ l b c,Same H c->H l=none->IsLL c l b (squL h w)->b.Nodup->l∉b->(∀ a∈b,H a=none)->Q (.ref l) c]
def qh(K:Frag):TS:=#[":ju&--0 *a,~jba0ddh#1 A,'tba2a1d,'uba2a1d"]
def NewAt.ll{d:Hp}{l:Addr}{b:List Addr}{c:List ∅}(x:NewAt d H l b (c.map λxs=>.lst (xs.map V.int)))(e:H l=↥(b.map V.ref)):IsLL H l b c:=
 ⟨e,by rw[x.len,MZ],λj a xs h1 h2=>x.at_ j a _ h1 (by rw[M7,h2];rfl)⟩
theorem CV(h:jw K vs H Q E):qh K (eD9 Q) (start ["floor"] vs) H:=by
 obtain⟨a,h,w,g,rfl,e,F,k⟩:=h;obtain⟨h0,h1,A,B,t,z,v⟩:=F;have j:0<=h*w:=Pb #[4] #[4];exists qh;refine⟨a,h,w,g,rfl,e,h0,h1,?_⟩;exists⟨h*w,rfl,by lia,by lia,?_⟩;refine t3 (λ(i:Nat)=>cornB h w i) (λ(i:Nat)=>.lst ((sqL w i).map V.int)) #[4] ?_ ?_ ?_
 . intro i b R s s1 k1;show tB _ [none,⇑(0+(i:Int)),↑a] b R;symm;rw[Pe];exact⟨a,h,w,g,_,rfl,s1 _ _ e,by lia,by lia,λc d=>⟨_,rfl,k1 c d⟩⟩
 . intro i b u s y s1 k1;show tCall _ _ _ _ [none,⇑(0+(i:Int)),↑a] b u;symm;rw[Pe];exact⟨a,h,w,g,_,rfl,s1 _ _ e,λp m=>k1 p _ ((M5 b).laid m) m ah⟩
 . intro l f c q d o x
   have r:NewAt H c l f ((squL h w).map λn=>.lst (n.map V.int)):=by
    unfold squL;rw[NH];exact x
   exact k l f c d q (r.ll o) x.nd x.nl x.fr
def ws4:String:="aG dX fV bW dY cS cT fW fT dW fU if_true if_false Bool.false_eq_true decide_true decide_false cM cN fv bI bt cJ df cK bH dc de bG ft bJ bK bM bN bO bP bL dg dh dj cX fu Bool.not_true Bool.not_false aG "++ws1
local macro_rules|`(tactic|walk_at "w")=>wk9 ws4
def nmC:RK->List Nat
 | .Rule=>[]
 | .Unlike=>s!"unlike"
 | .Sum=>s!"sum"
 | .Rising=>s!"rising"
 | .Seen=>s!"seen"
 | .Count=>s!"count"
 | .Joined=>s!"joined"
 | .NoSquare=>s!"nosquare"
 | .Ring=>s!"ring"
def g8:List Str:=[tx s!"sum",tx s!"seen",tx s!"count"]
def gN:List Str:=[tx s!"count",tx s!"joined",tx s!"nosquare",tx s!"ring"]
def gH:List Str:=[tx s!"joined",tx s!"nosquare",tx s!"ring"]
def rFs(p W C:Addr)(n m:Int):List (Str × V):=[("floor",.ref p),("words",.ref W),("cells",.ref C),("amount",.int n),("mark",.int m)]
abbrev QZ:=RCl RK
structure IsRule(H:Hp)(c:QZ)(k:RK)(r p:Addr)(ws:List (List Nat))(cs:∅)(n m:Int):Prop where
 ok:c.ok k=true
 ex:∃ dx W C,H r=some (.ins (c.A k) dx (rFs p W C n m))/\H W=some (.tup ((ws.map tx).map V.str))/\H C=some (.tup (cs.map V.int))
variable{H:Hp}{c:QZ}{p:Addr}{cs:∅}
theorem IsRule.same{b:Hp}{k:RK}{r:Addr}{a:List (List Nat)}{n m:Int}(x:IsRule H c k r p a cs n m)(s:Same H b):IsRule b c k r p a cs n m:=by
 obtain⟨d,W,C,h1,h2,h3⟩:=x.ex;exact⟨x.ok,d,W,C,s _ _ h1,s _ _ h2,s _ _ h3⟩
section
variable{ι:Type}{c:RCl ι}{σ:St}{H:Hp}{Q:VK}{i:Nat}{r dx:Addr}{k:ι}{fs:List (Str × V)}{f m:Str}{v:V}{okm:ι->Bool}{sp:ι->Sp}{t:TA}{D:Ends}{tv:TE}{y:V}{H1:Hp}
def fldE(a:σ[i]? =some ↑r)(d:c.ok k=true)(b:H r=some (.ins (c.A k) dx fs))(e:fs.lookup f=some v)(q:Q v H):tFldK c (tVar i) f σ H Q:=kR a ⟨r,k,dx,fs,v,rfl,d,b,e,q⟩
def methE(b:σ[i]? =some ↑r)(f:okm k=true)(e:H r=some (.ins (c.A k) dx fs))(a:fs.lookup m=none)(q:t σ H λvs d=>sp k (.ref r::vs) d Q E0):aH c okm m sp (tVar i) t σ H Q:=kR b ⟨r,k,dx,fs,rfl,f,e,a,q⟩
def sfldV{j:Nat}{x:V}(d:σ[j]? =some (some x))(b:σ[i]? =some ↑r)(g:c.ok k=true)(e:H r=some (.ins (c.A k) dx fs))(a:fs.length<1000)(q:D.nx σ (upd H r (.ins (c.A k) dx (putF f x fs)))):sFldK c (tVar i) (tVar j) f D σ H:=
 kR d (kR b ⟨r,k,dx,fs,rfl,g,e,a,q⟩)
theorem sfldT {K:Frag} {j:Nat} {p:Addr} {xs:List V} (h:σ[j]? =some ↑p) (g:H p=↥xs) (e:σ[i]? =some ↑r) (m:c.ok k=true) (b:H r=some (.ins (c.A k) dx fs)) (d:fs.length<1000)
  (q:∀ l,H l=none->D.nx σ (upd (upd H l (.tup xs)) r (.ins (c.A k) dx (putF f (.ref l) fs)))):sFldK c (tVar i) (tCB (mw K) (tCons (tVar j) tNil)) f D σ H:=by
 unfold sFldK;exists kR h (GW g λl a=>?_);exact kR e ⟨r,k,dx,fs,rfl,m,by rw[aj (ax b a)];exact b,d,q l a⟩
end
variable{Q:VK}
theorem GZ{xs:List V}(a:H p=some (.tup xs))(h:∀ l,H l=none->Q (.ref l) (upd H l (.lst xs))):kList [.ref p] H Q:=by
 unfold kList;dsimp only;rw[a];exact h
theorem G0{a:Str}{ts:List Str}(c:H p=↥(ts.map V.str))(b:JoinOk a ts=true)(h:Q (.str (Txt.join a ts)) H):rM (.str a) [.ref p] H Q:=by
 unfold rM;dsimp only;rw[c];exact⟨ts,rfl,b,h⟩
variable{K:Frag}
theorem yn {a:Addr} {k:Nat} {s:TT} {te:TE} {h:Addr->Hp->Prop} {d:St} {c:Hp} {xs:∅} (b:Int->Bool) (f:Int->Int) (I:xs.length<=900) (C:c a=some (.tup (xs.map V.int)))
  (B:∀ x H R,x∈xs->Same c H->(∀ j,Same H j->R (b x) j)->s (d.set k ⇑x) H R)
  (E:∀ x H Q,x∈xs->b x=true->Same c H->(∀ j,Same H j->Q (.int (f x)) j)->te (d.set k ⇑x) H Q)
  (A:∀ l H,c l=none->Same c H->H l=↥(((xs.filter b).map f).map V.int)->h l H):CompR (Itt K a) (gName k) s te h d c:=by
 refine z6 (xs:=xs.map V.int) (λl i σ H=>(σ=d\/∃ u,σ=d.set k u)/\Same c H/\H l=↥((((xs.take i).filter b).map f).map V.int)) (λl g=>⟨.inl rfl,(M5 c).laid g,by rw[ah];rfl⟩) (λl i σ H _ _ p=>QY (p.2.1 _ _ C)) ?_ (λl σ H g p=>A l H g p.2.1 (by have:=p.2.2;rw[MZ,N6]at this;exact this));rintro l i x σ H g y ⟨w,s1,v⟩;obtain⟨z,o,rfl⟩:=aN y;have J:i<xs.length:=(M6.mp o).1;have r:xs.take (i+1)=xs.take i++[z]:=by rw[Pc,o];rfl
 rw[aY]
 have e:σ.set k ⇑z=d.set k ⇑z:=by
  rcases w with rfl | ⟨u,rfl⟩
  . rfl
  . exact OD ..
 rw[e];refine B z H _ (M8 o) s1 λF n=>?_;have m:=n _ _ v
 have D:((((xs.take i).filter b).map f).map V.int).length<sizeLine:=by
  rw[MZ,MZ];refine aC (Nk (Np b _) ?_);rw[Oa];lia
 cases q:b z with
 | false=>
  rw[Nt Nc];refine⟨.inr ⟨_,rfl⟩,s1.trans n,?_⟩;rw[r,NP,NX,q]
  simpa using m
 | true=>
  rw[NA rfl];refine E z F _ (M8 o) q (s1.trans n) λG t=>⟨_,t _ _ m,D,.inr ⟨_,rfl⟩,((s1.trans n).trans t).own g,?_⟩;rw[ah,r,NP,NX,q];simp
def xn(K:Frag)(c:QZ)(k:RK):Sp:=#[3,∃ r p w a cs n m,vs=[.ref r]/\IsRule H c k r p (w::a) cs n m/\Q (.str (tx w)) H]
def gO(K:Frag)(c:QZ)(k:RK):Sp:=#[3,∃ r p a cs n m,vs=[.ref r]/\IsRule H c k r p a cs n m/\∀ l,H l=none->Q (.ref l) (upd H l (.lst (cs.map V.int)))]
def jp(K:Frag)(c:QZ)(k:RK):Sp:=#[3,∃ r p a cs n m,vs=[.ref r]/\IsRule H c k r p a cs n m/\Q (.int n) H]
def jq(K:Frag)(c:QZ)(k:RK):Sp:=#[3,∃ r p a cs n m,vs=[.ref r]/\IsRule H c k r p a cs n m/\Q (.int m) H]
def sgAt(xs cs:∅):∅:=cs.map λc=>xs.getD c.toNat 0
def mkAt(xs cs:∅)(m:Int):∅:=cs.filter λc=>decide (xs.getD c.toNat 0=m)
def aL(cs:∅)(n:Nat):Prop:=cs.length<=63/\∀ c∈cs,0<=c/\c<n
def gu(K:Frag)(c:QZ)(k:RK):Sp:=#[3,∃ r p f d cs b n m,vs=[.ref r,.ref f]/\IsRule H c k r p d cs n m/\H f=↥(b.map V.int)/\aL cs b.length/\
 ∀ l a,Same H a->H l=none->a l=↥((sgAt b cs).map V.int)->Q (.ref l) a]
def jr(K:Frag)(c:QZ)(k:RK):Sp:=#[3,∃ r p f d cs b n m,vs=[.ref r,.ref f]/\IsRule H c k r p d cs n m/\H f=↥(b.map V.int)/\aL cs b.length/\
 ∀ l a,Same H a->H l=none->a l=↥((mkAt b cs m).map V.int)->Q (.ref l) a]
def risB:∅->Bool
 | x::y::r=>decide (x<y)&&risB (y::r)
 | _=>true
def seenN(xs:∅):Int × Int:=xs.foldl (λa x=>if a.1<x then(x,a.2+1) else a) (0,0)
noncomputable def joinB (h w:Int) (ms:∅):Bool:=@decide (ms=[]\/(ms.Pairwise (· < ·)/\∀ x∈ms,RC h w ms (ms.headD 0) x)) (Classical.propDecidable _)
def twoB(h w:Int)(ms:∅)(c:Int):Bool:=decide (((besL h w c).filter λy=>decide (y∈ms)).length=2)
noncomputable def hoB (k:RK) (h w:Int) (cs:∅) (n m:Int) (xs:∅):Bool:=match k with
 | .Unlike=>decide (cntD (sgAt xs cs)=(sgAt xs cs).length)
 | .Sum=>decide ((sgAt xs cs).sum=n)
 | .Rising=>risB (sgAt xs cs)
 | .Seen=>decide ((seenN (sgAt xs cs)).2=n)
 | .Count=>decide (((mkAt xs cs m).length:Int)=n)
 | .NoSquare=>!((squL h w).any λa=>a.all λc=>decide (c∈mkAt xs cs m))
 | .Joined=>joinB h w (mkAt xs cs m)
 | .Ring=>joinB h w (mkAt xs cs m)&&(mkAt xs cs m).all (twoB h w (mkAt xs cs m))
 | _=>true
def c7(K:Frag)(c:QZ)(k:RK):Sp:=#[3,∃ r p f d cs a n m h w g,vs=[.ref r,.ref f]/\IsRule H c k r p d cs n m/\IsFl H p h w g/\FlOk h w g/\H f=↥(a.map V.int)/\aL cs a.length/\(∀ x∈a,0<=x/\x<=1000)/\
 ∀ b,Same H b->Q (.bl (hoB k h w cs n m a)) b]
def jx(K:Frag)(c:QZ)(k:RK):Sp:=#[3,∃ r p C d cs a n m h w g,vs=[.ref r,.ref C]/\IsRule H c k r p d cs n m/\IsFl H p h w g/\FlOk h w g/\H C=↥(a.map V.int)/\a.length<=63/\
 ∀ b,Same H b->Q (.bl (joinB h w a)) b]
def hJ(K:Frag)(c:QZ)(k:RK):Sp:=#[3,∃ r p C d cs a n m h w g z,vs=[.ref r,.ref C,.int z]/\IsRule H c k r p d cs n m/\IsFl H p h w g/\FlOk h w g/\H C=↥(a.map V.int)/\a.length<=63/\
 ∀ b,Same H b->Q (.bl (twoB h w a z)) b]
def aR(K:Frag)(c:QZ):Sp:=#[3,∃ k x e p W C d cs n m,vs=[.ref x,.ref p,.ref W,.ref C,.int n,.int m]/\c.ok k=true/\H x=some (.ins (c.A k) e [])/\W≠x/\C≠x/\
 H W=↥((d.map tx).map V.str)/\H C=↥(cs.map V.int)/\∀ a,(∀ b o,b≠x->H b=some o->a b=some o)->IsRule a c k x p d cs n m->Q .non a]
def iL(K:Frag)(c:QZ):TS:=#[":g^i01/g^i0p~[ba2d~]g^i0p~[ba3d~Cg^i04~t^i05~S"]
variable{vs:List V}{E:XK}
theorem uB(h:aR K c vs H Q E):iL K c (eD9 Q) (start ["self","floor","words","cells","amount","mark"] vs) H:=by
 obtain⟨k,x,z,p,W,C,B,cs,n,m,rfl,d,A,w,u,y,t,q⟩:=h;exists iL;refine sfldV (k:=k) (j:=1) rfl rfl d A #[1] ?_;exists sfldT (k:=k) (j:=2) (p:=W) rfl (by rw[aj w];exact y) rfl d ah (by show(1:Nat)<1000;decide) λr h1=>?_;have a:r≠x:=λe=>by rw[e,ah]at h1;cases h1
 have s:H r=none:=by rw[aj a]at h1;exact h1
 exists sfldT (k:=k) (j:=3) (p:=C) rfl (by rw[aj u,aj (ax t s),aj u];exact t) rfl d ah (by show(2:Nat)<1000;decide) λl h2=>?_;have g:l≠x:=λe=>by rw[e,ah]at h2;cases h2
 have i:l≠r:=λe=>by rw[e,aj a,ah]at h2;cases h2
 have v:H l=none:=by rw[aj g,aj i,aj g]at h2;exact h2
 exists sfldV (k:=k) (j:=4) rfl rfl d ah (by show(3:Nat)<1000;decide) ?_;exists sfldV (k:=k) (j:=5) rfl rfl d ah (by show(4:Nat)<1000;decide) ?_;refine q _ (λb o f e=>?_) ⟨d,z,r,l,by rw[ah];rfl,?_,?_⟩
 . rw[aj f,aj f,aj f,aj (ax e v),aj f,aj (ax e s),aj f];exact e
 . rw[aj a,aj a,aj a,aj i.symm,aj a,ah]
 . rw[aj g,aj g,aj g,ah]
def rN(K:Frag)(c:QZ):Sp:=λvs H Q E=>∃ k,xn K c k vs H Q E
def mE(K:Frag)(c:QZ):TS:=#[":jckMi0~]ef#0 "]
theorem Ad(h:rN K c vs H Q E):mE K c (eD9 Q) (start ["self"] vs) H:=by
 obtain⟨k,r,p,w,a,cs,n,m,rfl,x,q⟩:=h;obtain⟨d,W,C,h1,h2,h3⟩:=x.ex;exists mE;refine fldE rfl x.ok h1 (v:=.ref W) (by rfl) ?_;symm;have b:atI (((w::a).map tx).map V.str) 0=some (V.str (tx w)):=gr (j:=0) rfl;exact ixT h2 b q
def qH(K:Frag)(c:QZ):Sp:=λvs H Q E=>∃ k,gO K c k vs H Q E
def lx(K:Frag)(c:QZ):TS:=#[":jp~aaMi0~Cd"]
theorem yQ(h:qH K c vs H Q E):lx K c (eD9 Q) (start ["self"] vs) H:=by
 obtain⟨k,r,p,b,cs,n,m,rfl,x,q⟩:=h;obtain⟨a,W,C,h1,h2,h3⟩:=x.ex;exists lx;refine fldE rfl x.ok h1 (v:=.ref C) (by rfl) ?_;exists GZ h3 q
def oZ(K:Frag)(c:QZ):Sp:=λvs H Q E=>∃ k,jp K c k vs H Q E
def ku(K:Frag)(c:QZ):TS:=#[":jMi0~t"]
theorem xo(h:oZ K c vs H Q E):ku K c (eD9 Q) (start ["self"] vs) H:=by
 obtain⟨k,r,p,b,cs,n,m,rfl,x,q⟩:=h;obtain⟨a,W,C,h1,h2,h3⟩:=x.ex;exists ku;exact fldE rfl x.ok h1 (v:=.int n) (by rfl) q
def rO(K:Frag)(c:QZ):Sp:=λvs H Q E=>∃ k,jq K c k vs H Q E
def mF(K:Frag)(c:QZ):TS:=#[":jMi0~S"]
theorem Ae(h:rO K c vs H Q E):mF K c (eD9 Q) (start ["self"] vs) H:=by
 obtain⟨k,r,p,b,cs,n,m,rfl,x,q⟩:=h;obtain⟨a,W,C,h1,h2,h3⟩:=x.ex;exists mF;exact fldE rfl x.ok h1 (v:=.int m) (by rfl) q
def mG(K:Frag)(c:QZ):Sp:=λvs H Q E=>∃ k,gu K c k vs H Q E
def iM(K:Frag)(c:QZ):TS:=#[":ju&--1 ~TbMi0~Ch#1 Gck21"]
theorem uC(h:mG K c vs H Q E):iM K c (eD9 Q) (start ["self","filling"] vs) H:=by
 obtain⟨k,r,p,f,w,cs,b,n,m,rfl,x,i,⟨s,g⟩,q⟩:=h;obtain⟨u,W,C,h1,h2,h3⟩:=x.ex;ac_nf;unfold iM;rw[b9,xk];refine fldE rfl x.ok h1 (v:=.ref C) (by rfl) ?_;refine⟨C,rfl,⟨_,QY h3⟩,?_⟩;refine yn (xs:=cs) (λ_=>true) (λc=>b.getD c.toNat 0) #[4] h3 ?_ ?_ ?_
 . intro x a R y s1 k1;exact k1 _ (M5 _)
 . intro z a j o t s1 k1;show tOp cIx _ _ [none,⇑z,↑f] a j;symm;have:=g z o;exact ixI (s1 _ _ i) this.1 #[4] (k1 _ (M5 _))
 . intro l a e s1 d;rw[bg]at d;exact q l a s1 e d
def mH(K:Frag):Sp:=#[3,∃ n:Nat,vs=[.str (tx (numC n))]/\n<100/\∀ a,Same H a->Q (.int n) a]
def mI(K:Frag):TS:=#[":gnPlcqb0evw=Plc>pza0def#9 ~blcqbck0ef#0 evw`0lcFb0evw`0je~uognSAp+au&-- 'v0h#1 GcJbB1evw`1dje~uojp'wa0d",[48],s!"0123456789"]
theorem Ir{c:Nat}(h0:48<=c)(h1:c<=57):(!(Builtin.Str.occurrences (tx s!"0123456789") ⟨#[c]⟩ 0 (tx s!"0123456789").length 1).isEmpty)=true:=by
 have t:((List.range 58).all λc=>!decide (48<=c)||!(Builtin.Str.occurrences (tx s!"0123456789") ⟨#[c]⟩ 0 (tx s!"0123456789").length 1).isEmpty)=true:=by decide+kernel
 have:=Na.mp t c (Nj.mpr #[4])
 simpa [h0] using this
theorem Af(h:mH K vs H Q E):mI K (eD9 Q) (start ["word"] vs) H:=by
 obtain⟨n,rfl,m,q⟩:=h;have g:=Iq m;have y:=tu (n:=n);ac_nf;unfold mI;rw[aG,aD];symm;rw[bA,M2 g];refine iteF ⟨by rw[gM];exact aP #[4],?_⟩;symm;rw[gM,M2 (show ¬ (9:Int) < ((numC n).length:Nat) by lia)];refine iteF ?_;rw[Jr,gM,vz]
 obtain⟨c,r,ec⟩:∃ c r,numC n=c::r:=by
  cases e:numC n with
  | nil=>exact absurd e g
  | cons c r=>exact⟨c,r,rfl⟩
 refine⟨aP #[4],ba (a:=c) (by rw[ec];exact gr (j:=0) rfl) ?_⟩;symm
 have e1:decide ((⟨#[c]⟩:Str)=tx [48])=decide (c=48):=by
  have:(⟨#[c]⟩:Str)=tx [c]:=rfl;rw[this,bA];simp
 rw[e1,bA]
 have e2:(decide (c=48)=true->decide (numC n=[48])=true):=by
  intro h;rw[M4]at h;have:=(FN m).1 (by rw[ec,h];rfl);subst this;decide
 have d:tSeq (tIfS (tNot (tB (tCB kAll (tCons (tComp [none,none] (iStr (tVar 0)) (gName 1) tTrue (tOp (cIn K false) (tVar 1) (tC (.str (tx s!"0123456789"))))) tNil)))) (tRet (tC .non)) tNext) (tRet (tCB tq (tCons (tVar 0) tNil)))
   (eD9 Q) [some (.str (tx (numC n)))] H:=by
  rw[aG,aD];exists Et (cs:=numC n) (λ_=>true) (λ_=>.bl true) #[4] ?_ ?_ ?_
  . intro i c f R k s1 k1;exact k1 _ (M5 _)
  . intro i c f t k s s1 k1;have p:=B9 m c (M8 k);show tOp (cIn K false) _ _ [none,some (.str (tx [c]))] f t;symm;have w:=k1 _ (M5 f);show t (.bl (if false=true then _ else !(Builtin.Str.occurrences (tx s!"0123456789") (tx [c]) 0 (tx s!"0123456789").length 1).isEmpty)) f;rw[Nt Nc,show tx [c]=⟨#[c]⟩ from rfl,Ir p.1 p.2];exact w
  . intro l f v s1 o
    have u:((List.range (numC n).length).filter λ_=>true).map (λ_=>V.bl true)=(List.replicate (numC n).length true).map V.bl:=by
     rw[bg,List.map_const',Og,List.map_replicate]
    rw[u]at o;refine kU o ?_
    have x:(List.replicate (numC n).length true).all id=true:=by
     rw[Na];intro b s;exact(List.mem_replicate.mp s).2
    rw[x];exists⟨n,m,rfl,q _ s1⟩
 cases k:decide (c=48) with
 | false=>
  refine iteF ?_;exact d
 | true=>
  refine iteT ?_;rw[e2 k];exact d
def fX(K:Frag):Sp:=#[3,∃ n b a,vs=[.str (tx (numC n)),.int b,.int a]/\n<100/\b<=n/\n<=a/\∀ c,Same H c->Q (.int n) c]
def iO(K:Frag):TS:=#[":gm,'xba0dh#3 gnPlc'y3e~uPlc<31lc>32Woj3"]
theorem uD(h:fX K vs H Q E):iO K (eD9 Q) (start ["word","least","most","number"] vs) H:=by
 obtain⟨n,c,b,rfl,a,h0,h1,q⟩:=h;exists iO;refine⟨n,rfl,a,λd s1=>?_⟩;symm;rw[aD];symm;rw[M2 (show ¬ V.int n=V.non from λe=>nomatch e)];refine iteF ?_;rw[M2 (show ¬ (n:Int)<c by lia)];refine iteF ?_;rw[M2 (show ¬ b < (n:Int) by lia)];refine iteF ?_;exists q _ s1
def WOk(a:List (List Nat)):Prop:=∀ w∈a,∀ c∈w,c<128
variable{w:List Nat}
def WOk.cons{b:List (List Nat)}(h:∀ c∈w,c<128)(d:WOk b):WOk (w::b):=λv a=>by
 rcases Ng.mp a with rfl | a
 . exact h
 . exact d v a
variable{n:Nat}
def xp(h:n<100):∀ c∈numC n,c<128:=λc a=>by have:=B9 h c a;omega
theorem Gp(h:∀ c∈w,c<128):PyData.strOk (tx w)=true:=by
 unfold PyData.strOk;simp[tx];intro c a;have:=h c a;lia
def WOk.strs{a:List (List Nat)}(h:WOk a):∀ x∈a.map tx,PyData.strOk x=true:=λx b=>by
 obtain⟨w,hw,rfl⟩:=Nl.mp b;exact Gp (h w hw)
def e9(K:Frag):Sp:=#[3,∃ p n b c a,vs=[.ref p,.int c,.int a]/\H p=↥(((numC n::b).map tx).map V.str)/\n<100/\WOk b/\c<=n/\n<=a/\∀ d,Same H d->Q (.int n) d]
def jy(K:Frag):TS:=#[":gnlcqb0sdWoj,~^back0ef#0 a1a2d"]
theorem DVs.strs{K:Frag}{H:Hp}:∀ ns:List Str,DVs K H (ns.map V.str) (ns.map PyData.str)
 | []=>.nil
 | n::r=>.cons (.str n) (DVs.strs r)
theorem yo(a b:Str):PyData.eqv (.str a) (.str b)=decide (a=b):=by
 rw[PyData.eqv];by_cases h:a=b
 . subst h;simp
 . simp[h]
theorem kW(ns:List Str)(b:∀ x∈ns,PyData.strOk x=true):SeqAt.shaped (.list (ns.map PyData.str))=true:=by
 have h1:PyData.canLayAll0 (ns.map PyData.str)=true:=xh λd a=>by obtain⟨x,c,rfl⟩:=Nl.mp a;rw[PyData.canLay0];exact b x c
 have h2:PyData.depthAll (ns.map PyData.str)<=0:=rH λd a=>by obtain⟨x,_,rfl⟩:=Nl.mp a;exact Nr _
 simp[SeqAt.shaped,PyData.canLay0,h1,PyData.depth];lia
variable{xs:List Str}
theorem Iu{q:Addr}{ys:List Str}(a:H p=↥(xs.map V.str))(b:H q=↥(ys.map V.str))(h1:∀ x∈xs,PyData.strOk x=true)(h2:∀ x∈ys,PyData.strOk x=true)(h:Q (.bl (decide (xs=ys))) H):cEq K (.ref p) (.ref q) H Q:=by
 show rEqD K (.ref p) (.ref q) H Q;refine⟨.list (xs.map PyData.str),.list (ys.map PyData.str),.lst (Nm a) (.strs xs),.lst (Nm b) (.strs ys),kW xs h1,kW ys h2,?_⟩;rw[PyData.eqv,xi PyData.str yo];exact h
theorem Iv{q:Addr}{ys:List Str}(a:H p=↥(xs.map V.str))(b:H q=↥(ys.map V.str))(h1:∀ x∈xs,PyData.strOk x=true)(h2:∀ x∈ys,PyData.strOk x=true)(h:Q (.bl (!decide (xs=ys))) H):cNe K (.ref p) (.ref q) H Q:=by
 show rNeD K (.ref p) (.ref q) H Q;refine⟨.list (xs.map PyData.str),.list (ys.map PyData.str),.lst (Nm a) (.strs xs),.lst (Nm b) (.strs ys),kW xs h1,kW ys h2,?_⟩;rw[PyData.eqv,xi PyData.str yo];exact h
theorem vD(h:e9 K vs H Q E):jy K (eD9 Q) (start ["words","least","most"] vs) H:=by
 obtain⟨p,n,f,c,e,rfl,b,a,hw,h0,h1,q⟩:=h;ac_nf;unfold jy;rw[aG,aD];exists⟨aP #[1],λl d=>?_⟩;have s1:Same H (upd H l (.lst [])):=(M5 H).laid d;refine Iu (s1 _ _ b) (ys:=[]) ah (WOk.strs (WOk.cons (xp a) hw)) (λx k=>nomatch k) ?_;generalize upd H l (.lst [])=H1 at*;symm;rw[M2 (by simp)];refine iteF ?_;symm;have g:atI (((numC n::f).map tx).map V.str) 0=some (V.str (tx (numC n))):=gr (j:=0) rfl;refine ixL (s1 _ _ b) g ?_;exists⟨n,c,e,rfl,a,h0,h1,λm i=>q _ (s1.trans i)⟩
theorem FO(a:∅)(v:Int):(step_dedup a v).length<=a.length+1:=by
 unfold step_dedup
 split <;> simp
theorem Ag:∀(l a:∅),(l.foldl step_dedup a).length<=a.length+l.length
 | [],a=>by simp
 | x::r,a=>by
  have h1:=Ag r (step_dedup a x);have h2:=FO a x;rw[Op,NJ];lia
theorem t5:∀(l c:∅),c.Nodup->((l.foldl step_dedup c).length=c.length+l.length↔(c++l).Nodup)
 | [],c,h=>by simpa using h
 | x::r,c,h=>by
  rw[Op];by_cases d:x∈c
  . have e:step_dedup c x=c:=by
     unfold step_dedup;rw[NA (by simpa using d)]
    rw[e];have:=Ag r c;constructor
    . intro z;rw[NJ]at z;lia
    . intro z;have:=(OF.mp z).2.2 x d x Nh;exact absurd rfl this
  . have e:step_dedup c x=c++[x]:=by
     unfold step_dedup;rw[Nt (by simpa using d)]
    rw[e];have g:(c++[x]).Nodup:=OF.mpr ⟨h,by simp,λa j b i z=>d (by rw[Nd.mp i]at z;exact z ▸ j)⟩;have f:=t5 r (c++[x]) g;rw[NG,Pw]at f;rw[NJ,show c.length+(r.length+1)=c.length+1+r.length by lia,show c++x::r=c++[x]++r by simp];exact f
theorem xq(ns:∅):(List.range ns.length).map (λi=>ns.getD i 0)=ns:=by
 have:=qG ns (λx=>x)
 simpa using this
theorem qi(ns:∅):cntD ns=ns.length↔ns.Nodup:=by
 unfold cntD firstMet;rw[xq];have:=t5 ns [] Pa
 simpa using this
def ly(K:Frag):Sp:=#[3,∃(a p:Addr) (h w g:Int) (b:List Nat),vs=[.ref a,.ref p]/\IsFl H a h w g/\FlOk h w g/\H p=↥(((b.map numC).map tx).map V.str)/\b≠[]/\b.length<=16/\(∀ n∈b,(n:Int)<h*w)/\b.Nodup/\
 ∀ l c,Same H c->H l=none->c l=↥((b.map λ(n:Nat)=>(n:Int)).map V.int)->Q (.ref l) c]
def lz(K:Frag):TS:=#[":g~v#2 &--0 tb1h#1 G,~^ba1aef#0 acO,~jba2def#1 dgnlcqb2sdWognlcFb~U2pza2dWoj2"]
variable{ns:List Nat}
theorem vE(h:ns.Nodup):(ns.map λ(n:Nat)=>(n:Int)).Nodup:=by
 induction ns with
 | nil=>exact Pa
 | cons a r ih=>
  rw[NY]at h;rw[NK,NY];refine⟨λz=>?_,ih h.2⟩;obtain⟨b,hb,e⟩:=Nl.mp z
  exact h.1 (by have:b=a:=by lia
                exact this ▸ hb)
theorem yR(h:ly K vs H Q E):lz K (eD9 Q) (start ["floor","words","cells"] vs) H:=by
 obtain⟨a,p,h,w,g,ns,rfl,A,F,r,m,o,k,j,q⟩:=h;obtain⟨h0,h1,M,N,B,J,G⟩:=F;exists lz;refine⟨⟨_,Nm r⟩,?_⟩;refine cH (xs:=((ns.map numC).map tx).map V.str) (λ_=>true) (λi=>.int (ns.getD i 0:Nat)) (by simp;lia) (Nm r) ?_ ?_ ?_
 . intro i x b R d s1 k1;exact k1 _ (M5 _)
 . intro i x b C d I s1 k1;rw[M7,M7,M7]at d
   cases e:ns[i]? with
   | none=>rw[e]at d;cases d
   | some n=>
    rw[e]at d;cases d;have L:=k n (M8 e);show tCall _ _ _ _ [none,some (.str (tx (numC n))),↑a] b C;exists⟨a,h,w,g,rfl,s1 _ _ A,h0,h1,?_⟩;exists⟨n,0,_,rfl,by lia,by lia,by lia,λD c=>?_⟩;have s:=k1 _ c;have t:ns.getD i 0=n:=by rw[List.getD,e];rfl
    rw[t]at s;exact s
 . intro l b u s1 f
   have v:((List.range (((ns.map numC).map tx).map V.str).length).filter λ_=>true).map (λi=>V.int (ns.getD i 0:Nat))=(ns.map λ(n:Nat)=>(n:Int)).map V.int:=by
    rw[bg,MZ,MZ,MZ,NH];refine OA λi=>?_;rw[M7,M7];by_cases h:i<ns.length
    . rw[N8 h,M0 h];simp[List.getD,h]
    . rw[NI (by simpa using h),NI #[4]];rfl
   rw[v]at f;symm;rw[aD];exists⟨aP #[1],λz y=>?_⟩;have c:Same b (upd b z (.lst [])):=(M5 b).laid y;refine vq (c _ _ f) (ys:=[]) ah ?_;generalize upd b z (.lst [])=D at*;symm;rw[M2 (by simpa using m)];refine iteF ?_;symm;rw[aD];exists⟨l,_,rfl,c _ _ f,by rw[MZ];lia,?_⟩;rw[a8 (c _ _ f),MZ];symm;rw[M3 (by rw[(qi _).mpr (vE j)])];refine iteF ?_;exists q l _ (s1.trans c) u (c _ _ f)
def allK:RK->Bool
 | .Joined=>true
 | .NoSquare=>true
 | .Ring=>true
 | _=>false
def numK:RK->Bool
 | .Sum=>true
 | .Seen=>true
 | .Count=>true
 | _=>false
def sgnK:RK->Bool
 | .Count=>true
 | .Joined=>true
 | .NoSquare=>true
 | .Ring=>true
 | _=>false
theorem Iw(k:RK):decide (tx (nmC k)∈gH)=allK k:=by cases k <;> decide+kernel
theorem Ix(k:RK):decide (tx (nmC k)∈g8)=numK k:=by cases k <;> decide+kernel
theorem Iy(k:RK):decide (tx (nmC k)∈gN)=sgnK k:=by cases k <;> decide+kernel
structure xt(k:RK)(h w:Int)(ns:List Nat)(cs:∅):Prop where
 told:allK k=false->ns≠[]/\ns.length<=16/\(∀ n∈ns,(n:Int)<h*w)/\ns.Nodup/\cs=ns.map λ(n:Nat)=>(n:Int)
 all:allK k=true->ns=[]/\cs=rngL 0 (h*w)
def ot(K:Frag):Sp:=#[3,∃ k a p h w g ns cs,vs=[.ref a,.str (tx (nmC k)),.ref p]/\IsFl H a h w g/\FlOk h w g/\H p=↥(((ns.map numC).map tx).map V.str)/\xt k h w ns cs/\(∀ n∈ns,n<100)/\
 ∀ l b,Same H b->H l=none->b l=↥(cs.map V.int)->Q (.ref l) b]
def ou(K:Frag):TS:=#[":gnA~w'zQ1j,'Aba0a2dognlcFb2sdWoj~Va,~jba0dd"]
theorem Bs(h:ot K vs H Q E):ou K (eD9 Q) (start ["floor","name","words"] vs) H:=by
 obtain⟨k,a,p,h,w,g,ns,cs,rfl,j,F,i,d,y,q⟩:=h;obtain⟨h0,h1,u,A,m,B,v⟩:=id F;have c:0<=h*w:=Pb #[4] #[4];ac_nf;unfold ou;rw[aG,aD];symm;rw[Iw]
 cases f:allK k with
 | false=>
  obtain⟨r,s,n,o,rfl⟩:=d.told f;exists⟨a,p,h,w,g,ns,rfl,j,F,i,r,s,n,o,q⟩
 | true=>
  obtain⟨rfl,rfl⟩:=d.all f;symm;rw[aD];exists⟨aP #[1],λz t=>?_⟩;have s1:Same H (upd H z (.lst [])):=(M5 H).laid t;refine Iv (xs:=[]) (ys:=[]) (s1 _ _ i) ah (λx b=>nomatch b) (λx b=>nomatch b) ?_;generalize upd H z (.lst [])=H1 at*;exists⟨a,h,w,g,rfl,s1 _ _ j,h0,h1,?_⟩;exists⟨h*w,rfl,by lia,by lia,λl e=>?_⟩;exact q l _ (s1.laid e) (s1.free e) ah
def qj(K:Frag)(c:QZ):Sp:=#[3,∃ k p W C b cs n m,vs=[.ref p,.ref W,.ref C,.int n,.int m]/\k≠.Rule/\c.ok k=true/\H W=↥(((nmC k::b).map tx).map V.str)/\H C=↥(cs.map V.int)/\
 ∀ r a,Same H a->H r=none->IsRule a c k r p (nmC k::b) cs n m->Q (.ref r) a]
def qk(K:Frag)(c:QZ):TS:=#[":gmck1ef#0 h#5 gnlcqb5evw`0j:~c'B~dbi=;a0a1a2a3a4dognlcqb5evw`1j:~c'C~dbi=;a0a1a2a3a4dognlcqb5evw`2j:~c'D~dbi=;a0a1a2a3a4dognlcqb5evw`3j:~c'E~dbi=;a0a1a2a3a4dognlcqb5evw`4j:~c'F~dbi=;a0a1a2a3a4dognlcqb5evw`5j:~c'G~dbi=;a0a1a2a3a4dognlcqb5evw`6j:~c'H~dbi=;a0a1a2a3a4dognlcqb5evw`7j:~c'I~dbi=;a0a1a2a3a4doW",s!"unlike",s!"sum",s!"rising",s!"seen",s!"count",s!"joined",s!"nosquare",s!"ring"]
theorem G1{k:RK}{W C:Addr}{j:List (List Nat)}{n m:Int}(u:c.ok k=true)(h:H W=↥((j.map tx).map V.str))(g:H C=↥(cs.map V.int))(q:∀ r f,Same H f->H r=none->IsRule f c k r p j cs n m->Q (.ref r) f):
  ∀ x d,H x=none->H d=none->d≠x->aR K c (.ref x::([.ref p,.ref W,.ref C,.int n,.int m]++[])) (upd (upd H d (.own x)) x (.ins (c.A k) d [])) (λv s=>v=.non/\Q (.ref x) s) E0:=by
 intro x d a i w;refine⟨k,x,d,p,W,C,j,cs,n,m,rfl,u,ah,ax h a,ax g a,?_,?_,λf l t=>⟨rfl,q x f (λb o e=>l b o (ax e a) ?_) a t⟩⟩
 . rw[aj (ax h a),aj (ax h i)];exact h
 . rw[aj (ax g a),aj (ax g i)];exact g
 . rw[aj (ax e a),aj (ax e i)];exact e
theorem CW(h:qj K c vs H Q E):qk K c (eD9 Q) (start ["floor","words","cells","amount","mark","name"] vs) H:=by
 obtain⟨k,p,W,C,o,cs,n,m,rfl,e,s,a,d,q⟩:=h;have mk:=G1 (K:=K) s a d q;have r:atI (((nmC k::o).map tx).map V.str) 0=some (V.str (tx (nmC k))):=gr (j:=0) rfl;exists qk;refine ixL a r ?_
 have D:∀(l:List Nat) (t:TS) (u:TS) (D:Ends) (b:Bool),decide (nmC k=l)=b->(if b=true then t D [↑p,↑W,↑C,⇑n,⇑m,some (.str (tx (nmC k)))] H else u D [↑p,↑W,↑C,⇑n,⇑m,some (.str (tx (nmC k)))] H)->
   tIfS (tTest (tOp (cEq K) (tVar 5) (tC (.str (tx l))))) t u D [↑p,↑W,↑C,⇑n,⇑m,some (.str (tx (nmC k)))] H:=λl t u D b g f=>by
  rw[aD];symm;rw[bA,g];exact f
 have R:∀(D:Ends),D.rt=Q->tRet (tMake (c.A k) (aR K c) [] E0 (tCons (tVar 0) (tCons (tVar 1) (tCons (tVar 2) (tCons (tVar 3) (tCons (tVar 4) tNil)))))) D [↑p,↑W,↑C,⇑n,⇑m,some (.str (tx (nmC k)))] H:=λD i=>by
  symm;rw[i];exact mk
 cases k with
 | Rule=>exact absurd rfl e
 | Unlike=>exact D _ _ _ _ true #[1] (iteT (R _ rfl))
 | Sum=>exact D _ _ _ _ false #[1] (iteF (D _ _ _ _ true #[1] (iteT (R _ rfl))))
 | Rising=>exact D _ _ _ _ false #[1] (iteF (D _ _ _ _ false #[1] (iteF (D _ _ _ _ true #[1] (iteT (R _ rfl))))))
 | Seen=>exact D _ _ _ _ false #[1] (iteF (D _ _ _ _ false #[1] (iteF (D _ _ _ _ false #[1] (iteF (D _ _ _ _ true #[1] (iteT (R _ rfl))))))))
 | Count=>exact D _ _ _ _ false #[1] (iteF (D _ _ _ _ false #[1] (iteF (D _ _ _ _ false #[1] (iteF (D _ _ _ _ false #[1] (iteF (D _ _ _ _ true #[1] (iteT (R _ rfl))))))))))
 | Joined=>exact D _ _ _ _ false #[1] (iteF (D _ _ _ _ false #[1] (iteF (D _ _ _ _ false #[1] (iteF (D _ _ _ _ false #[1] (iteF (D _ _ _ _ false #[1] (iteF (D _ _ _ _ true #[1] (iteT (R _ rfl))))))))))))
 | NoSquare=>exact D _ _ _ _ false #[1] (iteF (D _ _ _ _ false #[1] (iteF (D _ _ _ _ false #[1] (iteF (D _ _ _ _ false #[1] (iteF (D _ _ _ _ false #[1] (iteF (D _ _ _ _ false #[1] (iteF (D _ _ _ _ true #[1] (iteT (R _ rfl))))))))))))))
 | Ring=>exact D _ _ _ _ false #[1] (iteF (D _ _ _ _ false #[1] (iteF (D _ _ _ _ false #[1] (iteF (D _ _ _ _ false #[1] (iteF (D _ _ _ _ false #[1] (iteF (D _ _ _ _ false #[1] (iteF (D _ _ _ _ false #[1] (iteF (D _ _ _ _ true #[1] (iteT (R _ rfl))))))))))))))))
def rowW(k:RK)(n m:Nat)(ns:List Nat):List (List Nat):=nmC k::((if numK k then [numC n] else [])++(if sgnK k then [numC m] else [])++ns.map numC)
structure Ah(k:RK)(h w g:Int)(n m:Nat)(ns:List Nat)(cs:∅):Prop where
 k0:k≠.Rule
 n0:n<=99
 nz:numK k=false->n=0
 m0:sgnK k=true->1<=(m:Int)/\(m:Int)<=g
 mz:sgnK k=false->m=0
 cl:xt k h w ns cs
 ns0:∀ x∈ns,x<100
 len:ns.length<=16
def mJ(K:Frag)(c:QZ):Sp:=#[3,∃ k p h w g n m ns cs,vs=[.ref p,.str (tx (catL 32 (rowW k n m ns)))]/\IsFl H p h w g/\FlOk h w g/\Ah k h w g n m ns cs/\c.ok k=true/\
 ∀ r a,Same H a->H r=none->IsRule a c k r p (rowW k n m ns) cs n m->Q (.ref r) a]
def gI(K:Frag)(c:QZ):TS:=#[":j,'Jbia0a2a,'Kba0a3a4da5a6d"]
def jz(K:Frag)(c:QZ):TS:=#[":gmck2ef#0 h#3 gm?[2Yef#1 ~gh#4 gmef#0 h#5 gmef#0 h#6 gnA~w'LB3gm,'aba4aef#0 aef#99 dh#5 m?[4Yef#1 ~gh#4 ognA~w'MB3gm,'aba4aef#1 ack0ef#2 dh#6 m?[4Yef#1 ~gh#4 o'Nbi"]
def mK(K:Frag)(c:QZ):TS:=#[":gnSAp~ka1ae~l~WdWogmDb~W'O1aevw`0dh#2 'Pbi",[32]]
theorem G2(k:RK):32∉nmC k:=by cases k <;> decide
variable{m:Nat}
theorem Ey{k:RK}(b:n<100)(e:m<100)(d:∀ x∈ns,x<100):∀ r∈rowW k n m ns,32∉r:=by
 intro r a;unfold rowW at a;rcases Ng.mp a with rfl | a
 . exact G2 k
 rcases Ny.mp a with a | a
 . rcases Ny.mp a with a | a
   . split at a
     . rw[Nd.mp a];exact uA b
     . cases a
   . split at a
     . rw[Nd.mp a];exact uA e
     . cases a
 . obtain⟨x,c,rfl⟩:=Nl.mp a;exact uA (d x c)
theorem FP(xs:List V):cutV xs (some 1) none=xs.drop 1:=by
 unfold cutV;have h1:HT.sIx xs.length 0 (some 1)=min 1 xs.length:=HT.sIx_nat ..;have h2:HT.sIx xs.length xs.length none=xs.length:=rfl;rw[h1,h2]
 cases xs with
 | nil=>rfl
 | cons x r=>
  have:min 1 (x::r).length=1:=by simp
  rw[this];show(r).take _=r;rw[N0 (by simp)]
theorem ni {k:RK} {W R:Addr} {h w g:Int} {a:List (List Nat)} {o:V} (F:FlOk h w g) (u:IsFl H p h w g) (e:H W=↥(((nmC k::a).map tx).map V.str)) (f:H R=↥(((ns.map numC).map tx).map V.str)) (j:xt k h w ns cs) (i:∀ x∈ns,x<100) (k0:k≠.Rule) (y:c.ok k=true)
  (q:∀ r b,Same H b->H r=none->IsRule b c k r p (nmC k::a) cs n m->Q (.ref r) b):
  gI K c (eD9 Q) [↑p,some o,↑W,some (.str (tx (nmC k))),↑R,⇑n,⇑m] H:=by
 unfold gI;exists⟨k,p,R,h,w,g,ns,cs,rfl,u,F,f,j,i,λl z s1 A d=>?_⟩;exists⟨k,p,W,l,a,cs,n,m,rfl,k0,y,s1 _ _ e,d,λr s t v x=>q r s (s1.trans t) (s1.free v) x⟩
theorem Bu{k:RK}(h:ns.length<=16):(rowW k n m ns).length<=100/\∀ w∈rowW k n m ns,w.length<=100:=by
 unfold rowW;refine⟨?_,λw hw=>?_⟩
 . simp only[NJ,NG,MZ]
   split <;> split <;> simp <;> lia
 . rcases Ng.mp hw with rfl | hw
   . cases k <;> decide
   have h2:∀ x,(numC x).length<=100:=λx=>Nk tu #[1];rcases Ny.mp hw with hw | hw
   . rcases Ny.mp hw with hw | hw
     . split at hw
       . rw[Nd.mp hw];exact h2 _
       . cases hw
     . split at hw
       . rw[Nd.mp hw];exact h2 _
       . cases hw
   . obtain⟨x,a,rfl⟩:=Nl.mp hw;exact h2 _
theorem vF:∀(MP:List (List Nat)),(∀ r∈MP,r.length<=100)->(catL 32 MP).length<=101*MP.length
 | [],_=>Oc _
 | [x],h=>by
  have:=h x Nh;show x.length<=101*1;lia
 | x::y::r,h=>by
  have h1:=h x Nh;have b:=vF (y::r) λz a=>h z (Ni _ a);have e:catL 32 (x::y::r)=x++32::catL 32 (y::r):=by first | rfl | simp[catL]
  rw[e,NG,NJ,NJ];lia
theorem xu{x:Str}(a:H p=↥((x::xs).map V.str))(q:∀ l,H l=none->Q (.ref l) (upd H l (.lst (xs.map V.str)))):kr (.ref p) (some 1) none H Q:=by
 refine qd a λl b=>?_;rw[FP];exact q l b
theorem vG {k:RK} {W:Addr} {h w g:Int} {P:V} (F:FlOk h w g) (I:IsFl H p h w g) (z:H W=↥(((rowW k n m ns).map tx).map V.str)) (O:Ah k h w g n m ns cs) (S:c.ok k=true)
  (q:∀ r G,Same H G->H r=none->IsRule G c k r p (rowW k n m ns) cs n m->Q (.ref r) G):
  jz K c (eD9 Q) [↑p,some P,↑W,none,none,none,none] H:=by
 obtain⟨k0,n0,nz,M,X,L,f,Z⟩:=O;obtain⟨h0,h1,w0,w1,aa,g0,g1⟩:=id F;have U:atI (((rowW k n m ns).map tx).map V.str) 0=some (V.str (tx (nmC k))):=gr (j:=0) rfl;have t:WOk (ns.map numC):=λv d=>by obtain⟨x,hx,rfl⟩:=Nl.mp d;exact xp (f x hx)
 unfold jz;exists ixL z U ?_;exists xu z λR T=>?_;obtain⟨H1,Y,s1,y⟩:=aW (.lst ((((if numK k then [numC n] else [])++(if sgnK k then [numC m] else [])++ns.map numC).map tx).map V.str)) T;rw[Y];symm
 have u:∀{B:Hp} {A:Addr},Same H B->B A=↥((((if sgnK k then [numC m] else [])++ns.map numC).map tx).map V.str)->
   tSeq (tIfS (tB (tInG gN false (tVar 3))) (tSeq (tAsg (tCall (e9 K) [] E0 (tCons (tVar 4) (tCons (tC (.int 1)) (tCons (tOp cIx (tVar 0) (tC (.int 2))) tNil)))) (gName 6)) (tAsg (tSl kr (tVar 4) (tPart (tC (.int 1))) gq) (gName 4))) tNext) (gI K c) (eD9 Q)
    [↑p,some P,↑W,some (.str (tx (nmC k))),↑A,⇑n,⇑0] B:=by
  intro B A o a;rw[aG,aD];symm;rw[Iy]
  cases s:sgnK k with
  | false=>
   rw[s]at a;have:=X s;subst this;exists ni F (o _ _ I) (o _ _ z) a L f k0 S λr b i C x=>q r b (o.trans i) (o.free C) x
  | true=>
   rw[s]at a;have N:=M s;exists ixT (o _ _ I) (v:=V.int g) rfl ?_;exists⟨A,m,ns.map numC,1,g,rfl,a,by lia,t,N.1,N.2,λb i=>?_⟩;exists xu (i _ _ a) λJ l=>?_;have D:Same b (upd b J (.lst (((ns.map numC).map tx).map V.str))):=(M5 b).laid l;have e:=(o.trans i).trans D;exact ni F (e _ _ I) (e _ _ z) ah L f k0 S λr H5 s5 C x=>q r H5 (e.trans s5) (e.free C) x
 rw[aD];symm;rw[Ix]
 cases E:numK k with
 | false=>
  rw[E]at y;have:=nz E;subst this;exists u s1 y
 | true=>
  rw[E]at y;exists⟨R,n,(if sgnK k then [numC m] else [])++ns.map numC,0,99,rfl,y,by lia,?_,by lia,by lia,λb i=>?_⟩
  . intro v d;rcases Ny.mp d with d | d
    . split at d
      . rename_i s
        have:=M s;rw[Nd.mp d];exact xp #[4]
      . cases d
    . exact t v d
  exists xu (i _ _ y) λJ l=>?_;have D:Same b (upd b J (.lst ((((if sgnK k then [numC m] else [])++ns.map numC).map tx).map V.str))):=(M5 b).laid l;exists u ((s1.trans i).trans D) ah
theorem Ai(h:mJ K c vs H Q E):mK K c (eD9 Q) (start ["floor","line","words","name","rest","amount","mark"] vs) H:=by
 obtain⟨k,p,h,w,g,n,m,ns,cs,rfl,o,F,O,t,q⟩:=h
 have l:m<100:=by
  by_cases e:sgnK k=true
  . have:=(O.m0 e).2;have:=F.g1;lia
  . have:=O.mz (by simpa using e);lia
 have a:Txt.split (tx (catL 32 (rowW k n m ns))) (tx [32])=(rowW k n m ns).map tx:=FM (by simp[rowW]) (Ey (by have:=O.n0;lia) l O.ns0);have d:=Bu (k:=k) (n:=n) (m:=m) O.len;have b:=vF _ d.2;ac_nf;unfold mK;rw[aG,aD];exists⟨Gn,?_⟩;rw[GS,a];refine⟨by rw[gM];decide,by rw[gM];exact NU (Ot b (Ot (Nat.mul_le_mul_left 101 d.1) #[1])),by rw[MZ];exact aP #[4],λW f=>?_⟩;have s1:Same H (upd H W (.lst (((rowW k n m ns).map tx).map V.str))):=(M5 H).laid f;exact vG F (s1 _ _ o) ah O t λr i j s x=>q r i (s1.trans j) (s1.free s) x
theorem yp{α β:Type}(f:α->β):∀(l:List α) (j:Nat),(l.map f).eraseIdx j=(l.eraseIdx j).map f
 | [],_=>rfl
 | _::_,0=>rfl
 | x::r,j+1=>by
  show f x::(r.map f).eraseIdx j=f x::(r.eraseIdx j).map f;rw[yp f r j]
theorem vH{α:Type}:∀(l:List α) (j:Nat) (h:j<l.length),(l[j]::l.eraseIdx j).Perm l
 | [],_,h=>absurd h (by simp)
 | x::r,0,_=>List.Perm.refl _
 | x::r,j+1,h=>by
  have b:j<r.length:=by simpa using h
  have a:=vH r j b;show(r[j]::x::r.eraseIdx j).Perm (x::r);exact(List.Perm.swap x r[j] (r.eraseIdx j)).trans (List.Perm.cons x a)
theorem rP{α β:Type}(f:α->β):∀{l:List α},(l.map f).Nodup->l.Nodup
 | [],_=>Pa
 | a::r,h=>by
  rw[NK,NY]at h;rw[NY];exact⟨λz=>h.1 (Nl.mpr ⟨a,z,rfl⟩),rP f h.2⟩
theorem Ez(n:Int):(rngL 0 n).Nodup:=by
 unfold rngL;have e:(List.range (n-0).toNat).map (λ(k:Nat)=>0+(k:Int))=(List.range (n-0).toNat).map λ(k:Nat)=>(k:Int):=OK λk _=>by lia
 rw[e];exact vE Qp
theorem o0{n x:Int}(h:x∈rngL 0 n):0<=x/\x<n:=by
 unfold rngL at h;obtain⟨k,a,rfl⟩:=Nl.mp h;have:=Nj.mp a;lia
def nk(K:Frag)(c:QZ):Sp:=c7 K c .Unlike
def jA(K:Frag)(c:QZ):TS:=#[":gmxiC~D~Ebi0a1dh#2 jcqb~U2pza2d"]
theorem vI(h:nk K c vs H Q E):jA K c (eD9 Q) (start ["self","filling","signs"] vs) H:=by
 obtain⟨r,p,f,j,cs,xs,n,m,h,w,g,rfl,x,v,F,i,d,t,q⟩:=h;obtain⟨s,W,C,h1,h2,h3⟩:=x.ex;exists jA;refine methE rfl x.ok h1 (by rfl) ?_;exists⟨r,p,f,j,cs,xs,n,m,rfl,x,i,d,λl k s1 o b=>?_⟩;have u:(sgAt xs cs).length<=100:=by unfold sgAt;rw[MZ];exact Nk d.1 #[1]
 exists⟨l,_,rfl,b,by lia,?_⟩;symm;rw[a8 b,MZ];symm;have a:=q _ s1;unfold hoB at a;dsimp only at a
 have e:decide (((cntD (sgAt xs cs):Nat):Int)=((sgAt xs cs).length:Nat))=decide (cntD (sgAt xs cs)=(sgAt xs cs).length):=by
  rw[ND,M4,M4];lia
 rw[e];exact a
theorem Ca(h:n<100):((n:Int)).natAbs.log2<1920:=by
 have t:((List.range 100).all λn=>decide (n.log2<1920))=true:=by decide+kernel
 have:=Na.mp t n (Nj.mpr h)
 simpa using this
theorem G3(h:n<100)(q:Q (.str (tx (numC n))) H):kStr [.int (n:Int)] H Q:=by
 refine⟨Ca h,?_⟩;rw[B8 h];exact q
theorem EA {C:Addr} {cs:List Nat} {d:Addr->Hp->Prop} (m:H C=↥((cs.map λ(n:Nat)=>(n:Int)).map V.int)) (s:cs.length<=100) (p:∀ c∈cs,c<100)
  (q:∀ l g,H l=none->Same H g->g l=↥(((cs.map numC).map tx).map V.str)->d l g):CompR (Itl K C) (gName 1) tTrue (tCB kStr (tCons (tVar 1) tNil)) d [none,none] H:=by
 refine cH (xs:=(cs.map λ(n:Nat)=>(n:Int)).map V.int) (λ_=>true) (λi=>.str (tx (numC (cs.getD i 0)))) (by simp;lia) (Nm m) ?_ ?_ ?_
 . intro i x a R b s1 k1;exact k1 _ (M5 _)
 . intro i x a j b t s1 k1;rw[M7,M7]at b
   cases e:cs[i]? with
   | none=>rw[e]at b;cases b
   | some n=>
    rw[e]at b;cases b;show tCB kStr _ [none,⇑(n:Int)] a j;symm;have k:=k1 _ (M5 a);have r:cs.getD i 0=n:=by rw[List.getD,e];rfl
    rw[r]at k;have:=G3 (H:=a) (Q:=j) (p n (M8 e)) k;exact this
 . intro l a f s1 o;refine q l a f s1 ?_;rw[o,bg,MZ,MZ,NH,NH]
   congr 2
   refine OA λi=>?_;rw[M7,M7];by_cases h:i<cs.length
   . rw[N8 h,M0 h];simp[List.getD,h]
   . rw[NI (by simpa using h),NI #[4]];rfl
section
variable{X:Cx}{a:Expr}{ta:TE}{pos p:Pos}{x:Str}{ws:List Str}
theorem vJ(G:GTup X.K X.mg x ws)(j:PE X a ta)(f:Gl X x)(c:(x==("__debug__":Str))=false:=by decide)(g:behindInMarks .In (.Name x p)=false:=by with_unfolding_all rfl):PT X (.Compare a [.In] [.Name x p] pos) (tB (tInG ws false ta)):=by
 obtain⟨q,o,l,n,h1,h2⟩:=G.ex;have h0:=ao (pos:=pos) (Ip ⟨o,l,n,h2⟩) j (dQ (v:=V.ref q) f h1 rfl c) g;intro i s σ H Q I h;refine h0 i s σ H Q I ?_
 have e:(λ(x:V) (b:Hp)=>∃ z,x=.str z/\∃ k,V.bl (if false=true then !decide (z∈ws) else decide (z∈ws))=.bl k/\Q k b)=λx b=>∃ z,x=.str z/\(V.ref q=V.ref q)/\∃ k,V.bl (decide (z∈ws))=.bl k/\Q k b:=by
  funext x b;simp
 have d:ta σ H (λ(x:V) (b:Hp)=>∃ z,x=.str z/\∃ k,V.bl (if false=true then !decide (z∈ws) else decide (z∈ws))=.bl k/\Q k b):=h;rw[e]at d;exact d
theorem G4(G:GTup X.K X.mg x ws)(j:PE X a ta)(f:Gl X x)(c:(x==("__debug__":Str))=false:=by decide)(g:behindInMarks .NotIn (.Name x p)=false:=by with_unfolding_all rfl):PT X (.Compare a [.NotIn] [.Name x p] pos) (tB (tInG ws true ta)):=by
 obtain⟨q,o,l,n,h1,h2⟩:=G.ex;have h0:=ao (pos:=pos) (GV ⟨o,l,n,h2⟩) j (dQ (v:=V.ref q) f h1 rfl c) g;intro i s σ H Q I h;refine h0 i s σ H Q I ?_
 have e:(λ(x:V) (b:Hp)=>∃ z,x=.str z/\∃ k,V.bl (if true=true then !decide (z∈ws) else decide (z∈ws))=.bl k/\Q k b)=λx b=>∃ z,x=.str z/\(V.ref q=V.ref q)/\∃ k,V.bl (!decide (z∈ws))=.bl k/\Q k b:=by
  funext x b;simp
 have d:ta σ H (λ(x:V) (b:Hp)=>∃ z,x=.str z/\∃ k,V.bl (if true=true then !decide (z∈ws) else decide (z∈ws))=.bl k/\Q k b):=h;rw[e]at d;exact d
end
inductive PzK where
 | Puzzle
 deriving DecidableEq
structure RR where
 k:RK
 n:Nat
 m:Nat
 ns:List Nat
 cs:∅
def RR.ws(r:RR):List (List Nat):=rowW r.k r.n r.m r.ns
def RR.txt(r:RR):Str:=tx (catL 32 r.ws)
def RR.Ok(r:RR)(h w g:Int):Prop:=Ah r.k h w g r.n r.m r.ns r.cs
structure IsRules(H:Hp)(c:QZ)(p L:Addr)(rs:List Addr)(MP:List RR):Prop where
 top:H L=↥(rs.map V.ref)
 len:rs.length=MP.length
 at_:∀(i:Nat) (r:Addr) (x:RR),rs[i]? =some r->MP[i]? =some x->IsRule H c x.k r p x.ws x.cs x.n x.m
variable{H:Hp}{c:QZ}{p:Addr}{rs:List Addr}{MP:List RR}
def IsRules.same{a:Hp}{L:Addr}(x:IsRules H c p L rs MP)(s:Same H a):IsRules a c p L rs MP:=
 ⟨s _ _ x.top,x.len,λi r y h1 h2=>(x.at_ i r y h1 h2).same s⟩
variable{cs:∅}{o:HO}
theorem IsRule.lst{k:RK}{r a:Addr}{d:List (List Nat)}{n m:Int}{xs:List V}(x:IsRule H c k r p d cs n m)(b:H a=↥xs):IsRule (upd H a o) c k r p d cs n m:=by
 obtain⟨f,W,C,h1,h2,h3⟩:=x.ex;refine⟨x.ok,f,W,C,?_,?_,?_⟩
 . rw[aj (λe=>by rw[e,b]at h1;cases h1)];exact h1
 . rw[aj (λe=>by rw[e,b]at h2;cases h2)];exact h2
 . rw[aj (λe=>by rw[e,b]at h3;cases h3)];exact h3
def pFs(p L G:Addr):List (Str × V):=[("floor",.ref p),("laws",.ref L),("given",.ref G)]
structure iw(c:QZ)(h w g:Int)(MP:List RR):Prop where
 F:FlOk h w g
 n:MP.length<=12
 ok:∀ r∈MP,r.Ok h w g
 c:∀ r∈MP,c.ok r.k=true
structure CluesOk(h w g:Int)(cl:∅):Prop where
 len:cl.length=(h*w).toNat
 ok:∀ x∈cl,0<=x/\x<=g
abbrev Q0:=RCl PzK
structure IsPz(H:Hp)(c:QZ)(d:Q0)(P L G:Addr)(h w g:Int)(MP:List RR)(cl:∅):Prop where
 ok:d.ok .Puzzle=true
 R:iw c h w g MP
 C:CluesOk h w g cl
 gv:H G=↥(cl.map V.int)
 ex:∃ dx p rs,H P=some (.ins (d.A .Puzzle) dx (pFs p L G))/\IsFl H p h w g/\IsRules H c p L rs MP
variable{d:Q0}{cl:∅}
theorem IsPz.same{a:Hp}{P L G:Addr}{h w g:Int}(x:IsPz H c d P L G h w g MP cl)(s:Same H a):IsPz a c d P L G h w g MP cl:=by
 obtain⟨b,p,rs,h1,h2,h3⟩:=x.ex;exact⟨x.ok,x.R,x.C,s _ _ x.gv,b,p,rs,s _ _ h1,s _ _ h2,h3.same s⟩
def iy(K:Frag):Sp:=#[3,∃ i:Int,vs=[.int i]/\Q (.bl true) H]
def ow(K:Frag):TS:=#[":jLp~ka0ae~l~Xd~Yp~ka0ae~l'Qd"]
variable{K:Frag}{vs:List V}{Q:VK}{E:XK}
theorem Bv(h:iy K vs H Q E):ow K (eD9 Q) (start ["value"] vs) H:=by
 obtain⟨i,rfl,q⟩:=h;exists ow;exact q
def cO(K:Frag):Sp:=#[3,∃ i m:Int,vs=[.int i,.int m]/\Q (.bl (decide (1<=i)&&decide (i<=m))) H]
def hV(K:Frag):TS:=#[":jL,~Zba0dLc(ef#1 0c(01"]
theorem tF(h:cO K vs H Q E):hV K (eD9 Q) (start ["value","most"] vs) H:=by
 obtain⟨i,m,rfl,q⟩:=h;exists hV;refine⟨i,rfl,⟨true,rfl,iteT ?_⟩⟩;symm
 cases a:decide (1<=i) with
 | false=>
  rw[a,Nw]at q;exact iteF q
 | true=>
  rw[a,Nv]at q;exact iteT q
def ox(K:Frag):Sp:=#[3,∃ h w g:Int,vs=[.int h,.int w,.int g]/\FlOk h w g/\∀ p,H p=none->Q (.ref p) (upd H p (.tup [.int h,.int w,.int g]))]
def oy(K:Frag):TS:=#[":gnSA,~Fba0aef#6 dWognSA,~Fba1aef#6 dWognlc>cV01ef#16 WognSA,~Fba2aef#6 dWojXa0a1a2d"]
theorem Bw(h:ox K vs H Q E):oy K (eD9 Q) (start ["high","wide","signs"] vs) H:=by
 obtain⟨h,w,g,rfl,F,q⟩:=h;obtain⟨h0,h1,a,d,b,e,c⟩:=id F;ac_nf;unfold oy;rw[aG,aD];exists⟨h,6,rfl,⟨_,rfl,?_⟩⟩;rw[M3 h0,M3 h1,PH];refine iteF ?_;rw[aD];exists⟨w,6,rfl,⟨_,rfl,?_⟩⟩;rw[M3 a,M3 d,PH];refine iteF ?_;rw[aD];exists⟨nh h0 h1,?_⟩;rw[M2 (show ¬ (16:Int)<h*w by lia)];refine iteF ?_;rw[aD];exists⟨g,6,rfl,⟨_,rfl,?_⟩⟩;rw[M3 e,M3 c,PH];refine iteF ?_;exists⟨lnR rfl,q⟩
def iP(K:Frag):Sp:=#[3,∃ p h w g,vs=[.ref p]/\IsFl H p h w g/\FlOk h w g/\∀ p,H p=none->Q (.ref p) (upd H p (.tup [.int h,.int w,.int g]))]
def iQ(K:Frag):TS:=#[":gnPSAp~ka0ae~l'RdlcFbpza0def#3 Woj,'Sback0ef#0 ack0ef#1 ack0ef#2 d"]
theorem uE(h:iP K vs H Q E):iQ K (eD9 Q) (start ["floor"] vs) H:=by
 obtain⟨p,h,w,g,rfl,a,F,q⟩:=h;ac_nf;unfold iQ;rw[aG,aD];exists Im a ?_;symm;rw[Ih a,show(([V.int h,V.int w,V.int g]:List V).length:Int)=3 from rfl];exists ixT a (v:=V.int h) rfl ?_;exists ixT a (v:=V.int w) rfl ?_;exists ixT a (v:=V.int g) rfl ?_;exists⟨h,w,g,rfl,F,q⟩
def lA(K:Frag)(c:QZ):Sp:=#[3,∃ p a h w g MP,vs=[.ref p,.ref a]/\IsFl H p h w g/\H a=↥((MP.map RR.txt).map V.str)/\iw c h w g MP/\
 ∀ l rs b,Same H b->H l=none->IsRules b c p l rs MP->Q (.ref l) b]
def lB(K:Frag)(c:QZ):TS:=#[":gnlc>pza1def#12 Woju&--0 tb1h#1 G,'Tbia2a1d"]
theorem yS(h:lA K c vs H Q E):lB K c (eD9 Q) (start ["floor","lines"] vs) H:=by
 obtain⟨p,a,h,w,g,MP,rfl,M,A,O,q⟩:=h;have R:=O.n;ac_nf;unfold lB;rw[aG,aD];symm;rw[a8 A,MZ,MZ];symm;rw[M2 (show ¬ (12:Int) < (MP.length:Nat) by lia)];refine iteF ?_;exists⟨⟨_,Nm A⟩,?_⟩
 refine rF (xs:=(MP.map RR.txt).map V.str) (λl i σ t=>(∃ G,σ=[none,G,↑p])/\Same H t/\∃ rs:List Addr,t l=↥(rs.map V.ref)/\rs.length=i/\∀(j:Nat) (r:Addr) (x:RR),rs[j]? =some r->MP[j]? =some x->IsRule t c x.k r p x.ws x.cs x.n x.m)
  (λl o=>⟨⟨none,rfl⟩,(M5 H).laid o,[],by rw[ah];rfl,rfl,λj r x e=>by simp at e⟩) (λl i σ t _ _ x=>x.2.1.seq (Nm A)) ?_ ?_
 . rintro l i x σ u o s ⟨⟨G,rfl⟩,s1,rs,d,v,b⟩;rw[M7,M7]at s
   cases e:MP[i]? with
   | none=>rw[e]at s;cases s
   | some y=>
    rw[e]at s;cases s;have S:=(M6.mp e).1;have D:=M8 e;rw[aY];show tTrue [none,some (.str y.txt),↑p] u _;exists⟨y.k,p,h,w,g,y.n,y.m,y.ns,y.cs,rfl,s1 _ _ M,O.F,O.ok y D,O.c y D,λr T f C N=>?_⟩;have L:r≠l:=λz=>by rw[z,d]at C;cases C
    refine⟨_,f _ _ d,by rw[MZ];exact aC #[4],⟨_,rfl⟩,(s1.trans f).own o,rs++[r],by rw[ah];simp,by simp[v],λj I J h1 h2=>?_⟩;by_cases P:j<rs.length
    . rw[NO P]at h1;exact((b j I J h1 h2).same f).lst (f _ _ d)
    . rw[NW #[4]]at h1
      have B:j-rs.length=0:=by
       have:=(M6.mp h1).1;simp at this;lia
      rw[B]at h1;have:j=i:=by lia
      subst this;rw[e]at h2;simp at h1;cases h2;subst h1;exact N.lst (f _ _ d)
 . rintro l σ u o ⟨_,s1,rs,d,v,b⟩;exact q l rs u s1 o ⟨d,by rw[v];simp,b⟩
def filB(a g:Int)(n:Nat)(xs:∅):Bool:=decide (xs.length=n)&&xs.all λx=>decide (a<=x)&&decide (x<=g)
def iH(K:Frag):Sp:=#[3,∃ p a h w g b xs,vs=[.ref p,.ref a,.int b]/\IsFl H p h w g/\FlOk h w g/\H a=↥(xs.map V.int)/\xs.length<=100/\∀ c,Same H c->Q (.bl (filB b g (h*w).toNat xs)) c]
def lC(K:Frag):TS:=#[":gnPSAp~ka1ae~lEdlcFbpza1d,~jba0djeIBojp+au&--02 tb1h#1 GL,~Zba1dLc(31c(1ck2ef#2 d"]
theorem yT(h:iH K vs H Q E):lC K (eD9 Q) (start ["floor","filling","least"] vs) H:=by
 obtain⟨p,a,h,w,g,b,xs,rfl,o,F,e,D,q⟩:=h;obtain⟨h0,h1,G,I,y,C,B⟩:=id F;have n:0<=h*w:=Pb #[4] #[4];ac_nf;unfold lC;rw[aG,aD];exists Er e ?_;symm;rw[a8 e,MZ];exists⟨p,h,w,g,rfl,o,h0,h1,?_⟩;symm;unfold filB at q;by_cases k:xs.length=(h*w).toNat
 . rw[M3 (show(xs.length:Int)=h*w by lia)];rw[M3 k]at q;exists⟨⟨_,Nm e⟩,?_⟩;refine cH (xs:=xs.map V.int) (λ_=>true) (λi=>.bl (decide (b<=xs.getD i 0)&&decide (xs.getD i 0<=g))) (by rw[MZ];lia) (Nm e) ?_ ?_ ?_
   . intro i x d R m s1 k1;exact k1 _ (M5 _)
   . intro i x d A m f s1 k1;obtain⟨z,t,rfl⟩:=aN m;have c:=k1 _ (M5 d);rw[eX t]at c;show tAndV _ _ [none,⇑z,↑p,⇑b] d A;exists⟨z,rfl,⟨true,rfl,iteT ?_⟩⟩;symm
     cases f:decide (b<=z) with
     | false=>
      rw[f,Nw]at c;exact iteF c
     | true=>
      rw[f,Nv]at c;refine iteT ?_;exists ixT (s1 _ _ o) (v:=V.int g) rfl ?_;symm;exact c
   . intro l d s s1 j
     have r:((List.range (xs.map V.int).length).filter λ_=>true).map (λi=>V.bl (decide (b<=xs.getD i 0)&&decide (xs.getD i 0<=g)))=(xs.map λx=>decide (b<=x)&&decide (x<=g)).map V.bl:=by
      rw[bg,MZ];refine OA λi=>?_;rw[M7,M7,M7];by_cases h:i<xs.length
      . rw[N8 h,M0 h];simp[List.getD,h]
      . rw[NI (by simpa using h),NI #[4]];rfl
     rw[r]at j;refine kU j ?_;have u:(xs.map λx=>decide (b<=x)&&decide (x<=g)).all id=xs.all λx=>decide (b<=x)&&decide (x<=g):=by rw[OL];rfl
     rw[u];exact q _ s1
 . rw[M2 (show ¬ (xs.length:Int)=h*w by lia)];rw[M2 k]at q;exists q _ (M5 _)
def iR(K:Frag):Sp:=#[3,∃ p a h w g xs,vs=[.ref p,.ref a]/\IsFl H p h w g/\FlOk h w g/\H a=↥(xs.map V.int)/\CluesOk h w g xs/\∀ l b,Same H b->H l=none->b l=↥(xs.map V.int)->Q (.ref l) b]
def iS(K:Frag):TS:=#[":gnSA,'bba0a1aef#0 dWojp~aa1d"]
theorem CluesOk.fil{h w g:Int}{xs:∅}(C:CluesOk h w g xs):filB 0 g (h*w).toNat xs=true:=by
 unfold filB;rw[M3 C.len,Nv,Na];intro x a;have:=C.ok x a;simp[this.1,this.2]
theorem uF(h:iR K vs H Q E):iS K (eD9 Q) (start ["floor","clues"] vs) H:=by
 obtain⟨p,a,h,w,g,xs,rfl,e,F,c,C,q⟩:=h;obtain⟨h0,h1,f,k,d,m,i⟩:=id F;ac_nf;unfold iS;rw[aG,aD];exists⟨p,a,h,w,g,0,xs,rfl,e,F,c,by have:=C.len;lia,λj s1=>?_⟩;rw[C.fil];refine⟨true,rfl,iteF ?_⟩;exists mr (s1 _ _ c) λl b=>?_;exact q l _ (s1.laid b) (s1.free b) ah
theorem IsRule.ins{k:RK}{r a:Addr}{f:List (List Nat)}{n m:Int}{C i:Addr}{fs:List (Str × V)}(x:IsRule H c k r p f cs n m)(d:H a=some (.ins C i fs))(g:fs.length≠5):IsRule (upd H a o) c k r p f cs n m:=by
 obtain⟨b,W,h,h1,h2,h3⟩:=x.ex;refine⟨x.ok,b,W,h,?_,?_,?_⟩
 . rw[aj (λe=>by rw[e,d]at h1;cases h1;exact g rfl)];exact h1
 . rw[aj (λe=>by rw[e,d]at h2;cases h2)];exact h2
 . rw[aj (λe=>by rw[e,d]at h3;cases h3)];exact h3
def IsRules.ins{L a:Addr}{C d:Addr}{fs:List (Str × V)}(x:IsRules H c p L rs MP)(b:H a=some (.ins C d fs))(f:fs.length≠5):IsRules (upd H a o) c p L rs MP:=
 ⟨by rw[aj (λe=>by have:=x.top;rw[e,b]at this;cases this)];exact x.top,x.len,λi r y h1 h2=>(x.at_ i r y h1 h2).ins b f⟩
def cY(K:Frag)(c:QZ)(d:Q0):Sp:=#[3,∃ x f p a b h w g MP cl,vs=[.ref x,.ref p,.ref a,.ref b]/\d.ok .Puzzle=true/\H x=some (.ins (d.A .Puzzle) f [])/\IsFl H p h w g/\H a=↥((MP.map RR.txt).map V.str)/\H b=↥(cl.map V.int)/\iw c h w g MP/\CluesOk h w g cl/\
 ∀ L G e,(∀ y o,y≠x->H y=some o->e y=some o)->H L=none->H G=none->IsPz e c d x L G h w g MP cl->Q .non e]
def gP(K:Frag)(c:QZ)(d:Q0):TS:=#[":g^r0,'Uba1d/g^r0,'VbiaMr0/a2d~*^r0,'WbaMr0/a3d~+"]
theorem rQ(h:cY K c d vs H Q E):gP K c d (eD9 Q) (start ["self","floor","lines","clues"] vs) H:=by
 obtain⟨x,i,p,a,b,h,w,g,MP,cl,rfl,t,N,hp,Z,O,R,C,q⟩:=h;ac_nf;unfold gP sFldK;exists⟨p,h,w,g,rfl,hp,R.F,λf M=>?_⟩;have j:x≠f:=ax N M;refine⟨x,.Puzzle,i,[],rfl,t,by rw[aj j];exact N,by show(0:Nat)<1000;decide,?_⟩
 have f1:∀ y o,y≠x->H y=some o->(upd (upd H f (.tup [.int h,.int w,.int g])) x (.ins (d.A .Puzzle) i (putF "floor" (.ref f) []))) y=some o:=λy o s e=>by
  rw[aj s,aj (ax e M)];exact e
 have m:(upd (upd H f (.tup [.int h,.int w,.int g])) x (.ins (d.A .Puzzle) i (putF "floor" (.ref f) []))) x=some (.ins (d.A .Puzzle) i [("floor",.ref f)]):=ah
 have r:IsFl (upd (upd H f (.tup [.int h,.int w,.int g])) x (.ins (d.A .Puzzle) i (putF "floor" (.ref f) []))) f h w g:=by
  show(upd (upd H f (.tup [.int h,.int w,.int g])) x _) f=_;rw[aj j.symm,ah]
 have J:∀ l,(upd (upd H f (.tup [.int h,.int w,.int g])) x (.ins (d.A .Puzzle) i (putF "floor" (.ref f) []))) l=none->H l=none:=λl e=>by
  have P:l≠x:=λz=>by rw[z,ah]at e;cases e
  rw[aj P]at e;have n2:l≠f:=λz=>by rw[z,ah]at e;cases e
  rw[aj n2]at e;exact e
 have S:a≠x:=λz=>by rw[z,N]at Z;cases Z
 have T:b≠x:=λz=>by rw[z,N]at O;cases O
 generalize upd (upd H f (.tup [.int h,.int w,.int g])) x (.ins (d.A .Puzzle) i (putF "floor" (.ref f) []))=H1 at*;refine fldE (c:=d) (k:=.Puzzle) rfl t m (v:=.ref f) (by rfl) ?_;exists⟨f,a,h,w,g,MP,rfl,r,f1 a _ S Z,R,λL rs u B U X=>?_⟩;refine⟨x,.Puzzle,i,_,rfl,t,B _ _ m,by show(1:Nat)<1000;decide,?_⟩;have aa:L≠x:=λz=>by rw[z,m]at U;cases U
 have X3:=X.ins (o:=.ins (d.A .Puzzle) i (putF "laws" (.ref L) [("floor",.ref f)])) (B _ _ m) (by show(1:Nat)≠5;decide)
 have f2:∀ y o,y≠x->H y=some o->(upd u x (.ins (d.A .Puzzle) i (putF "laws" (.ref L) [("floor",.ref f)]))) y=some o:=λy o s e=>by
  rw[aj s];exact B _ _ (f1 y o s e)
 have n:(upd u x (.ins (d.A .Puzzle) i (putF "laws" (.ref L) [("floor",.ref f)]))) x=some (.ins (d.A .Puzzle) i [("floor",.ref f),("laws",.ref L)]):=ah
 have I:IsFl (upd u x (.ins (d.A .Puzzle) i (putF "laws" (.ref L) [("floor",.ref f)]))) f h w g:=by
  show(upd u x _) f=_;rw[aj j.symm];exact B _ _ r
 have W:∀ l,(upd u x (.ins (d.A .Puzzle) i (putF "laws" (.ref L) [("floor",.ref f)]))) l=none->H1 l=none:=λl e=>by
  have P:l≠x:=λz=>by rw[z,ah]at e;cases e
  rw[aj P]at e;exact B.free e
 generalize upd u x (.ins (d.A .Puzzle) i (putF "laws" (.ref L) [("floor",.ref f)]))=H3 at*;refine fldE (c:=d) (k:=.Puzzle) rfl t n (v:=.ref f) (by rfl) ?_;exists⟨f,b,h,w,g,cl,rfl,I,R.F,f2 b _ T O,C,λG H4 D hG eG=>?_⟩;refine⟨x,.Puzzle,i,_,rfl,t,D _ _ n,by show(2:Nat)<1000;decide,?_⟩;have Y:G≠x:=λz=>by rw[z,n]at hG;cases hG
 refine q L G _ (λy o s e=>?_) (J L U) (J G (W G hG)) ⟨t,R,C,?_,i,f,rs,?_,?_,?_⟩
 . rw[aj s];exact D _ _ (f2 y o s e)
 . rw[aj Y];exact eG
 . rw[ah];rfl
 . show(upd H4 x _) f=_;rw[aj j.symm];exact D _ _ I
 . exact(X3.same D).ins (D _ _ n) (by show(2:Nat)≠5;decide)
theorem Iz {Z:Addr->Hp->Prop} {a b:Addr} {h w g:Int} (I:d.ok .Puzzle=true) (t:IsFl H p h w g) (E:H a=↥((MP.map RR.txt).map V.str)) (n:H b=↥(cl.map V.int)) (R:iw c h w g MP) (C:CluesOk h w g cl)
  (q:∀ P L G i,Same H i->H P=none->H L=none->H G=none->IsPz i c d P L G h w g MP cl->Z P i):
  ∀ x f,H x=none->H f=none->f≠x->cY K c d (.ref x::([.ref p,.ref a,.ref b]++[])) (upd (upd H f (.own x)) x (.ins (d.A .Puzzle) f [])) (λv D=>v=.non/\Z x D) E0:=by
 intro x f j m J;have k:∀ y o,H y=some o->(upd (upd H f (.own x)) x (.ins (d.A .Puzzle) f [])) y=some o:=λy o e=>by rw[aj (ax e j),aj (ax e m)];exact e
 have l:∀ y,(upd (upd H f (.own x)) x (.ins (d.A .Puzzle) f [])) y=none->H y=none:=λy e=>by
  have u:y≠x:=λz=>by rw[z,ah]at e;cases e
  rw[aj u]at e;have s:y≠f:=λz=>by rw[z,ah]at e;cases e
  rw[aj s]at e;exact e
 exact⟨x,f,p,a,b,h,w,g,MP,cl,rfl,I,ah,k _ _ t,k _ _ E,k _ _ n,R,C,λL G i B r F X=>⟨rfl,q x L G i (λy o e=>B y o (ax e j) (k _ _ e)) j (l L r) (l G F) X⟩⟩
def kx(K:Frag)(c:QZ)(d:Q0)(_:PzK):Sp:=#[3,∃(P L G:Addr) (h w g:Int) (MP:List RR) (cl:∅),vs=[.ref P]/\IsPz H c d P L G h w g MP cl/\∀ p,IsFl H p h w g->Q (.ref p) H]
def nn(K:Frag)(c:QZ)(d:Q0):Sp:=kx K c d .Puzzle
def jB(K:Frag)(c:QZ)(d:Q0):TS:=#[":jMr0/"]
theorem vK(h:nn K c d vs H Q E):jB K c d (eD9 Q) (start ["self"] vs) H:=by
 obtain⟨P,L,G,h,w,g,MP,cl,rfl,x,q⟩:=h;obtain⟨a,p,rs,h1,h2,h3⟩:=x.ex;exists jB;exact fldE (k:=.Puzzle) rfl x.ok h1 (v:=.ref p) (by rfl) (q p h2)
def uG(K:Frag)(c:QZ)(d:Q0)(_:PzK):Sp:=#[3,∃(P L G:Addr) (h w g:Int) (MP:List RR) (cl:∅),vs=[.ref P]/\IsPz H c d P L G h w g MP cl/\∀ l,H l=none->Q (.ref l) (upd H l (.lst (cl.map V.int)))]
def no(K:Frag)(c:QZ)(d:Q0):Sp:=uG K c d .Puzzle
def jC(K:Frag)(c:QZ)(d:Q0):TS:=#[":jp~aaMr0~+d"]
theorem vL(h:no K c d vs H Q E):jC K c d (eD9 Q) (start ["self"] vs) H:=by
 obtain⟨P,L,G,h,w,g,MP,cl,rfl,x,q⟩:=h;obtain⟨a,p,rs,h1,h2,h3⟩:=x.ex;exists jC;refine fldE (k:=.Puzzle) rfl x.ok h1 (v:=.ref G) (by rfl) ?_;exists mr x.gv q
def ff(K:Frag)(c:QZ)(d:Q0)(_:PzK):Sp:=#[3,∃(P L G:Addr) (h w g:Int) (MP:List RR) (cl:∅),vs=[.ref P]/\IsPz H c d P L G h w g MP cl/\∀ l p rs,H l=none->IsFl (upd H l (.lst (rs.map V.ref))) p h w g->IsRules (upd H l (.lst (rs.map V.ref))) c p l rs MP->Q (.ref l) (upd H l (.lst (rs.map V.ref)))]
def np(K:Frag)(c:QZ)(d:Q0):Sp:=ff K c d .Puzzle
def jD(K:Frag)(c:QZ)(d:Q0):TS:=#[":jp~aaMr0~*d"]
theorem vM(h:np K c d vs H Q E):jD K c d (eD9 Q) (start ["self"] vs) H:=by
 obtain⟨P,L,G,h,w,g,MP,cl,rfl,x,q⟩:=h;obtain⟨b,p,rs,h1,h2,h3⟩:=x.ex;exists jD;refine fldE (k:=.Puzzle) rfl x.ok h1 (v:=.ref L) (by rfl) ?_;exists mr h3.top λl a=>?_;have s1:Same H (upd H l (.lst (rs.map V.ref))):=(M5 H).laid a;exact q l p rs a (s1 _ _ h2) ⟨ah,h3.len,λi r y e1 e2=>(h3.at_ i r y e1 e2).same s1⟩
inductive DRows(w:World)(K:Frag):List DictEntry->List (Str × List Str)->Prop
 | nil:DRows w K [] []
 | cons {hsh:Int} {k:Str} {t:Tok} {q:Addr} {o:Obj} {MS:Array Value} {n:Nat} {ws:List Str} {es:List DictEntry} {D:List (Str × List Str)}:hsh=hashStr w k->K.lookup q=some o->o.cls=.type "tuple"->o.data=.seq MS n->MS.size<=sizeLine->Vals (ws.map V.str) MS.toList->DRows w K es D->DRows w K (⟨hsh,.str k t,.ref q⟩::es) ((k,ws)::D)
structure GDict(w:World)(K:Frag)(mg:Str->Option Value)(x:Str)(D:List (Str × List Str)):Prop where
 ex:∃(p:Addr) (o:Obj) (es:Array DictEntry) (ep:Nat),mg x=↑p/\K.lookup p=some o/\o.ExactDict/\o.data=.dict es ep/\DRows w K es.toList D/\(D.map λx=>x.1).Nodup
theorem DRows.of{P:Program}{w:World}{K:Frag}{d:List DictEntry}{D:List (Str × List Str)}(h:DRows w K d D):
  ∃ b:List (Str × Value),Pairs (strKind P w) d b/\b.map (λx=>x.1)=D.map (λx=>x.1)/\(∀ e∈d,∃ k,(strKind P w).is k e.key=true/\e.hash=(strKind P w).hash k)/\
   ∀ k g,D.lookup k=some g->∃ q,valueAt b k=↑q/\∃(o:Obj) (MS:Array Value) (n:Nat),K.lookup q=some o/\o.cls=.type "tuple"/\o.data=.seq MS n/\MS.size<=sizeLine/\Vals (g.map V.str) MS.toList:=by
 induction h with
 | nil=>exact⟨[],.nil,rfl,λe c=>(by cases c),λk g e=>(by cases e)⟩
 | @cons v k t q o MS n g d D h1 h2 h3 h4 h5 h6 _ m=>
  obtain⟨b,p,y,u,l⟩:=m;have j:(strKind P w).is k (.str k t)=true:=by show(k==k)=true;simp
  refine⟨(k,.ref q)::b,.cons j rfl p,by rw[NK,NK,y],λe c=>?_,λf i e=>?_⟩
  . rcases Ng.mp c with rfl | c
    . exact⟨k,j,h1⟩
    . exact u e c
  . rw[N5]at e;unfold valueAt;rw[OR];by_cases a:f=k
    . subst a;simp at e;subst e;refine⟨q,by simp,o,MS,n,h2,h3,h4,h5,h6⟩
    . have s:(f==k)=false:=by simpa using a
      rw[s]at e;have r:decide (k=f)=false:=M2 (λz=>a z.symm);dsimp only;rw[r];exact l f i e
def tIxG(K:Frag)(D:List (Str × List Str))(te:TE):TE:=λσ H Q=>te σ H λy a=>∃ k b,y=.str k/\D.lookup k=some b/\∀ q,SqT K a q (b.map V.str)->Q (.ref q) a
def rInS(K:Frag):R2:=λx y H Q=>∃(z:Str) (q:Addr) (a:List Str),x=.str z/\y=.ref q/\SqT K H q (a.map V.str)/\Q (.bl (decide (z∈a))) H
section
variable{X:Cx}{a b:Expr}{ta tb:TE}{pos p:Pos}{x:Str}{D:List (Str × List Str)}
theorem IA(G:GDict X.w X.K X.mg x D)(F:PE X b tb)(hg:Gl X x)(i:xc b)(l:(x==("__debug__":Str))=false:=by decide):PE X (.Subscript (.Name x p) b pos) (tIxG X.K D tb):=by
 obtain⟨d,o,W,L,h1,h2,h3,h4,h5,h6⟩:=G.ex;obtain⟨R,J,p2,p3,U⟩:=h5.of (P:=X.prog)
 have M:IxR X (λx y H Q=>x=.ref d/\∃ k a,y=.str k/\D.lookup k=some a/\∀ q,SqT X.K H q (a.map V.str)->Q (.ref q) H):=by
  intro j g r s σ H x y v u Q I Z S h hs;obtain⟨rfl,k,a,rfl,N,q⟩:=h;cases (show v=Value.ref d from Z);have f:s.heap.get? d=some o:=I.kIn d o h2;have z:Heap.DictOf (strKind X.prog X.w) s.heap d R:=⟨o,W,L,f,h3,h4,λe he=>p3 e (Array.mem_toList_iff.mpr he),J,by rw[p2];exact h6⟩;obtain⟨m,hv,T,MS,n,B,C,Y,E,g5⟩:=U k a N;obtain⟨t,rfl⟩:∃ t,u=Value.str k t:=S;have O:(strKind X.prog X.w).is k (.str k t)=true:=by show(k==k)=true;simp
  refine tail_any z.typeIs Qc.lookup (wpAny_getItem_of O z.mapOf hv ?_) hs;exact⟨.ref m,H,I.tok _,rfl,q m (.inr ⟨T,MS,n,B,C,Y,E,g5⟩)⟩
 have h0:=vh (pos:=pos) M (dQ (pos:=p) (v:=V.ref d) hg h1 rfl l) F i;intro r s σ H Q I h;refine h0 r s σ H Q I ?_
 have e:(λ(y:V) (c:Hp)=>∃ k a,y=.str k/\D.lookup k=some a/\∀ q,SqT X.K c q (a.map V.str)->Q (.ref q) c)=λy c=>(V.ref d=V.ref d)/\∃ k a,y=.str k/\D.lookup k=some a/\∀ q,SqT X.K c q (a.map V.str)->Q (.ref q) c:=by
  funext y c;simp
 have A:tb σ H (λ(y:V) (c:Hp)=>∃ k a,y=.str k/\D.lookup k=some a/\∀ q,SqT X.K c q (a.map V.str)->Q (.ref q) c):=h;rw[e]at A;exact A
theorem IB:OpR X (compareOp .In) (rInS X.K):=by
 intro e s σ H x y v u Q I c d h;obtain⟨z,q,a,rfl,rfl,b,h⟩:=h;refine nc e s σ H _ _ v u Q I c d ⟨q,a.map V.str,rfl,.inr b,rfl,jo a,?_⟩;rw[kt];exact h
end
section
variable{K:Frag}{σ:St}{H:Hp}{Q:VK}{te:TE}{D:List (Str × List Str)}
def Jt:tIxG K D te σ H Q=te σ H λy a=>∃ k b,y=.str k/\D.lookup k=some b/\∀ q,SqT K a q (b.map V.str)->Q (.ref q) a:=rfl
end
def ws5:String:="aG if_true if_false Bool.false_eq_true decide_true decide_false cM cN fv bI bt cJ df cK bH dc de bG ft bJ bK bM bN bO bP bL dg dh dj cX fu Bool.not_true Bool.not_false aG "++ws1
local macro_rules|`(tactic|walk_at "w")=>wk9 ws5
def stB(m s:Int):Bool:=decide (1<=s)&&(decide (s<=((Builtin.Int.intBits m:Nat):Int))&&decide (m/2^(s-1).toNat%2=1))
def gQ(K:Frag):Sp:=#[3,∃ m s:Int,vs=[.int m,.int s]/\Q (.bl (stB m s)) H]
def rR(K:Frag):TS:=#[":jLc(ef#1 1Lc(1'cb~X'd0cqbcHc'X0cO1ef#1 ef#2 ef#1 "]
variable{K:Frag}{vs:List V}{H:Hp}{Q:VK}{E:XK}
theorem EB(h:gQ K vs H Q E):rR K (eD9 Q) (start ["mask","sign"] vs) H:=by
 obtain⟨m,s,rfl,q⟩:=h;exists rR;unfold stB at q
 cases h1:decide (1<=s) with
 | false=>rw[h1,Nw]at q;exact iteF q
 | true=>
  refine iteT ⟨rfl,?_⟩;symm;rw[h1,Nv]at q
  cases h2:decide (s<=((Builtin.Int.intBits m:Nat):Int)) with
  | false=>rw[h2,Nw]at q;exact iteF q
  | true=>
   rw[h2,Nv]at q;exact iteT ⟨by have:=Nb h1;lia,by decide,q⟩
def rS(K:Frag):Sp:=#[3,∃ s:Int,vs=[.int s]/\1<=s/\s<=100000/\Q (.int (2^(s-1).toNat)) H]
def rT(K:Frag):TS:=#[":gmef#1 h#1 gK*acO0ef#1 dh#2 mcV1ef#2 h#1 j1"]
theorem EC(h:rS K vs H Q E):rT K (eD9 Q) (start ["sign","bit","step"] vs) H:=by
 obtain⟨s,rfl,h1,h2,q⟩:=h;exists rT;refine⟨s-1,rfl,by lia,by lia,?_⟩;refine jj (λi σ b=>∃ a:Option V,σ=[⇑s,⇑(2^i),a]/\b=H) ⟨none,rfl,rfl⟩ ?_ ?_
 . rintro i σ b c ⟨a,rfl,rfl⟩;exists⟨.inr ⟨by decide,by decide⟩,?_⟩;simp[Int.pow_succ]
 . rintro σ b ⟨a,rfl,rfl⟩;symm;exact q
def woI(m s:Int):Int:=if stB m s=true then m-2^(s-1).toNat else m
def l0(K:Frag):Sp:=#[3,∃ m s:Int,vs=[.int m,.int s]/\s<=100000/\Q (.int (woI m s)) H]
def ql(K:Frag):TS:=#[":j~xA,~yba0a1dcO0,'Yba1d0"]
theorem CY(h:l0 K vs H Q E):ql K (eD9 Q) (start ["mask","sign"] vs) H:=by
 obtain⟨m,s,rfl,h2,q⟩:=h;exists ql;refine⟨m,s,rfl,_,rfl,?_⟩;unfold woI at q
 cases a:stB m s with
 | false=>
  rw[a,Nt Nc]at q;exact iteF q
 | true=>
  rw[a,NA rfl]at q;refine iteT ⟨s,rfl,?_,h2,?_⟩
  . unfold stB at a;rw[M9,M4]at a;exact a.1
  . symm;exact q
def dP(K:Frag):Sp:=#[3,∃ m s:Int,vs=[.int m,.int s]/\s<=100000/\Q (.bl (decide (woI m s=0))) H]
def oz(K:Frag):TS:=#[":jcqb,'eba0a1def#0 "]
theorem Bx(h:dP K vs H Q E):oz K (eD9 Q) (start ["mask","sign"] vs) H:=by
 obtain⟨m,s,rfl,h2,q⟩:=h;exists oz;refine⟨m,s,rfl,h2,?_⟩;symm;exact q
def sgL(m:Int):∅:=((List.range (Builtin.Int.intBits m)).filter λ(i:Nat)=>stB m (1+(i:Int))).map λ(i:Nat)=>1+(i:Int)
def bT(K:Frag):Sp:=#[3,∃ m:Int,vs=[.int m]/\Builtin.Int.intBits m<=900/\∀ l a,Same H a->H l=none->a l=↥((sgL m).map V.int)->Q (.ref l) a]
def oA(K:Frag):TS:=#[":ju&--0 'faef#1 acy'cb~X'd0ef#1 dh#1 A,~yba2a1d1"]
theorem By(h:bT K vs H Q E):oA K (eD9 Q) (start ["mask"] vs) H:=by
 obtain⟨m,rfl,b,k⟩:=h;exists oA;refine⟨rfl,1,_,rfl,by lia,?_⟩;have f:(((Builtin.Int.intBits m:Nat):Int)+1-1).toNat=Builtin.Int.intBits m:=by lia
 rw[f];refine or (λ(i:Nat)=>stB m (1+(i:Int))) (λ(i:Nat)=>1+(i:Int)) b ?_ ?_ ?_
 . intro i a R e s1 k1;show tB _ [none,⇑(1+(i:Int)),⇑m] a R;exists⟨m,_,rfl,_,rfl,k1 _ (M5 _)⟩
 . intro i a g e b s1 k1;exact k1 _ (M5 _)
 . intro l a d s1 c;exact k l a s1 d c
local macro_rules|`(tactic|walk_at "w")=>wk9 ws4
inductive TK where
 | clue | only | place | count | step | sum | square | reach | turn | pair | ways
 deriving DecidableEq
def tkC:TK->List Nat
 | .clue=>s!"clue"
 | .only=>s!"only"
 | .place=>s!"place"
 | .count=>s!"count"
 | .step=>s!"step"
 | .sum=>s!"sum"
 | .square=>s!"square"
 | .reach=>s!"reach"
 | .turn=>s!"turn"
 | .pair=>s!"pair"
 | .ways=>s!"ways"
def gt_KINDS:List Str:=[tx s!"clue",tx s!"only",tx s!"place",tx s!"count",tx s!"step",tx s!"sum",tx s!"square",tx s!"reach",tx s!"turn",tx s!"pair",tx s!"ways"]
def iI:List Str:=[tx s!"clue",tx s!"only",tx s!"place",tx s!"step",tx s!"pair"]
def gJ:List Str:=[tx s!"count",tx s!"sum",tx s!"ways"]
def gd_RULES_OF_KIND:List (Str × List Str):=[(tx s!"only",[tx s!"unlike"]),(tx s!"place",[tx s!"unlike"]),(tx s!"count",[tx s!"count"]),(tx s!"step",[tx s!"rising"]),(tx s!"sum",[tx s!"sum"]),(tx s!"square",[tx s!"nosquare"]),(tx s!"reach",[tx s!"joined",tx s!"ring"]),(tx s!"turn",[tx s!"ring"]),(tx s!"pair",[tx s!"unlike"])]
def wsOf:TK->List Str
 | .only=>[tx s!"unlike"]
 | .place=>[tx s!"unlike"]
 | .count=>[tx s!"count"]
 | .step=>[tx s!"rising"]
 | .sum=>[tx s!"sum"]
 | .square=>[tx s!"nosquare"]
 | .reach=>[tx s!"joined",tx s!"ring"]
 | .turn=>[tx s!"ring"]
 | .pair=>[tx s!"unlike"]
 | _=>[]
def goesB:TK->RK->Bool
 | .ways,_=>true
 | .only,.Unlike=>true
 | .place,.Unlike=>true
 | .count,.Count=>true
 | .step,.Rising=>true
 | .sum,.Sum=>true
 | .square,.NoSquare=>true
 | .reach,.Joined=>true
 | .reach,.Ring=>true
 | .turn,.Ring=>true
 | .pair,.Unlike=>true
 | _,_=>false
def lineK:TK->Bool
 | .clue=>true
 | .only=>true
 | .place=>true
 | .step=>true
 | .pair=>true
 | _=>false
def nbrK:TK->Bool
 | .count=>true
 | .sum=>true
 | .ways=>true
 | _=>false
theorem G5(t:TK):decide (tx (tkC t)∈iI)=lineK t:=by cases t <;> decide+kernel
theorem IC(t:TK):decide (tx (tkC t)∈gJ)=nbrK t:=by cases t <;> decide+kernel
variable{t:TK}
theorem Ju(h1:t≠.clue)(h2:t≠.ways):gd_RULES_OF_KIND.lookup (tx (tkC t))=some (wsOf t):=by
 cases t <;> first | exact absurd rfl h1 | exact absurd rfl h2 | decide+kernel
theorem G6(h2:t≠.ways)(k:RK):decide (tx (nmC k)∈wsOf t)=goesB t k:=by
 cases t <;> first | exact absurd rfl h2 | (cases k <;> decide+kernel)
theorem G7(t:TK):decide (tkC t=s!"ways")=decide (t=.ways):=by cases t <;> decide
theorem xv(t:TK):decide (tkC t=s!"clue")=decide (t=.clue):=by cases t <;> decide
theorem Cb(t:TK):decide (tkC t=s!"only")=decide (t=.only):=by cases t <;> decide
def qm(K:Frag):Sp:=#[3,∃ p h w g i,vs=[.ref p,.int i]/\IsFl H p h w g/\FlOk h w g/\Q (.bl (decide (0<=i)&&decide (i<h*w))) H]
def qo(K:Frag):TS:=#[":jL,~Zba1dLc(ef#0 1c<1,~jba0d"]
variable{K:Frag}{vs:List V}{H:Hp}{Q:VK}{E:XK}
theorem CZ(h:qm K vs H Q E):qo K (eD9 Q) (start ["floor","value"] vs) H:=by
 obtain⟨p,h,w,g,i,rfl,b,F,q⟩:=h;exists qo;refine⟨i,rfl,⟨true,rfl,iteT ?_⟩⟩;symm
 cases a:decide (0<=i) with
 | false=>
  rw[a,Nw]at q;exact iteF q
 | true=>
  rw[a,Nv]at q;refine iteT ?_;exists⟨p,h,w,g,rfl,b,F.h0,F.h1,?_⟩;symm;exact q
def qp(K:Frag):Sp:=#[3,∃ p h w g i,vs=[.ref p,.int i]/\IsFl H p h w g/\Q (.bl (decide (1<=i)&&decide (i<=g))) H]
def qq(K:Frag):TS:=#[":j,~Fba1ack0ef#2 d"]
theorem C0(h:qp K vs H Q E):qq K (eD9 Q) (start ["floor","value"] vs) H:=by
 obtain⟨p,h,w,g,i,rfl,a,q⟩:=h;exists qq;refine ixT a (v:=V.int g) rfl ?_;exists⟨i,g,rfl,q⟩
def qr(K:Frag)(c:QZ):Sp:=#[3,∃ t k r p a cs n m,vs=[.str (tx (tkC t)),.ref r]/\t≠.clue/\IsRule H c k r p (nmC k::a) cs n m/\Q (.bl (goesB t k)) H]
def qt(K:Frag)(c:QZ):TS:=#[":j~hcqb0evw`0c'ZbxiC'*'+bi1d'-b'/0",s!"ways"]
variable{c:QZ}
theorem C1(h:qr K c vs H Q E):qt K c (eD9 Q) (start ["kind","rule"] vs) H:=by
 obtain⟨t,k,r,p,d,cs,n,m,rfl,a,x,q⟩:=h;obtain⟨f,W,C,h1,h2,h3⟩:=x.ex;exists qt;rw[bA,G7];by_cases hw:t=.ways
 . subst hw;rw[M3 rfl];exact iteT q
 . rw[M2 hw];refine iteF ?_;refine methE (k:=k) rfl x.ok h1 (by rfl) ?_;exists⟨r,p,nmC k,d,cs,n,m,rfl,x,?_⟩;dsimp only;rw[Jt];exists⟨_,_,rfl,Ju a hw,λe b=>?_⟩;refine⟨_,e,_,rfl,rfl,b,?_⟩;rw[G6 hw];exact q
def b4(K:Frag)(c:QZ):Sp:=#[3,∃ k r p b cs n m z,vs=[.ref r,.int z]/\IsRule H c k r p b cs n m/\cs.length<=63/\∀ l a,Same H a->H l=none->a l=↥((cs.filter λx=>!decide (x=z)).map V.int)->Q (.ref l) a]
def rV(K:Frag)(c:QZ):TS:=#[":ju&--1 tbxiC~m~nbi0dh#1 lcFb121"]
theorem ED(h:b4 K c vs H Q E):rV K c (eD9 Q) (start ["rule","cell"] vs) H:=by
 obtain⟨k,r,p,i,cs,n,m,z,rfl,x,u,q⟩:=h;obtain⟨w,W,C,h1,h2,h3⟩:=x.ex;ac_nf;unfold rV;rw[b9,bq];refine methE (k:=k) rfl x.ok h1 (by rfl) ?_;exists⟨r,p,i,cs,n,m,rfl,x,λl f=>?_⟩;obtain⟨t,s,s1,e⟩:=aW (.lst (cs.map V.int)) f;rw[s];refine⟨l,rfl,⟨_,Nm e⟩,?_⟩;refine aS (xs:=cs) (λx=>!decide (x=z)) (λx=>x) #[4] (Nm e) ?_ ?_ ?_
 . intro y a R g b k2;show tTest _ [none,⇑y,⇑z] a R;exists k2 _ (M5 _)
 . intro y a o g v b k2;show tVar 1 [none,⇑y,⇑z] a o;exists k2 _ (M5 _)
 . intro T a j b d;rw[Oi]at d;exact q T a (s1.trans b) (s1.free j) d
def hitB(t:TK)(MP:List RR)(r z:Int):Bool:=if r<0 then false else if t=.clue then decide (r=0) else match MP[r.toNat]? with
 | none=>false
 | some x=>goesB t x.k&&decide (z∈x.cs)
structure IsTh(H:Hp)(T M:Addr)(t:TK)(r z s:Int)(ms:∅):Prop where
 T:H T=some (.tup [.str (tx (tkC t)),.int r,.int z,.int s,.ref M])
 M:H M=↥(ms.map V.int)
 n:ms.length<=100
def IsTh.same{a:Hp}{T M:Addr}{r z s:Int}{ms:∅}(x:IsTh H T M t r z s ms)(s':Same H a):IsTh a T M t r z s ms:=⟨s' _ _ x.T,s' _ _ x.M,x.n⟩
def formB(h w g:Int)(MP:List RR)(t:TK)(r z s:Int):Bool:=(decide (0<=z)&&decide (z<h*w))&&((decide (1<=s)&&decide (s<=g))&&hitB t MP r z)
abbrev nsV(cs:List Nat):List V:=(cs.map λ(n:Nat)=>(n:Int)).map V.int
theorem Aj(xs:List V){k:Int}(h:0<=k):cutV xs none (some k)=xs.take k.toNat:=by
 unfold cutV;have e:k=((k.toNat:Nat):Int):=by lia
 have h1:HT.sIx xs.length 0 none=0:=rfl
 have h2:HT.sIx xs.length xs.length (some k)=min k.toNat xs.length:=by
  conv=>lhs;rw[e]
  exact HT.sIx_nat ..
 rw[h1,h2];show(xs.drop 0).take _=_;rw[List.drop_zero];by_cases a:k.toNat<=xs.length
 . rw[PP a];rfl
 . rw[Pf #[4],N0 #[4],N0 #[4]]
theorem EE{k:RK}{h w g:Int}{m:Nat}(a:allK k=true)(k0:k≠.Rule)(i:numK k=false)(b:sgnK k=true)(f:1<=(m:Int))(c:(m:Int)<=g):RR.Ok ⟨k,0,m,[],rngL 0 (h*w)⟩ h w g:=by
 refine⟨k0,Oc _,λ_=>rfl,λ_=>⟨f,c⟩,λe=>?_,⟨λe=>?_,λ_=>⟨rfl,rfl⟩⟩,λx d=>(by cases d),Oc _⟩
 . rw[show sgnK k=false from e]at b;cases b
 . rw[show allK k=false from e]at a;cases a
def clueB(cl:∅)(z s:Int)(ms:∅):Bool:=decide (ms=[])&&(!decide (cl.getD z.toNat 0=0)&&!decide (cl.getD z.toNat 0=s))
def jE(K:Frag):Sp:=#[3,∃ C M z s cl b,vs=[.ref C,.int z,.int s,.ref M]/\H C=↥(cl.map V.int)/\0<=z/\z<cl.length/\H M=↥(b.map V.int)/\∀ a,Same H a->Q (.bl (clueB cl z s b)) a]
def jF(K:Frag):TS:=#[":jLcqb3sdLcFbck01ef#0 cFbck012"]
theorem vN(h:jE K vs H Q E):jF K (eD9 Q) (start ["clues","cell","sign","more"] vs) H:=by
 obtain⟨C,M,z,s,cl,j,rfl,c,f,e,g,q⟩:=h;exists jF;refine⟨aP #[1],λl i=>?_⟩;obtain⟨H1,z9,s1,el⟩:∃ z,upd H l (.lst [])=z/\Same H z/\z l=↥(([]:∅).map V.int):=aW _ i;rw[z9];refine vq (s1 _ _ g) el ?_;have a:=q _ s1;unfold clueB at a
 cases d:decide (j=[]) with
 | false=>
  rw[d,Nw]at a;exact⟨false,rfl,iteF a⟩
 | true=>
  rw[d,Nv]at a;refine⟨true,rfl,iteT ?_⟩;exists ixI (s1 _ _ c) f e ?_;symm
  cases b:decide (cl.getD z.toNat 0=0) with
  | true=>
   rw[b,OV,Nw]at a;exact iteF a
  | false=>
   rw[b,OO,Nv]at a;refine iteT ?_;refine ixI (s1 _ _ c) f e ?_;symm;exact a
def onlyB(cs MN:∅)(z s:Int)(ms:∅):Bool:=decide (ms.length=1)&&(decide (ms.getD 0 0∈cs.filter λx=>!decide (x=z))&&decide (woI (MN.getD (ms.getD 0 0).toNat 0) s=0))
def jG(K:Frag)(c:QZ):Sp:=#[3,∃ k r p A M e cs a d n m z s,vs=[.ref r,.ref A,.int z,.int s,.ref M]/\IsRule H c k r p e cs n m/\aL cs a.length/\H A=↥(a.map V.int)/\H M=↥(d.map V.int)/\s<=1000/\∀ b,Same H b->Q (.bl (onlyB cs a z s d)) b]
def jH(K:Frag)(c:QZ):TS:=#[":jLcqbpza4def#1 LcJbBck4ef#0 ,Zbia0a2d,~oback1ck4ef#0 a3d"]
theorem vO(h:jG K c vs H Q E):jH K c (eD9 Q) (start ["rule","masks","cell","sign","more"] vs) H:=by
 obtain⟨k,r,p,A,M,o,cs,y,b,n,m,z,s,rfl,x,f,u,d,B,q⟩:=h;exists jH;rw[a8 d,MZ];symm;unfold onlyB at q
 have e1:decide ((b.length:Int)=1)=decide (b.length=1):=by
  rw[ND,M4,M4];lia
 rw[e1]
 cases e:decide (b.length=1) with
 | false=>
  rw[e,Nw]at q;exact iteF (q _ (M5 _))
 | true=>
  rw[e,Nv]at q;have w:=Nb e;refine iteT ?_;refine ixI d #[1] #[4] ?_;rw[show(0:Int).toNat=0 from rfl];exists⟨k,r,p,o,cs,n,m,z,rfl,x,f.1,λl v s1 j i=>?_⟩;dsimp only;rw[oo i]
  cases a:decide (b.getD 0 0∈cs.filter λx=>!decide (x=z)) with
  | false=>
   rw[a,Nw]at q;exact⟨false,rfl,iteF (q _ s1)⟩
  | true=>
   rw[a,Nv]at q;have t:=Nf.mp (Nb a);have g:=f.2 _ t.1;refine⟨true,rfl,iteT ?_⟩;exists ixI (s1 _ _ d) #[1] #[4] ?_;rw[show(0:Int).toNat=0 from rfl];exists ixI (s1 _ _ u) g.1 g.2 ?_;exists⟨_,s,rfl,by lia,q _ s1⟩
theorem RR.cin22{r:RR}{h w g:Int}(O:r.Ok h w g)(F:FlOk h w g):aL r.cs (h*w).toNat:=by
 obtain⟨h0,h1,l,p,f,t,m⟩:=id F;have b:0<=h*w:=Pb #[4] #[4]
 cases d:allK r.k with
 | false=>
  obtain⟨q,s,i,o,e⟩:=O.cl.told d;rw[e];refine⟨by rw[MZ];lia,λc a=>?_⟩;obtain⟨n,j,rfl⟩:=Nl.mp a;have:=i n j;lia
 | true=>
  obtain⟨_,e⟩:=O.cl.all d;rw[e];refine⟨by rw[gL];lia,λc a=>?_⟩;have:=o0 a;lia
abbrev Qa:=@RR.cin22
structure Asks(H:Hp)(c:QZ)(d:Q0)(P L G A T M:Addr)(h w g:Int)(MP:List RR)(cl MN:∅)(t:TK)(r z s:Int)(ms:∅):Prop where
 P:IsPz H c d P L G h w g MP cl
 T:IsTh H T M t r z s ms
 A:H A=↥(MN.map V.int)
 n:MN.length=(h*w).toNat
variable{MP:List RR}
theorem fK{h w g:Int}{r z s:Int}(f:formB h w g MP t r z s=true):0<=z/\z<h*w/\1<=s/\s<=g/\hitB t MP r z=true:=by
 unfold formB at f;simp only[M9,M4]at f;exact⟨f.1.1,f.1.2,f.2.1.1,f.2.1.2,f.2.2⟩
theorem o4{r z:Int}(b:t≠.clue)(f:hitB t MP r z=true):0<=r/\∃ x,MP[r.toNat]? =some x/\goesB t x.k=true/\z∈x.cs:=by
 unfold hitB at f;by_cases a:r<0
 . rw[NA a]at f;cases f
 rw[Nt a,Nt b]at f
 cases e:MP[r.toNat]? with
 | none=>rw[e]at f;cases f
 | some x=>
  rw[e]at f;simp only[M9,M4]at f;exact⟨by lia,x,rfl,f.1,f.2⟩
def cV(K:Frag):Sp:=#[3,∃ A C b cs,vs=[.ref A,.ref C]/\H A=↥(b.map V.int)/\H C=↥(cs.map V.int)/\aL cs b.length/\∀ l a,Same H a->H l=none->a l=↥((sgAt b cs).map V.int)->Q (.ref l) a]
def oB(K:Frag):TS:=#[":ju&--0 tb1h#1 Gck21"]
theorem BA(h:cV K vs H Q E):oB K (eD9 Q) (start ["masks","cells"] vs) H:=by
 obtain⟨A,C,g,cs,rfl,j,b,⟨m,f⟩,q⟩:=h;exists oB;refine⟨⟨_,Nm b⟩,?_⟩;refine aS (xs:=cs) (λ_=>true) (λc=>g.getD c.toNat 0) #[4] (Nm b) ?_ ?_ ?_
 . intro x a R o s1 k1;exact k1 _ (M5 _)
 . intro z a i k n s1 k1;show tOp cIx _ _ [none,⇑z,↑A] a i;symm;have:=f z k;exact ixI (s1 _ _ j) this.1 #[4] (k1 _ (M5 _))
 . intro l a e s1 d;rw[bg]at d;exact q l a s1 e d
def gw(K:Frag):Sp:=#[3,∃(C:Addr) (a:∅) (s:Int),vs=[.ref C,.int s]/\H C=↥(a.map V.int)/\a.length<=63/\∀ b,Same H b->Q (.int ((a.filter λm=>stB m s).length:Nat)) b]
def oC(K:Frag):TS:=#[":jpzau&--1 tb0h#1 A,~yba1a2d1d"]
theorem BB(h:gw K vs H Q E):oC K (eD9 Q) (start ["some","sign"] vs) H:=by
 obtain⟨C,e,s,rfl,b,g,q⟩:=h;exists oC;refine⟨⟨_,Nm b⟩,?_⟩;refine aS (xs:=e) (λm=>stB m s) (λm=>m) #[4] (Nm b) ?_ ?_ ?_
 . intro x a R j s1 k1;show tB _ [none,⇑x,⇑s] a R;exists⟨x,s,rfl,_,rfl,k1 _ (M5 _)⟩
 . intro z a d k i s1 k1;show tVar 1 [none,⇑z,⇑s] a d;exists k1 _ (M5 _)
 . intro l a f s1 c;rw[Oi]at c;rw[a8 c,MZ];exact q _ s1
def vP(g:Int)(cs MN:∅)(z s:Int)(ms:∅):Bool:=decide ((cs.length:Int)=g)&&(decide (ms.length=1)&&(!decide (ms.getD 0 0=s)&&((decide (1<=ms.getD 0 0)&&decide (ms.getD 0 0<=g))&&decide (((sgAt MN (cs.filter λx=>!decide (x=z))).filter λm=>stB m (ms.getD 0 0)).length=0))))
def iT(K:Frag)(c:QZ):Sp:=#[3,∃ k f r p A M e cs a d n m z s h w g,vs=[.ref f,.ref r,.ref A,.int z,.int s,.ref M]/\IsFl H f h w g/\IsRule H c k r p e cs n m/\aL cs a.length/\H A=↥(a.map V.int)/\H M=↥(d.map V.int)/\∀ b,Same H b->Q (.bl (vP g cs a z s d)) b]
def gx(K:Frag)(c:QZ):TS:=#[":jcqb,~Gba,~iba2a,Zbia1a3ddack5ef#0 def#0 "]
def j9(K:Frag)(c:QZ):TS:=#[":gnPlcqbck5ef#0 4SA,':ba0ack5ef#0 djeIBo';bi"]
def iU(K:Frag)(c:QZ):TS:=#[":gnPlcFbpzaxiC~m~nbi1ddck0ef#2 lcFbpza5def#1 jeIBo'?bi"]
theorem q5 {k:RK} {f r p A M:Addr} {d:List (List Nat)} {cs MN ms:∅} {n m z s:Int} (x:IsRule H c k r p d cs n m) (b:aL cs MN.length) (v:H A=↥(MN.map V.int)) (i:H M=↥(ms.map V.int)) (D:ms.length=1)
  (q:∀ h,Same H h->Q (.bl (decide (((sgAt MN (cs.filter λx=>!decide (x=z))).filter λm=>stB m (ms.getD 0 0)).length=0))) h):
  gx K c (eD9 Q) [↑f,↑r,↑A,⇑z,⇑s,↑M] H:=by
 unfold gx;exists⟨k,r,p,d,cs,n,m,z,rfl,x,b.1,λO C s1 E j=>?_⟩;symm;have a:aL (cs.filter λx=>!decide (x=z)) MN.length:=⟨Nk (Np _ _) b.1,λy o=>b.2 y (Nf.mp o).1⟩;refine⟨A,O,MN,_,rfl,s1 _ _ v,j,a,λB F g G w=>?_⟩;dsimp only;refine ixI ((s1.trans g) _ _ i) #[1] #[4] ?_;rw[show(0:Int).toNat=0 from rfl];exists⟨B,_,_,rfl,w,by unfold sgAt;rw[MZ];exact a.1,λl u=>?_⟩;symm;have t:=q l ((s1.trans g).trans u)
 have e:decide ((((sgAt MN (cs.filter λx=>!decide (x=z))).filter λm=>stB m (ms.getD 0 0)).length:Int)=0)=decide (((sgAt MN (cs.filter λx=>!decide (x=z))).filter λm=>stB m (ms.getD 0 0)).length=0):=by
  rw[ND,M4,M4];lia
 rw[e];exact t
theorem uH(h:iT K c vs H Q E):iU K c (eD9 Q) (start ["floor","rule","masks","cell","sign","more"] vs) H:=by
 obtain⟨k,f,r,p,A,M,J,cs,O,b,n,m,z,s,h,w,g,rfl,t,x,u,I,i,q⟩:=h;obtain⟨N,W,C,h1,h2,h3⟩:=x.ex;ac_nf;unfold iU;rw[aG,aD];exists methE (k:=k) rfl x.ok h1 (by rfl) ?_;exists⟨r,p,J,cs,n,m,rfl,x,λl F=>?_⟩;obtain⟨L,B,s1,D⟩:=aW (.lst (cs.map V.int)) F;rw[B]
 try dsimp only
 rw[a8 D,MZ];refine ixT (s1 _ _ t) (v:=V.int g) rfl ?_;symm;unfold vP at q
 cases o:decide ((cs.length:Int)=g) with
 | false=>
  rw[o,Nw]at q;exists q _ s1
 | true=>
  rw[o,Nv]at q;symm;rw[a8 (s1 _ _ i),MZ];symm
  have e1:decide ((b.length:Int)=1)=decide (b.length=1):=by
   rw[ND,M4,M4];lia
  rw[e1]
  cases a:decide (b.length=1) with
  | false=>
   rw[a,Nw]at q;exists q _ s1
  | true=>
   rw[a,Nv]at q;have j:=Nb a;symm;unfold j9;rw[aG,aD];exists ixI (s1 _ _ i) #[1] #[4] ?_;rw[show(0:Int).toNat=0 from rfl];symm
   cases d:decide (b.getD 0 0=s) with
   | true=>
    rw[d,OV,Nw]at q;refine iteT ?_;exists q _ s1
   | false=>
    rw[d,OO,Nv]at q;refine iteF ?_;refine ixI (s1 _ _ i) #[1] #[4] ?_;rw[show(0:Int).toNat=0 from rfl];exists⟨f,h,w,g,_,rfl,s1 _ _ t,?_⟩
    cases e:(decide (1<=b.getD 0 0)&&decide (b.getD 0 0<=g)) with
    | false=>
     rw[e,Nw]at q;refine⟨false,rfl,iteT ?_⟩;exists q _ s1
    | true=>
     rw[e,Nv]at q;refine⟨true,rfl,iteF ?_⟩;exact q5 (x.same s1) u (s1 _ _ I) (s1 _ _ i) j λG y=>q G (s1.trans y)
theorem Ak(t:TK):decide (tkC t=s!"place")=decide (t=.place):=by cases t <;> decide
def fG(K:Frag):Sp:=#[3,∃(C:Addr) (a:∅) (s:Int),vs=[.ref C,.int s]/\H C=↥(a.map V.int)/\a.length<=63/\s<=100000/\∀ b,Same H b->Q (.int ((a.filter λm=>decide (woI m s=0)).length:Nat)) b]
def mL(K:Frag):TS:=#[":jpzau&--1 tb0h#1 A,~oba1a2d1d"]
variable{K:Frag}{vs:List V}{H:Hp}{Q:VK}{E:XK}
theorem Al(h:fG K vs H Q E):mL K (eD9 Q) (start ["some","sign"] vs) H:=by
 obtain⟨C,f,s,rfl,b,i,e,q⟩:=h;exists mL;refine⟨⟨_,Nm b⟩,?_⟩;refine aS (xs:=f) (λm=>decide (woI m s=0)) (λm=>m) #[4] (Nm b) ?_ ?_ ?_
 . intro x a R k s1 k1;show tB _ [none,⇑x,⇑s] a R;exists⟨x,s,rfl,e,_,rfl,k1 _ (M5 _)⟩
 . intro z a d n j s1 k1;show tVar 1 [none,⇑z,⇑s] a d;exists k1 _ (M5 _)
 . intro l a g s1 c;rw[Oi]at c;rw[a8 c,MZ];exact q _ s1
def rosP(c z:Int)(q:∅):Bool:=decide (q.getD 0 0=c)&&decide (z∈q)
def rosL(h w c z:Int):∅:=match (squL h w).find? (rosP c z) with
 | none=>[]
 | some q=>q.filter λx=>!decide (x=z)
variable{h w:Int}
theorem o5{q:∅}(b:q∈squL h w):∃ i:Nat,i < (h*w).toNat/\cornB h w i=true/\q=sqL w i:=by
 unfold squL at b;obtain⟨i,a,rfl⟩:=Nl.mp b;obtain⟨a,c⟩:=Nf.mp a;exact⟨i,Nj.mp a,c,rfl⟩
theorem Cc{c:Int}(b:1<=w)(c0:0<=c)(a:cornB h w c=true):c+w+1<h*w:=by
 unfold cornB at a;rw[M9,M4,M4]at a;have e:=QH c w;have m:=Int.mul_le_mul_of_nonneg_left (show c/w+2<=h by lia) (show 0<=w by lia);rw[Int.mul_add]at m;rw[Int.mul_comm h w];lia
theorem Jv{c x:Int}(a:1<=w)(c0:0<=c)(b:cornB h w c=true)(d:x∈sqL w c):0<=x/\x<h*w:=by
 have:=Cc a c0 b;simp[sqL]at d;lia
variable{z:Int}
theorem EF{g c:Int}{n:Nat}(F:FlOk h w g)(f:n=(h*w).toNat):aL (rosL h w c z) n:=by
 have b:=F.w0;unfold rosL
 cases e:(squL h w).find? (rosP c z) with
 | none=>exact⟨by show(0:Nat)<=63;lia,λx a=>by cases a⟩
 | some q=>
  obtain⟨i,j,d,rfl⟩:=o5 (Qe e);refine⟨Nk (Np _ _) (by show(4:Nat)<=63;lia),λx a=>?_⟩;have:=Jv b #[4] d (Nf.mp a).1;lia
def hX(K:Frag):Sp:=#[3,∃ f h w g c z,vs=[.ref f,.int c,.int z]/\IsFl H f h w g/\FlOk h w g/\∀ l a,Same H a->H l=none->a l=↥((rosL h w c z).map V.int)->Q (.ref l) a]
def h9(K:Frag):TS:=#[":gKtb,~-ba0dh#3 n~blcqbck3ef#0 1lcJbB23ju&--2 tb3h#1 lcFb121ojsd"]
theorem tG(h:hX K vs H Q E):h9 K (eD9 Q) (start ["floor","corner","cell","square"] vs) H:=by
 obtain⟨f,h,w,g,c,z,rfl,J,F,q⟩:=h;ac_nf;unfold h9;rw[aG];exists⟨f,h,w,g,rfl,J,F,λl N W s1 hl x nd nl hn=>?_⟩;refine⟨l,rfl,⟨_,Nm x.top⟩,?_⟩;refine bz (K:=K) (xs:=N.map V.ref) (λi σ O=>∃ I:Option V,σ=[↑f,⇑c,⇑z,I]/\Same W O/\∀(j:Nat) (q:∅),j<i->(squL h w)[j]? =some q->rosP c z q=false) ⟨none,rfl,M5 _,λj q D=>by lia⟩ (λi σ O _ ⟨_,_,s,_⟩=>s.seq (Nm x.top)) ?_ ?_
 . rintro i v σ U r ⟨I,rfl,d,b⟩;rw[M7]at r
   cases A:N[i]? with
   | none=>rw[A]at r;cases r
   | some a=>
   rw[A]at r;cases r;have m:i < (squL h w).length:=by rw[← x.len];exact(M6.mp A).1
   have S:(squL h w)[i]? =some (squL h w)[i]:=M0 m;have B:=(x.same d).at_ i a _ A S
   have q4:((squL h w)[i]).length=4:=by
    obtain⟨k,_,_,e⟩:=o5 (NB m);rw[e];rfl
   have nx:rosP c z (squL h w)[i]=false->∀(j:Nat) (q:∅),j<i+1->(squL h w)[j]? =some q->rosP c z q=false:=λJ j q D o=>by
    by_cases L:j=i
    . subst L;rw[S]at o;cases o;exact J
    . exact b j q #[4] o
   have t:rosP c z (squL h w)[i]=true->rosL h w c z=(squL h w)[i].filter λx=>!decide (x=z):=λY=>by
    have e:(squL h w).find? (rosP c z)=some (squL h w)[i]:=by
     rw[PC];refine⟨Y,i,m,rfl,λj D=>?_⟩;rw[b j _ D (M0 #[4])];rfl
    unfold rosL;rw[e]
   generalize (squL h w)[i]=sq at*;unfold rosP at nx t;symm;rw[aD];exists ixI B #[1] #[4] ?_;rw[show(0:Int).toNat=0 from rfl];symm
   cases C:decide (sq.getD 0 0=c) with
   | false=>
    rw[C,Nw]at nx;refine iteF ?_;exists⟨_,rfl,d,nx rfl⟩
   | true=>
    rw[C,Nv]at nx t;refine iteT ?_;rw[oo B]
    cases p:decide (z∈sq) with
    | false=>
     rw[p]at nx;refine⟨false,rfl,?_⟩;exists⟨_,rfl,d,nx rfl⟩
    | true=>
     rw[p]at t;refine⟨true,rfl,?_⟩;exists⟨⟨_,Nm B⟩,?_⟩;refine aS (xs:=sq) (λx=>!decide (x=z)) (λx=>x) #[4] (Nm B) ?_ ?_ ?_
     . intro y n R X G k3;show tTest _ [none,⇑y,⇑z] n R;exists k3 _ (M5 _)
     . intro y n Z X C G k3;show tVar 1 [none,⇑y,⇑z] n Z;exists k3 _ (M5 _)
     . intro T n u G M;rw[Oi,← t rfl]at M;exact q T n ((s1.trans d).trans G) ((s1.trans d).free u) M
 . rintro σ U ⟨I,rfl,d,b⟩
   have e:rosL h w c z=[]:=by
    have e:(squL h w).find? (rosP c z)=none:=by
     rw[List.find?_eq_none];intro q o;obtain⟨i,P⟩:=List.getElem?_of_mem o;rw[b i q (by rw[MZ,x.len];exact(M6.mp P).1) P];decide
    unfold rosL;rw[e]
   exists⟨aP #[1],λT u=>?_⟩;exact q T _ ((s1.trans d).trans ((M5 U).laid u)) ((s1.trans d).free u) (by rw[ah,e];rfl)
def squB(h w m:Int)(MN:∅)(z s:Int)(ms:∅):Bool:=decide (s=m)&&(decide (ms.length=1)&&(!decide (rosL h w (ms.getD 0 0) z=[])&&decide (((sgAt MN (rosL h w (ms.getD 0 0) z)).filter λk=>decide (woI k s=0)).length=(rosL h w (ms.getD 0 0) z).length)))
def ic(K:Frag)(c:QZ):Sp:=#[3,∃ k f r p A M e cs a d n m z s h w g,vs=[.ref f,.ref r,.ref A,.int z,.int s,.ref M]/\IsFl H f h w g/\FlOk h w g/\IsRule H c k r p e cs n m/\a.length=(h*w).toNat/\H A=↥(a.map V.int)/\H M=↥(d.map V.int)/\s<=1000/\∀ b,Same H b->Q (.bl (squB h w m a z s d)) b]
def fY(K:Frag)(c:QZ):TS:=#[":gm,'[ba0ack5ef#0 a3dh#6 jLcFb6sdcqb,~Hba,~iba2a6da4dpza6d"]
def ie(K:Frag)(c:QZ):TS:=#[":gnPlcFb4xiC~p~qbi1dlcFbpza5def#1 jeIBo']bi"]
variable{c:QZ}{MN:∅}
theorem qu {f A M:Addr} {C:V} {ms:∅} {s g:Int} (x:IsFl H f h w g) (F:FlOk h w g) (i:MN.length=(h*w).toNat) (t:H A=↥(MN.map V.int)) (v:H M=↥(ms.map V.int)) (J:ms.length=1) (I:s<=1000)
  (q:∀ o,Same H o->Q (.bl (!decide (rosL h w (ms.getD 0 0) z=[])&&decide (((sgAt MN (rosL h w (ms.getD 0 0) z)).filter λk=>decide (woI k s=0)).length=(rosL h w (ms.getD 0 0) z).length))) o):
  fY K c (eD9 Q) [↑f,some C,↑A,⇑z,⇑s,↑M,none] H:=by
 have b:=EF (c:=ms.getD 0 0) (z:=z) F i;unfold fY;exists ixI v #[1] #[4] ?_;rw[show(0:Int).toNat=0 from rfl];exists⟨f,h,w,g,_,z,rfl,x,F,λR j s1 E d=>?_⟩;exists⟨aP #[1],λZ r=>?_⟩;obtain⟨H2,z9,s2,eZ⟩:∃ z,upd j Z (.lst [])=z/\Same j z/\z Z=↥(([]:∅).map V.int):=aW _ r;rw[z9];have a:=s1.trans s2;refine tp (s2 _ _ d) eZ ?_;generalize p:rosL h w (ms.getD 0 0) z=ros at*
 cases l:decide (ros=[]) with
 | true=>
  rw[l,OV]at q;refine⟨false,rfl,iteF ?_⟩;exact q _ a
 | false=>
  rw[l,OO]at q;refine⟨true,rfl,iteT ?_⟩;exists⟨A,R,MN,ros,rfl,a _ _ t,s2 _ _ d,b,λB G n L u=>?_⟩;dsimp only;refine⟨B,_,s,rfl,u,by unfold sgAt;rw[MZ];exact b.1,by lia,λy m=>?_⟩;symm;rw[a8 (((s2.trans n).trans m) _ _ d),MZ];symm;have D:=q y ((a.trans n).trans m)
  have e:decide ((((sgAt MN ros).filter λk=>decide (woI k s=0)).length:Int)=(ros.length:Int))=decide (((sgAt MN ros).filter λk=>decide (woI k s=0)).length=ros.length):=by
   rw[ND,M4,M4];lia
  rw[e];exact D
theorem tH(h:ic K c vs H Q E):ie K c (eD9 Q) (start ["floor","rule","masks","cell","sign","more","rest"] vs) H:=by
 obtain⟨k,f,r,p,A,M,l,cs,MN,d,n,m,z,s,h,w,g,rfl,j,F,x,b,t,e,o,q⟩:=h;obtain⟨u,W,C,h1,h2,h3⟩:=x.ex;ac_nf;unfold ie;rw[aG,aD];exists methE (k:=k) rfl x.ok h1 (by rfl) ?_;exists⟨r,p,l,cs,n,m,rfl,x,?_⟩;symm;unfold squB at q
 cases i:decide (s=m) with
 | false=>
  rw[i,Nw]at q;exists q _ (M5 _)
 | true=>
  rw[i,Nv]at q;symm;rw[a8 e,MZ];symm
  have e1:decide ((d.length:Int)=1)=decide (d.length=1):=by
   rw[ND,M4,M4];lia
  rw[e1]
  cases a:decide (d.length=1) with
  | false=>
   rw[a,Nw]at q;exists q _ (M5 _)
  | true=>
   rw[a,Nv]at q;exists qu j F b t e (Nb a) o q
theorem yq(t:TK):decide (tkC t=s!"square")=decide (t=.square):=by cases t <;> decide
def othL(cs:∅)(z:Int):∅:=cs.filter λx=>!decide (x=z)
def cntB(cs:∅)(n m:Int)(MN:∅)(z s:Int)(ms:∅):Bool:=
 decide (ms=[])&&(if s=m then decide (n<=(((sgAt MN (othL cs z)).filter λk=>decide (woI k s=0)).length:Int)) else decide ((((sgAt MN (othL cs z)).filter λk=>stB k m).length:Int)<n))
def iV(K:Frag)(c:QZ):Sp:=#[3,∃ k r p A M d cs MN b n m z s,vs=[.ref r,.ref A,.int z,.int s,.ref M]/\IsRule H c k r p d cs n m/\aL cs MN.length/\H A=↥(MN.map V.int)/\H M=↥(b.map V.int)/\s<=1000/\∀ a,Same H a->Q (.bl (cntB cs n m MN z s b)) a]
def gy(K:Frag)(c:QZ):TS:=#[":gm,~iba1a,Zbia0a2ddh#5 gnlcqb3xiC~p~qbi0djc),~Hba5a3dxiC~I~Jbi0dojc<,~Gba5axiC~p~qbi0ddxiC~I~Jbi0d"]
def iW(K:Frag)(c:QZ):TS:=#[":gnlcFb4sdjeIBo'^bi"]
variable{cs:∅}{m:Int}
theorem ra {k:RK} {r p A M:Addr} {e:List (List Nat)} {n s:Int} (x:IsRule H c k r p e cs n m) (j:aL cs MN.length) (I:H A=↥(MN.map V.int)) (G:s<=1000)
  (q:∀ o,Same H o->Q (.bl (if s=m then decide (n<=(((sgAt MN (othL cs z)).filter λk=>decide (woI k s=0)).length:Int)) else decide ((((sgAt MN (othL cs z)).filter λk=>stB k m).length:Int)<n))) o):
  gy K c (eD9 Q) [↑r,↑A,⇑z,⇑s,↑M,none] H:=by
 have f:aL (othL cs z) MN.length:=⟨Nk (Np _ _) j.1,λy E=>j.2 y (Nf.mp E).1⟩;have u:(sgAt MN (othL cs z)).length<=63:=by unfold sgAt;rw[MZ];exact f.1
 unfold gy;exists⟨k,r,p,e,cs,n,m,z,rfl,x,j.1,λO P s1 T J=>?_⟩;exists⟨A,O,MN,othL cs z,rfl,s1 _ _ I,J,f,λB U F R t=>?_⟩;have a:=s1.trans F;have b:=x.same a;obtain⟨S,W,C,h1,h2,h3⟩:=b.ex;symm;rw[aD];exists methE (k:=k) rfl b.ok h1 (by rfl) ?_;exists⟨r,p,e,cs,n,m,rfl,b,?_⟩;symm;by_cases h:s=m
 . rw[NA h]at q;rw[M3 h];exists⟨B,_,_,rfl,t,u,by lia,λD g=>?_⟩;have d:=b.same g;obtain⟨l,N,w,i,v,L⟩:=d.ex;refine methE (k:=k) rfl d.ok i (by rfl) ?_;exists⟨r,p,e,cs,n,m,rfl,d,?_⟩;exists q _ (a.trans g)
 . rw[Nt h]at q;rw[M2 h];exists methE (k:=k) rfl b.ok h1 (by rfl) ?_;exists⟨r,p,e,cs,n,m,rfl,b,?_⟩;exists⟨B,_,_,rfl,t,u,λD g=>?_⟩;have d:=b.same g;obtain⟨l,N,w,i,v,L⟩:=d.ex;refine methE (k:=k) rfl d.ok i (by rfl) ?_;exists⟨r,p,e,cs,n,m,rfl,d,?_⟩;exists q _ (a.trans g)
theorem uI(h:iV K c vs H Q E):iW K c (eD9 Q) (start ["rule","masks","cell","sign","more","some"] vs) H:=by
 obtain⟨k,r,p,A,M,o,cs,MN,l,n,m,z,s,rfl,x,d,j,b,g,q⟩:=h;ac_nf;unfold iW;rw[aG,aD];exists⟨aP #[1],λZ e=>?_⟩;obtain⟨H1,z9,s1,eZ⟩:∃ z,upd H Z (.lst [])=z/\Same H z/\z Z=↥(([]:∅).map V.int):=aW _ e;rw[z9];refine tp (s1 _ _ b) eZ ?_;unfold cntB at q
 cases a:decide (l=[]) with
 | false=>
  rw[a,Nw]at q;refine⟨true,rfl,?_⟩;exists q _ s1
 | true=>
  rw[a,Nv]at q;refine⟨false,rfl,?_⟩;exists ra (x.same s1) d (s1 _ _ j) g λi f=>q i (s1.trans f)
theorem FQ(t:TK):decide (tkC t=s!"count")=decide (t=.count):=by cases t <;> decide
variable{xs:∅}
theorem ky{q:Addr}{x:Int}(j:H q=↥(xs.map V.int))(k:x∈xs)(l:xs.length<=900)(h:Q (.int (xs.findIdx (· ==x):Nat)) H):jv K (.ref q) [.int x] H Q:=by
 have c:xs.findIdx (· ==x)<xs.length:=Pt ⟨x,k,by simp⟩
 have g:∀ a b:Int,PyData.eqv (.int a) (.int b)=decide (a=b):=λa b=>by
  rw[PyData.eqv];by_cases h:a=b
  . subst h;simp
  . simp[h]
 refine⟨xs.map PyData.int,.int x,xs.findIdx (· ==x),.lst (Nm j) (.ints xs),.int x,qb xs,rfl,?_,by lia,⟨PyData.int xs[xs.findIdx (· ==x)],?_,?_⟩,λm e d i=>?_,h⟩
 . rw[lW];lia
 . rw[M7,M0 c];rfl
 . have:=List.findIdx_getElem (w:=c);rw[g,M4]
   simpa using this
 . have f:m<xs.length:=by lia
   rw[M7,M0 f]at i;cases i;have:=List.not_of_lt_findIdx d;rw[g,Oe]
   simpa using this
def fg(xs:∅)(x:Int):Nat:=xs.findIdx (· ==x)
def ordB(cs ms:∅):Bool:=decide (ms.length=2)&&(decide (ms.getD 0 0∈cs)&&(decide (ms.getD 1 0∈cs)&&decide (fg cs (ms.getD 0 0)<fg cs (ms.getD 1 0))))
def fZ(K:Frag):Sp:=#[3,∃ C M cs a,vs=[.ref C,.ref M]/\H C=↥(cs.map V.int)/\cs.length<=63/\H M=↥(a.map V.int)/\Q (.bl (ordB cs a)) H]
def f6(K:Frag):TS:=#[":gnPlcFbpza1def#2 PlcJbQck1ef#0 0lcJbQck1ef#1 0jeIBojc<DbE~rb0ack1ef#0 dDbE~rb0ack1ef#1 d"]
theorem qv(h:fZ K vs H Q E):f6 K (eD9 Q) (start ["cells","more"] vs) H:=by
 obtain⟨C,M,cs,a,rfl,d,i,e,q⟩:=h;ac_nf;unfold f6;rw[aG,aD];symm;rw[a8 e,MZ];symm;unfold ordB at q
 have e1:decide ((a.length:Int)=2)=decide (a.length=2):=by
  rw[ND,M4,M4];lia
 rw[e1]
 cases f:decide (a.length=2) with
 | false=>
  rw[f,Nw]at q;symm;exact q
 | true=>
  rw[f,Nv]at q;have g:=Nb f;exists ixI e #[1] #[4] ?_;rw[show(0:Int).toNat=0 from rfl];symm;rw[kT d]
  cases c:decide (a.getD 0 0∈cs) with
  | false=>
   rw[c,Nw]at q;refine⟨true,rfl,iteT ?_⟩;symm;exact q
  | true=>
   rw[c,Nv]at q;refine⟨false,rfl,iteF ?_⟩;exists ixI e #[1] #[4] ?_;rw[show(1:Int).toNat=1 from rfl];symm;rw[kT d]
   cases b:decide (a.getD 1 0∈cs) with
   | false=>
    rw[b,Nw]at q;refine⟨true,rfl,iteT ?_⟩;symm;exact q
   | true=>
    rw[b,Nv]at q;refine⟨false,rfl,iteF ?_⟩;exists⟨aZ d,?_⟩;refine ixI e #[1] #[4] ?_;rw[show(0:Int).toNat=0 from rfl];exists ky d (Nb c) #[4] ?_;exists⟨aZ d,?_⟩;refine ixI e #[1] #[4] ?_;rw[show(1:Int).toNat=1 from rfl];exists ky d (Nb b) #[4] ?_;symm
    have e2:decide (((cs.findIdx (· ==a.getD 0 0):Nat):Int) < ((cs.findIdx (· ==a.getD 1 0):Nat):Int))=decide (fg cs (a.getD 0 0)<fg cs (a.getD 1 0)):=by
     rw[ND,M4,M4];unfold fg;lia
    rw[e2];exact q
def orM(MN:∅)(ms:∅):Int:=Builtin.bitOr (MN.getD (ms.getD 0 0).toNat 0) (MN.getD (ms.getD 1 0).toNat 0)
def pairB(cs MN:∅)(z s:Int)(ms:∅):Bool:=ordB (cs.filter λx=>!decide (x=z)) ms&&decide (((sgL (orM MN ms)).filter λx=>!decide (x=s)).length<=1)
theorem Am{a b:Int}(d:0<=a)(c:0<=b):Builtin.bitOr a b=((a.toNat||| b.toNat:Nat):Int):=by
 have f:∀{x:Int},0<=x->decide (0<= -x-1)=false/\ -(-x-1)-1=x:=λh=>⟨M2 #[4],by lia⟩;unfold Builtin.bitOr Builtin.bitAnd Builtin.bitNot;rw[(f d).1,(f c).1];show -(-((((-(-a-1)-1).toNat||| (-(-b-1)-1).toNat:Nat):Int))-1)-1=_;rw[(f d).2,(f c).2];lia
theorem Gq{a b:Int}(d:0<=a)(e:a<64)(c:0<=b)(f:b<64):0<=Builtin.bitOr a b/\Builtin.bitOr a b<64:=by
 have l:a.toNat||| b.toNat<2^6:=Qi #[4] #[4];rw[Am d c];lia
theorem ID:((List.range 64).all λm=>decide (Builtin.Int.intBits (m:Int)<=6)&&decide (sgL (m:Int)=(([0,1,2,3,4,5]:List Nat).filter λ(i:Nat)=>stB (m:Int) (1+(i:Int))).map λ(i:Nat)=>1+(i:Int)))=true:=by decide+kernel
theorem iA(a:0<=m)(b:m<64):Builtin.Int.intBits m<=6/\sgL m=(([0,1,2,3,4,5]:List Nat).filter λ(i:Nat)=>stB m (1+(i:Int))).map λ(i:Nat)=>1+(i:Int):=by
 have t:=Na.mp ID m.toNat (Nj.mpr #[4]);have e1:((m.toNat:Nat):Int)=m:=by lia
 rw[e1,M9,M4,M4]at t;exact t
theorem vQ{i:Int}(mm:∀ m∈MN,0<=m/\m<64)(c:0<=i)(b:i<MN.length):0<=MN.getD i.toNat 0/\MN.getD i.toNat 0<64:=by
 have a:i.toNat<MN.length:=by lia
 rw[List.getD,M0 a];exact mm _ (NB a)
def jI(K:Frag)(c:QZ):Sp:=#[3,∃ k r p A M d cs MN b n m z s,vs=[.ref r,.ref A,.int z,.int s,.ref M]/\IsRule H c k r p d cs n m/\aL cs MN.length/\(∀ m∈MN,0<=m/\m<64)/\H A=↥(MN.map V.int)/\H M=↥(b.map V.int)/\∀ a,Same H a->Q (.bl (pairB cs MN z s b)) a]
def gR(K:Frag)(c:QZ):TS:=#[":gm,]bac'gck1ck4ef#0 ck1ck4ef#1 dh#5 jc(pzau&--3 tb5h#1 lcFb121def#1 "]
def jJ(K:Frag)(c:QZ):TS:=#[":gnSA,{aba,Zbia0a2da4djeIBo{bbi"]
theorem rW {A M:Addr} {ms:∅} {s:Int} {y:V} (j:aL cs MN.length) (mm:∀ m∈MN,0<=m/\m<64) (n:H A=↥(MN.map V.int)) (o:H M=↥(ms.map V.int)) (g:ordB (cs.filter λx=>!decide (x=z)) ms=true)
  (q:∀ k,Same H k->Q (.bl (decide (((sgL (orM MN ms)).filter λx=>!decide (x=s)).length<=1))) k):
  gR K c (eD9 Q) [some y,↑A,⇑z,⇑s,↑M,none] H:=by
 unfold ordB at g;simp only[M9,M4]at g;obtain⟨E,w,C,_⟩:=g;have e:=j.2 _ (Nf.mp w).1;have d:=j.2 _ (Nf.mp C).1;have k0:=vQ mm e.1 e.2;have k1:=vQ mm d.1 d.2;have b:=Gq k0.1 k0.2 k1.1 k1.2;have F:=(iA b.1 b.2).1;unfold gR;exists ixI o #[1] #[4] ?_;rw[show(0:Int).toNat=0 from rfl];exists ixI n e.1 e.2 ?_;exists ixI o #[1] #[4] ?_;rw[show(1:Int).toNat=1 from rfl];exists ixI n d.1 d.2 ?_;exists⟨_,rfl,by lia,λl p s1 B u=>?_⟩;have a:p l=↥((sgL (orM MN ms)).map V.int):=u
 have r:(sgL (orM MN ms)).length<=6:=by
  unfold orM;rw[(iA b.1 b.2).2,MZ];exact Np _ _
 exists⟨⟨_,Nm a⟩,?_⟩;refine aS (xs:=sgL (orM MN ms)) (λx=>!decide (x=s)) (λx=>x) #[4] (Nm a) ?_ ?_ ?_
 . intro x f R v h k2;show tTest _ [none,⇑x,⇑s] f R;exists k2 _ (M5 _)
 . intro x f t v D h k2;show tVar 1 [none,⇑x,⇑s] f t;exists k2 _ (M5 _)
 . intro T f G h i;rw[Oi]at i;symm;rw[a8 i,MZ];symm
   have e2:decide ((((sgL (orM MN ms)).filter λx=>!decide (x=s)).length:Int)<=1)=decide (((sgL (orM MN ms)).filter λx=>!decide (x=s)).length<=1):=by
    rw[ND,M4,M4];lia
   rw[e2];exact q _ (s1.trans h)
theorem vR(h:jI K c vs H Q E):jJ K c (eD9 Q) (start ["rule","masks","cell","sign","more","together"] vs) H:=by
 obtain⟨k,r,p,A,M,i,cs,MN,e,n,m,z,s,rfl,x,a,g,o,d,q⟩:=h;ac_nf;unfold jJ;rw[aG,aD];exists⟨k,r,p,i,cs,n,m,z,rfl,x,a.1,λO t s1 u f=>?_⟩;exists⟨O,M,_,e,rfl,f,Nk (Np _ _) a.1,s1 _ _ d,?_⟩;unfold pairB at q
 cases b:ordB (cs.filter λx=>!decide (x=z)) e with
 | false=>
  rw[b,Nw]at q;refine⟨false,rfl,iteT ?_⟩;exists q _ s1
 | true=>
  rw[b,Nv]at q;refine⟨true,rfl,iteF ?_⟩;exact rW a g (s1 _ _ o) (s1 _ _ d) b λl j=>q l (s1.trans j)
theorem G8(t:TK):decide (tkC t=s!"step")=decide (t=.step):=by cases t <;> decide
theorem Cd(xs:List V){a b:Nat}(c:a<=b):cutV xs (some (a:Int)) (some (b:Int))=(xs.drop a).take (b-a):=by
 have h1:HT.sIx xs.length 0 (some (a:Int))=min a xs.length:=by rw[HT.sIx_nat]
 have h2:HT.sIx xs.length xs.length (some (b:Int))=min b xs.length:=by rw[HT.sIx_nat]
 unfold cutV;rw[h1,h2];by_cases e:a<=xs.length
 . rw[PP e];by_cases d:b<=xs.length
   . rw[PP d]
   . rw[Pf #[4],N0 (by simp),N0 (by simp;lia)]
 . rw[Pf #[4],Pf #[4],PD,Qz #[4]];simp
theorem kX {k:Nat} {a:Addr} {te:TE} {c:Addr->Hp->Prop} {j:St} {b:Hp} (f:Int->Bool) (p:xs.length<=900) (q:SqL K b a (xs.map V.int))
  (r:∀ x H Q,x∈xs->Same b H->(∀ g,Same H g->Q (.bl (f x)) g)->te (j.set k ⇑x) H Q)
  (o:∀ l H,b l=none->Same b H->H l=↥((xs.map f).map V.bl)->c l H):
  CompR (Itl K a) (gName k) tTrue te c j b:=by
 refine cH (xs:=xs.map V.int) (λ_=>true) (λi=>.bl (f (xs.getD i 0))) (by rw[MZ];exact p) q ?_ ?_ ?_
 . intro i x H R e s1 k1;exact k1 _ (M5 _)
 . intro i x H Q e s s1 h;obtain⟨z,d,rfl⟩:=aN e;have h2:=h;simp only[eX d]at h2;exact r z H Q (M8 d) s1 h2
 . intro l H n s1 m;refine o l H n s1 ?_;rw[m,bg,MZ,NH]
   congr 2
   exact qG xs λx=>V.bl (f x)
def ahdL(cs:∅)(z:Int):∅:=if 0<fg cs z then [cs.getD (fg cs z-1) 0] else []
def behL(cs:∅)(z:Int):∅:=if fg cs z+1<cs.length then [cs.getD (fg cs z+1) 0] else []
def zv(h:z∈cs):fg cs z<cs.length:=Pt ⟨z,h,by simp⟩
theorem Ce{o:Int}(h:z∈cs)(a:o∈ahdL cs z):o∈cs:=by
 have:=zv h;unfold ahdL at a
 split at a
 . rw[Nd.mp a,List.getD,M0 #[4]];exact NB _
 . cases a
theorem Cf{o:Int}(a:o∈behL cs z):o∈cs:=by
 unfold behL at a
 split at a
 . rename_i h
   rw[Nd.mp a,List.getD,M0 h];exact NB _
 . cases a
theorem An(cs:∅)(k:Nat):(cs.drop k).take 1=if k<cs.length then [cs.getD k 0] else []:=by
 by_cases h:k<cs.length
 . rw[NA h,OC h,List.getD,M0 h];rfl
 . rw[Nt h,Qz #[4]];rfl
def oE(K:Frag)(c:QZ):Sp:=#[3,∃ k r p b cs n m z,vs=[.ref r,.int z]/\IsRule H c k r p b cs n m/\cs.length<=63/\z∈cs/\∀ l a,Same H a->H l=none->a l=↥((ahdL cs z).map V.int)->Q (.ref l) a]
def oF(K:Frag)(c:QZ):TS:=#[":gmxiC~m~nbi0dh#2 gmDbE~rb2a1dh#3 j~xlc>3ef#0 ?[2YcO3ef#1 Y3sd"]
theorem BC(h:oE K c vs H Q E):oF K c (eD9 Q) (start ["rule","cell","spots","place"] vs) H:=by
 obtain⟨k,r,p,i,cs,n,m,z,rfl,x,v,e,q⟩:=h;obtain⟨w,W,C,h1,h2,h3⟩:=x.ex;have o:=zv e;ac_nf;unfold oF;rw[aG,bC];refine methE (k:=k) rfl x.ok h1 (by rfl) ?_;exists⟨r,p,i,cs,n,m,rfl,x,λS f=>?_⟩;obtain⟨u,t,s1,b⟩:=aW (.lst (cs.map V.int)) f;rw[t];exists⟨aZ b,?_⟩;refine ky b e #[4] ?_;have s:(cs.findIdx (· ==z))=fg cs z:=rfl;rw[s];unfold ahdL at q;generalize fg cs z=j at*;symm;by_cases d:0<j
 . rw[NA d]at q;rw[M3 (show(0:Int) < (j:Int) by lia)];refine iteT ?_;refine qd b λl a=>?_;have g:(j:Int)-1=((j-1:Nat):Int):=by lia
   rw[g,Cd _ #[4],show j - (j-1)=1 by lia,← List.map_drop,← Pj,An,NA #[4]];exact q l _ (s1.laid a) (s1.free a) ah
 . rw[Nt d]at q;rw[M2 (show ¬ (0:Int) < (j:Int) by lia)];refine iteF ?_;refine⟨aP #[1],λl a=>?_⟩;exact q l _ (s1.laid a) (s1.free a) ah
def rX(K:Frag)(c:QZ):Sp:=#[3,∃ k r p b cs n m z,vs=[.ref r,.int z]/\IsRule H c k r p b cs n m/\cs.length<=63/\z∈cs/\∀ l a,Same H a->H l=none->a l=↥((behL cs z).map V.int)->Q (.ref l) a]
def rY(K:Frag)(c:QZ):TS:=#[":gmxiC~m~nbi0dh#2 gmDbE~rb2a1dh#3 j?[2Ycy3ef#1 Ycy3ef#2 "]
theorem EG(h:rX K c vs H Q E):rY K c (eD9 Q) (start ["rule","cell","spots","place"] vs) H:=by
 obtain⟨k,r,p,g,cs,n,m,z,rfl,x,u,o,q⟩:=h;obtain⟨v,W,C,h1,h2,h3⟩:=x.ex;ac_nf;unfold rY;rw[aG,bC];refine methE (k:=k) rfl x.ok h1 (by rfl) ?_;exists⟨r,p,g,cs,n,m,rfl,x,λS d=>?_⟩;obtain⟨t,s,s1,a⟩:=aW (.lst (cs.map V.int)) d;rw[s];exists⟨aZ a,?_⟩;refine ky a o #[4] ?_;have i:(cs.findIdx (· ==z))=fg cs z:=rfl;rw[i];unfold behL at q;generalize fg cs z=j at*;exists qd a λl b=>?_;have e:(j:Int)+1=((j+1:Nat):Int):=by lia
 have f:(j:Int)+2=((j+2:Nat):Int):=by lia
 rw[e,f,Cd _ #[4],show j+2 - (j+1)=1 by lia,← List.map_drop,← Pj,An];exact q l _ (s1.laid b) (s1.free b) ah
def nogB(s m:Int):Bool:=(sgL m).all λx=>decide (s<=x)
def nolB(s m:Int):Bool:=(sgL m).all λx=>decide (x<=s)
theorem Gr(a:0<=m)(b:m<64):(sgL m).length<=6:=by
 rw[(iA a b).2,MZ];exact Np _ _
def iX(K:Frag):Sp:=#[3,∃ s m:Int,vs=[.int s,.int m]/\0<=m/\m<64/\∀ a,Same H a->Q (.bl (nogB s m)) a]
def iY(K:Frag):TS:=#[":jp+au&--0 tb,]ba1dh#1 Gc(21d"]
theorem uJ(h:iX K vs H Q E):iY K (eD9 Q) (start ["sign","mask"] vs) H:=by
 obtain⟨s,m,rfl,f,b,q⟩:=h;have o:=(iA f b).1;have r:=Gr f b;exists iY;refine⟨m,rfl,by lia,λl j s1 n c=>?_⟩;refine⟨l,rfl,⟨_,Nm c⟩,?_⟩;refine kX (xs:=sgL m) (λx=>decide (s<=x)) #[4] (Nm c) ?_ ?_
 . intro x d g p e k2;show tOp _ _ _ [none,⇑x,⇑s] d g;exists k2 _ (M5 _)
 . intro k d i e a;exists kU a ?_;rw[OL];exact q _ (s1.trans e)
def lD(K:Frag):Sp:=#[3,∃ s m:Int,vs=[.int s,.int m]/\0<=m/\m<64/\∀ a,Same H a->Q (.bl (nolB s m)) a]
def lE(K:Frag):TS:=#[":jp+au&--0 tb,]ba1dh#1 Gc)21d"]
theorem yU(h:lD K vs H Q E):lE K (eD9 Q) (start ["sign","mask"] vs) H:=by
 obtain⟨s,m,rfl,f,b,q⟩:=h;have o:=(iA f b).1;have r:=Gr f b;exists lE;refine⟨m,rfl,by lia,λl j s1 n c=>?_⟩;refine⟨l,rfl,⟨_,Nm c⟩,?_⟩;refine kX (xs:=sgL m) (λx=>decide (x<=s)) #[4] (Nm c) ?_ ?_
 . intro x d g p e k2;show tOp _ _ _ [none,⇑x,⇑s] d g;exists k2 _ (M5 _)
 . intro k d i e a;exists kU a ?_;rw[OL];exact q _ (s1.trans e)
def stpB(cs MN:∅)(z s:Int):Bool:=((ahdL cs z).any λo=>nogB s (MN.getD o.toNat 0))||((behL cs z).any λo=>nolB s (MN.getD o.toNat 0))
def stepB(cs MN:∅)(z s:Int)(ms:∅):Bool:=decide (ms=[])&&stpB cs MN z s
def jK(K:Frag)(c:QZ):Sp:=#[3,∃ k r p A M d cs MN b n m z s,vs=[.ref r,.ref A,.int z,.int s,.ref M]/\IsRule H c k r p d cs n m/\aL cs MN.length/\z∈cs/\(∀ m∈MN,0<=m/\m<64)/\H A=↥(MN.map V.int)/\H M=↥(b.map V.int)/\∀ a,Same H a->Q (.bl (stepB cs MN z s b)) a]
def gS(K:Frag)(c:QZ):TS:=#[":gnAp~/au&--13 tb,{cbia0a2dh#1 G,{dba3ack21ddjeIQojp~/au&--13 tb,{ebia0a2dh#1 G,{fba3ack21dd"]
def jL(K:Frag)(c:QZ):TS:=#[":gnlcFb4sdjeIBo{gbi"]
theorem rZ {k:RK} {r p A M:Addr} {u:List (List Nat)} {n s:Int} (x:IsRule H c k r p u cs n m) (f:aL cs MN.length) (v:z∈cs) (mm:∀ m∈MN,0<=m/\m<64) (D:H A=↥(MN.map V.int))
  (q:∀ C,Same H C->Q (.bl (stpB cs MN z s)) C):
  gS K c (eD9 Q) [↑r,↑A,⇑z,⇑s,↑M] H:=by
 have X:(ahdL cs z).length<=1:=by unfold ahdL;split <;> simp
 have Y:(behL cs z).length<=1:=by unfold behL;split <;> simp
 unfold gS;rw[aG,aD];exists⟨k,r,p,u,cs,n,m,z,rfl,x,f.1,v,λl R s1 T y=>?_⟩;refine⟨l,rfl,⟨_,Nm y⟩,?_⟩;refine kX (xs:=ahdL cs z) (λo=>nogB s (MN.getD o.toNat 0)) #[4] (Nm y) ?_ ?_
 . intro o F I g h k2;have a:=f.2 o (Ce v g);have d:=vQ mm a.1 a.2;show tCall _ _ _ _ [none,⇑o,↑A,⇑s] F I;exists ixI ((s1.trans h) _ _ D) a.1 a.2 ?_;exact⟨s,_,rfl,d.1,d.2,k2⟩
 . intro W F O h j;exists CS j ?_;have b:=s1.trans h;rw[QV];unfold stpB at q;have P:(ahdL cs z).any (id ∘ λo=>nogB s (MN.getD o.toNat 0))=(ahdL cs z).any λo=>nogB s (MN.getD o.toNat 0):=rfl;rw[P]
   cases w:(ahdL cs z).any λo=>nogB s (MN.getD o.toNat 0) with
   | true=>
    rw[w,Pg]at q;refine⟨true,rfl,iteT ?_⟩;exists q _ b
   | false=>
    rw[w,Of]at q;refine⟨false,rfl,iteF ?_⟩;exists⟨k,r,p,u,cs,n,m,z,rfl,x.same b,f.1,v,λJ S B G e=>?_⟩;refine⟨J,rfl,⟨_,Nm e⟩,?_⟩;refine kX (xs:=behL cs z) (λo=>nolB s (MN.getD o.toNat 0)) #[4] (Nm e) ?_ ?_
    . intro o E L g i k4;have a:=f.2 o (Cf g);have d:=vQ mm a.1 a.2;show tCall _ _ _ _ [none,⇑o,↑A,⇑s] E L;exists ixI (((b.trans B).trans i) _ _ D) a.1 a.2 ?_;exact⟨s,_,rfl,d.1,d.2,k4⟩
    . intro U E N i t;exists CS t ?_;rw[QV];exact q _ ((b.trans B).trans i)
theorem vS(h:jK K c vs H Q E):jL K c (eD9 Q) (start ["rule","masks","cell","sign","more"] vs) H:=by
 obtain⟨k,r,p,A,M,t,cs,MN,o,n,m,z,s,rfl,x,d,l,f,j,b,q⟩:=h;ac_nf;unfold jL;rw[aG,aD];exists⟨aP #[1],λZ e=>?_⟩;obtain⟨H1,z9,s1,eZ⟩:∃ z,upd H Z (.lst [])=z/\Same H z/\z Z=↥(([]:∅).map V.int):=aW _ e;rw[z9];refine tp (s1 _ _ b) eZ ?_;unfold stepB at q
 cases a:decide (o=[]) with
 | false=>
  rw[a,Nw]at q;refine⟨true,rfl,?_⟩;exists q _ s1
 | true=>
  rw[a,Nv]at q;refine⟨false,rfl,?_⟩;exists rZ (x.same s1) d l f (s1 _ _ j) λi g=>q i (s1.trans g)
section
variable{X:Cx}
def minI(ns:∅):Int:=ns.getD (argBest (λi j=>decide (ns.getD i 0<ns.getD j 0)) (ns.length-1)) 0
def maxI(ns:∅):Int:=ns.getD (argBest (λi j=>decide (ns.getD i 0>ns.getD j 0)) (ns.length-1)) 0
def zw:List V->Hp->VK->Prop
 | [.ref p],H,Q=>bnd (unL (H p)) λys=>∃ ns:∅,ys=ns.map V.int/\0<ns.length/\Q (.int (maxI ns)) H
 | _,_,_=>False
theorem C2(z:X.calm=true):CallR X (.builtin "max") zw:=by
 intro G s σ H xs K Q I r h;unfold zw at h
 split at h
 . rename_i p
   obtain⟨L,e,ns,rfl,C,q⟩:=bf h;obtain⟨u,rfl,E⟩:=d4 r;cases E;obtain⟨f,n,k,F⟩:=I.list (oV e);have m:=n.length;rw[MZ]at m
   have d:p<s.heap.objs.size:=by
    obtain⟨o,h1,_⟩:=k.isList;exact NC h1
   have a:∀(i:Nat) (v:Value),f.toArray[i]? =some v->∃ t,v=.int (ns.getD i 0) t:=λi v g=>by
    have D:f[i]? =some v:=by simpa using g
    obtain⟨x,w,B⟩:=n.get' D;obtain⟨b,c,rfl⟩:∃ b,ns[i]? =some b/\V.int b=x:=by simpa using w
    obtain⟨t,rfl⟩:=B;exact⟨t,by simp[List.getD,c]⟩
   have e2:f.toArray.size=ns.length:=by rw[Nz];exact m.symm
   refine call_max_walkS (O4 k.isList ?_);refine⟨s.heap.objs.size,_,_,_,f.toArray.size,_,_,λi j=>decide (ns.getD i 0>ns.getD j 0),rfl,(QQ (A:=X.A.in1) (I.ok.hd z) s.heap.objs.size p (NS d) f.toArray).toS,⟨⟨_,NN _ rfl,rfl,rfl⟩,k.isList.push _⟩,?_,by lia,CmpOf.ints_gt (λi=>ns.getD i 0) a,λv J g y=>?_⟩
   . intro b c;show b < (s.heap.push _).objs.size;rw[ON];rcases Ng.mp c with rfl | c
     . exact Pd _
     . rcases Ng.mp c with rfl | c
       . exact Oz d
       . cases c
   . obtain⟨t,rfl⟩:=a _ v g;refine⟨.int _,H,I.walked (l:=p) y,⟨t,rfl⟩,?_⟩;rw[e2];exact q
 . exact h.elim
end
section
variable{H:Hp}{Q:VK}
theorem IE{p:Addr}{ns:∅}(c:H p=↥(ns.map V.int))(b:0<ns.length)(h:Q (.int (maxI ns)) H):zw [.ref p] H Q:=by
 show bnd (unL (H p)) _;rw[c];exact ba (a:=ns.map V.int) rfl ⟨ns,rfl,b,h⟩
end
def qI(xs:∅):xs.filter (λ_=>true)=xs:=OX.mpr λ_ _=>rfl
def loM(m:Int):Int:=(sgL m).getD 0 0
def hiM(m:Int):Int:=(sgL m).getD ((sgL m).length-1) 0
theorem IF:((List.range 64).all λm=>decide (m=0)||(decide (0 < (sgL (m:Int)).length/\(sgL (m:Int)).length<=6)&&(decide (minI (sgL (m:Int))=loM (m:Int)/\maxI (sgL (m:Int))=hiM (m:Int))&&decide ((1<=loM (m:Int)/\loM (m:Int)<=6)/\1<=hiM (m:Int)/\hiM (m:Int)<=6))))=true:=by decide+kernel
theorem Gs{m:Int}(b:0<=m)(c:m<64)(a:m≠0):(0 < (sgL m).length/\(sgL m).length<=6)/\(minI (sgL m)=loM m/\maxI (sgL m)=hiM m)/\(1<=loM m/\loM m<=6)/\1<=hiM m/\hiM m<=6:=by
 have t:=Na.mp IF m.toNat (Nj.mpr #[4]);have e1:((m.toNat:Nat):Int)=m:=by lia
 rw[e1,OS,M4,M9,M9,M4,M4,M4]at t;rcases t with t | t
 . lia
 . exact t
theorem IG:sgL 0=[]:=by decide+kernel
theorem C5{xs:∅}(h:0<xs.length):atI (xs.map V.int) (-1)=some (V.int (xs.getD (xs.length-1) 0)):=by
 unfold atI ixN;rw[MZ,Nt #[1],NA #[4]];show(xs.map V.int)[((xs.length:Int)+ -1).toNat]? =_;rw[show((xs.length:Int)+ -1).toNat=xs.length-1 by lia,M7,M0 #[4],List.getD,M0 #[4]];rfl
def smB(os:∅)(n s:Int):Bool:=decide (0∈os)||(decide (n<s+(os.map loM).sum)||decide (s+(os.map hiM).sum<n))
def sumB(cs:∅)(n:Int)(MN:∅)(z s:Int)(ms:∅):Bool:=decide (ms=[])&&smB (sgAt MN (othL cs z)) n s
def g9(K:Frag):Sp:=#[3,∃(A:Addr) (a:∅),vs=[.ref A]/\H A=↥(a.map V.int)/\Q (.bl (decide (0∈a))) H]
def qw(K:Frag):TS:=#[":jcJbBef#0 0"]
variable{K:Frag}{vs:List V}{H:Hp}{Q:VK}{E:XK}
theorem C6(h:g9 K vs H Q E):qw K (eD9 Q) (start ["masks"] vs) H:=by
 obtain⟨A,b,rfl,a,q⟩:=h;exists qw;rw[oo a];exact q
variable{cs:∅}
def Jw{MN:∅}{z:Int}(c:aL cs MN.length)(mm:∀ m∈MN,0<=m/\m<64):∀ m∈sgAt MN (othL cs z),0<=m/\m<64:=λm a=>by
 unfold sgAt at a;obtain⟨x,d,rfl⟩:=Nl.mp a;have b:=c.2 x (Nf.mp d).1;exact vQ mm b.1 b.2
def kA(K:Frag)(c:QZ):Sp:=#[3,∃ k r p A M d cs MN b n m z s,vs=[.ref r,.ref A,.int z,.int s,.ref M]/\IsRule H c k r p d cs n m/\aL cs MN.length/\(∀ m∈MN,0<=m/\m<64)/\H A=↥(MN.map V.int)/\H M=↥(b.map V.int)/\∀ a,Same H a->Q (.bl (sumB cs n MN z s b)) a]
def ig(K:Frag)(c:QZ):TS:=#[":gmcy3p~Kau&-- tb5h#1 Gck,]ba1def#0 dh#6 gmcy3p~Kau&-- tb5h#1 Gck,]ba1d{h`0ef#1 dh#7 j~hc>6xiC~I~Jbi0dc<7xiC~I~Jbi0d",(rU λi=>.int (-i))]
def ii(K:Frag)(c:QZ):TS:=#[":gm,~iba1a,Zbia0a2ddh#5 gnA,~Lba5djeIQo{ibi"]
def kB(K:Frag)(c:QZ):TS:=#[":gnlcFb4sdjeIBo{jbi"]
variable{c:QZ}
theorem tI {k:RK} {r p A M B:Addr} {D:List (List Nat)} {os:∅} {n m z s:Int} (x:IsRule H c k r p D cs n m) (T:os.length<=63) (f:∀ m∈os,0<=m/\m<64) (P:¬ 0∈os) (t:H B=↥(os.map V.int))
  (q:∀ I,Same H I->Q (.bl (decide (n<s+(os.map loM).sum)||decide (s+(os.map hiM).sum<n))) I):
  ig K c (eD9 Q) [↑r,↑A,⇑z,⇑s,↑M,↑B,none,none] H:=by
 have o:∀ y∈os,_:=λy a=>Gs (f y a).1 (f y a).2 (λe=>P (e ▸ a));unfold ig;exists⟨⟨_,Nm t⟩,?_⟩;refine aS (xs:=os) (λ_=>true) loM #[4] (Nm t) ?_ ?_ ?_
 . intro y v R a s1 k1;exact k1 _ (M5 _)
 . intro y v S a d s1 k1;have G:=o y a;show tOp cIx _ _ [none,⇑y] v S;exists⟨y,rfl,by have:=(iA (f y a).1 (f y a).2);have:=this.1;lia,λl u g E w=>?_⟩;refine ixI w #[1] #[4] ?_;exact k1 _ g
 . intro Y v O s1 h;rw[qI]at h;exists zu h (λy a=>by obtain⟨z,F,rfl⟩:=Nl.mp a;have:=(o z F).2.2.1;lia) (by rw[MZ];lia) ?_;exists⟨⟨_,Nm (s1 _ _ t)⟩,?_⟩;refine aS (xs:=os) (λ_=>true) hiM #[4] (Nm (s1 _ _ t)) ?_ ?_ ?_
   . intro y u R a g k2;exact k2 _ (M5 _)
   . intro y u L a d g k2;have G:=o y a;show tOp cIx _ _ [none,⇑y] u L;exists⟨y,rfl,by have:=(iA (f y a).1 (f y a).2);have:=this.1;lia,λl U N J w=>?_⟩;refine ixL w (C5 G.1.1) ?_;exact k2 _ N
   . intro X u E g j;rw[qI]at j;exists zu j (λy a=>by obtain⟨z,F,rfl⟩:=Nl.mp a;have:=(o z F).2.2.2;lia) (by rw[MZ];lia) ?_;symm;have b:=s1.trans g;have i:=x.same b;obtain⟨Z,W,C,h1,h2,h3⟩:=i.ex;refine methE (k:=k) rfl i.ok h1 (by rfl) ?_;exists⟨r,p,D,cs,n,m,rfl,i,?_⟩;symm;by_cases d:n<s+(os.map loM).sum
     . rw[M3 d,Pg]at q;rw[M3 d];exists q _ b
     . rw[M2 d,Of]at q;rw[M2 d];exists methE (k:=k) rfl i.ok h1 (by rfl) ?_;exists⟨r,p,D,cs,n,m,rfl,i,?_⟩;exists q _ b
theorem tJ {k:RK} {r p A M:Addr} {f:List (List Nat)} {MN:∅} {n m z s:Int} (x:IsRule H c k r p f cs n m) (d:aL cs MN.length) (mm:∀ m∈MN,0<=m/\m<64) (u:H A=↥(MN.map V.int))
  (q:∀ e,Same H e->Q (.bl (smB (sgAt MN (othL cs z)) n s)) e):
  ii K c (eD9 Q) [↑r,↑A,⇑z,⇑s,↑M,none,none,none] H:=by
 have b:aL (othL cs z) MN.length:=⟨Nk (Np _ _) d.1,λy l=>d.2 y (Nf.mp l).1⟩;have h:(sgAt MN (othL cs z)).length<=63:=by unfold sgAt;rw[MZ];exact b.1
 have i:=Jw (z:=z) d mm;unfold ii;exists⟨k,r,p,f,cs,n,m,z,rfl,x,d.1,λO v s1 w j=>?_⟩;exists⟨A,O,MN,othL cs z,rfl,s1 _ _ u,j,b,λB C o D g=>?_⟩;have a:=s1.trans o;generalize sgAt MN (othL cs z)=os at*;symm;rw[aD];exists⟨B,os,rfl,g,?_⟩;unfold smB at q;by_cases h0:0∈os
 . rw[M3 h0,Pg]at q;rw[M3 h0];refine⟨true,rfl,?_⟩;exists q _ a
 . rw[M2 h0,Of]at q;rw[M2 h0];refine⟨false,rfl,?_⟩;exists tI (x.same a) h i h0 g λe t=>q e (a.trans t)
theorem xw(h:kA K c vs H Q E):kB K c (eD9 Q) (start ["rule","masks","cell","sign","more","some","least","greatest"] vs) H:=by
 obtain⟨k,r,p,A,M,o,cs,MN,l,n,m,z,s,rfl,x,d,f,j,b,q⟩:=h;ac_nf;unfold kB;rw[aG,aD];exists⟨aP #[1],λZ e=>?_⟩;obtain⟨H1,z9,s1,eZ⟩:∃ z,upd H Z (.lst [])=z/\Same H z/\z Z=↥(([]:∅).map V.int):=aW _ e;rw[z9];refine tp (s1 _ _ b) eZ ?_;unfold sumB at q
 cases a:decide (l=[]) with
 | false=>
  rw[a,Nw]at q;refine⟨true,rfl,?_⟩;exists q _ s1
 | true=>
  rw[a,Nv]at q;refine⟨false,rfl,?_⟩;exists tJ (x.same s1) d f (s1 _ _ j) λi g=>q i (s1.trans g)
theorem EH(t:TK):decide (tkC t=s!"sum")=decide (t=.sum):=by cases t <;> decide
def r8(K:Frag)(c:QZ):Sp:=c7 K c .Sum
def mM(K:Frag)(c:QZ):TS:=#[":jcqbp~KaxiC~D~Ebi0a1ddMi0~t"]
def IH{xs:∅}{n:Nat}(e:aL cs n)(g:n=xs.length)(f:∀ x∈xs,0<=x/\x<=1000):∀ x∈sgAt xs cs,0<=x/\x<=1000:=λx b=>by
 unfold sgAt at b;obtain⟨c,d,rfl⟩:=Nl.mp b;have:=e.2 c d;have a:c.toNat<xs.length:=by omega
 rw[List.getD,M0 a];exact f _ (NB a)
theorem Ao(h:r8 K c vs H Q E):mM K c (eD9 Q) (start ["self","filling"] vs) H:=by
 obtain⟨r,p,f,i,cs,xs,n,m,h,w,g,rfl,x,u,F,d,a,j,q⟩:=h;obtain⟨s,W,C,h1,h2,h3⟩:=x.ex;exists mM;refine methE rfl x.ok h1 (by rfl) ?_;exists⟨r,p,f,i,cs,xs,n,m,rfl,x,d,a,λl k s1 o b=>?_⟩;have t:(sgAt xs cs).length<=100:=by unfold sgAt;rw[MZ];exact Nk a.1 #[1]
 exists zu b (λy e=>by have:=IH a rfl j y e;lia) #[4] ?_;refine fldE rfl x.ok (s1 _ _ h1) (v:=.int n) (by rfl) ?_;exists q _ s1
theorem Cg:∀ l:∅,risB l=(List.range (l.length-1)).all λi=>decide (l.getD i 0<l.getD (i+1) 0)
 | []=>rfl
 | [x]=>rfl
 | x::y::r=>by
  have a:=Cg (y::r);show(decide (x<y)&&risB (y::r))=(List.range (r.length+1)).all λi=>decide ((x::y::r).getD i 0 < (x::y::r).getD (i+1) 0);rw[a,List.range_succ_eq_map,PF,OL];rfl
def nq(K:Frag)(c:QZ):Sp:=c7 K c .Rising
def jM(K:Frag)(c:QZ):TS:=#[":gmxiC~D~Ebi0a1dh#2 jp+au&--2 *acOpza2def#1 dh#1 Gc<ck21ck2cy1ef#1 d"]
theorem vT(h:nq K c vs H Q E):jM K c (eD9 Q) (start ["self","filling","signs"] vs) H:=by
 obtain⟨r,p,f,u,cs,xs,n,m,h,w,g,rfl,x,N,F,y,k,I,q⟩:=h;obtain⟨L,W,C,h1,h2,h3⟩:=x.ex;exists jM;refine methE rfl x.ok h1 (by rfl) ?_;exists⟨r,p,f,u,cs,xs,n,m,rfl,x,y,k,λl B s1 G d=>?_⟩;have M:(sgAt xs cs).length<=100:=by unfold sgAt;rw[MZ];exact Nk k.1 #[1]
 have z:∀ o,Same H o->Q (.bl (risB (sgAt xs cs))) o:=q;generalize sgAt xs cs=sg at*;symm;rw[a8 d,MZ];exists⟨_,rfl,by lia,by lia,?_⟩;have A:((sg.length:Int)-1).toNat=sg.length-1:=by lia
 rw[A];refine tZ (λ_=>true) (λi=>.bl (decide (sg.getD i 0<sg.getD (i+1) 0))) #[4] ?_ ?_ ?_
 . intro i j R t a k2;exact k2 _ (M5 _)
 . intro i j s t D a k2;show tOp _ _ _ [none,⇑(0+(i:Int)),↑l] j s;rw[Pe];exists ixI (a _ _ d) #[4] #[4] ?_;refine ixI (a _ _ d) #[4] #[4] ?_;symm;have e1:(i:Int).toNat=i:=by lia
   have e2:((i:Int)+1).toNat=i+1:=by lia
   rw[e1,e2];exact k2 _ (M5 _)
 . intro J j v a b;rw[bg]at b;refine kU (bs:=(List.range (sg.length-1)).map λi=>decide (sg.getD i 0<sg.getD (i+1) 0)) (by rw[b,NH];rfl) ?_
   have e:((List.range (sg.length-1)).map λi=>decide (sg.getD i 0<sg.getD (i+1) 0)).all id=risB sg:=by
    rw[Cg,OL];rfl
   rw[e];exact z _ (s1.trans a)
theorem uK(l:∅)(x:Int):seenN (l++[x])=if (seenN l).1<x then(x,(seenN l).2+1) else seenN l:=by
 unfold seenN;rw[O6];rfl
theorem vU:∀(n:Nat) (l:∅),l.length=n->0<=(seenN l).1/\(∀ y∈l,y<=(seenN l).1)/\((seenN l).1=0\/(seenN l).1∈l)/\0<=(seenN l).2/\(seenN l).2<=n
 | 0,l,hl=>by
  have:l=[]:=Pp.mp hl;subst this;exact⟨by decide,λy a=>(NR a).elim,.inl rfl,by decide,by decide⟩
 | n+1,l,hl=>by
  have b:l≠[]:=λe=>by rw[e]at hl;simp at hl
  have e:=List.dropLast_concat_getLast b;generalize l.getLast b=x at e;generalize m:l.dropLast=d at e;have i:d.length=n:=by rw[← m,List.length_dropLast,hl];rfl
  obtain⟨j,f,g,k,o⟩:=vU n d i;rw[← e,uK];by_cases c:(seenN d).1<x
  . rw[NA c];refine⟨by show 0<=x;lia,λy a=>?_,.inr (by simp),by show 0<=(seenN d).2+1;lia,by show(seenN d).2+1<=_;lia⟩;rcases Ny.mp a with a | a
    . have:=f y a;show y<=x;lia
    . have:y=x:=by simpa using a
      show y<=x;lia
  . rw[Nt c];refine⟨j,λy a=>?_,?_,k,by lia⟩
    . rcases Ny.mp a with a | a
      . exact f y a
      . have:y=x:=by simpa using a
        lia
    . rcases g with h | h
      . exact .inl h
      . exact .inr (OU _ h)
theorem EI{l:∅}{x:Int}(g:1<=x):(seenN (l++[x])).2=(seenN l).2+if (∀ y∈l,y<x) then 1 else 0:=by
 obtain⟨f,d,a,_,_⟩:=vU _ l rfl;rw[uK];by_cases h:∀ y∈l,y<x
 . rw[NA h]
   have:(seenN l).1<x:=by
    rcases a with e | e
    . lia
    . exact h _ e
   rw[NA this]
 . rw[Nt h];have:¬ (seenN l).1<x:=λc=>h λy b=>by have:=d y b;lia
   rw[Nt this];simp
def qJ(K:Frag)(c:QZ):Sp:=c7 K c .Seen
def lF(K:Frag)(c:QZ):TS:=#[":gmef#0 h#2 gmef#0 h#3 gKtbxiC~D~Ebi0a1dh#4 nlc>42gm4h#2 mcy3ef#1 h#3 ojcqb3Mi0~t"]
theorem yV(h:qJ K c vs H Q E):lF K c (eD9 Q) (start ["self","filling","greatest","seen","sign"] vs) H:=by
 obtain⟨r,p,f,A,cs,xs,n,m,h,w,g,rfl,x,M,F,u,t,L,q⟩:=h;obtain⟨J,W,C,h1,h2,h3⟩:=x.ex;exists lF;refine methE rfl x.ok h1 (by rfl) ?_;exists⟨r,p,f,A,cs,xs,n,m,rfl,x,u,t,λl s s1 I o=>?_⟩;have B:∀ b,Same H b->Q (.bl (decide ((seenN (sgAt xs cs)).2=n))) b:=q;generalize sgAt xs cs=sg at*;exists⟨⟨_,Nm o⟩,bz (K:=K) (xs:=sg.map V.int) (λi σ b=>∃ k:Option V,σ=[↑r,↑f,some (.int (seenN (sg.take i)).1),some (.int (seenN (sg.take i)).2),k]/\b=s) ⟨none,rfl,rfl⟩ (λi σ b _ ⟨_,_,e⟩=>by rw[e];exact Nm o) ?_ ?_⟩
 . rintro i y σ D a ⟨k,rfl,rfl⟩;rw[M7]at a
   cases e:sg[i]? with
   | none=>rw[e]at a;cases a
   | some z=>
    rw[e]at a;cases a;have G:sg.take (i+1)=sg.take i++[z]:=by rw[Pc,e];rfl
    have d:=uK (sg.take i) z;rw[← G]at d;symm;rw[aD];symm;by_cases j:(seenN (sg.take i)).1<z
    . rw[M3 j];rw[NA j]at d;refine iteT ?_;rw[d];exact⟨_,rfl,by first | trivial | rfl⟩
    . rw[M2 j];rw[Nt j]at d;refine iteF ?_;rw[d];exact⟨_,rfl,by first | trivial | rfl⟩
 . rintro σ D ⟨k,rfl,rfl⟩;rw[MZ,N6];exists fldE rfl x.ok (s1 _ _ h1) (v:=.int n) (by rfl) ?_;exists B _ s1
def o6(K:Frag)(c:QZ):Sp:=λvs H Q E=>∃ k,jr K c k vs H Q E
def kC(K:Frag)(c:QZ):TS:=#[":ju&--10 ~TbMi0~Ch#1 lcqbck21Mi3~S1"]
theorem xy(h:o6 K c vs H Q E):kC K c (eD9 Q) (start ["self","filling"] vs) H:=by
 obtain⟨k,r,p,f,u,cs,xs,n,m,rfl,x,i,⟨j,g⟩,q⟩:=h;obtain⟨t,W,C,h1,h2,h3⟩:=x.ex;ac_nf;unfold kC;rw[b9,xk];refine fldE rfl x.ok h1 (v:=.ref C) (by rfl) ?_;refine⟨C,rfl,⟨_,QY h3⟩,?_⟩;refine yn (xs:=cs) (λc=>decide (xs.getD c.toNat 0=m)) (λc=>c) #[4] h3 ?_ ?_ ?_
 . intro z a R d s1 k1;show tTest _ [none,⇑z,↑f,↑r] a R;symm;have:=g z d;refine ixI (s1 _ _ i) this.1 #[4] ?_;refine fldE rfl x.ok (s1 _ _ h1) (v:=.int m) (by rfl) ?_;exists k1 _ (M5 _)
 . intro z a s d o s1 k1;exact k1 _ (M5 _)
 . intro l a e s1 b;rw[Oi]at b;exact q l a s1 e b
def o7(K:Frag)(c:QZ):Sp:=c7 K c .Count
def kD(K:Frag)(c:QZ):TS:=#[":jcqbpzaxiC~M~Nbi0a1ddMi0~t"]
theorem xA(h:o7 K c vs H Q E):kD K c (eD9 Q) (start ["self","filling"] vs) H:=by
 obtain⟨r,p,f,e,cs,xs,n,m,h,w,g,rfl,x,s,F,d,b,o,q⟩:=h;obtain⟨k,W,C,h1,h2,h3⟩:=x.ex;exists kD;refine methE rfl x.ok h1 (by rfl) ?_;exists⟨r,p,f,e,cs,xs,n,m,rfl,x,d,b,λl i s1 j a=>?_⟩;symm;rw[a8 a,MZ];refine fldE rfl x.ok (s1 _ _ h1) (v:=.int n) (by rfl) ?_;exists q _ s1
def mN(K:Frag):Sp:=#[3,∃(S M:Addr) (a d:∅),vs=[.ref S,.ref M]/\H S=↥(a.map V.int)/\H M=↥(d.map V.int)/\a.length<=100/\∀ b,Same H b->Q (.bl (a.all λc=>decide (c∈d))) b]
def mO(K:Frag):TS:=#[":jp+au&--1 tb0h#1 GcJbB12d"]
variable{vs:List V}
theorem Ap{K:Frag}{H:Hp}{Q:VK}{E:XK}(h:mN K vs H Q E):mO K (eD9 Q) (start ["some","cells"] vs) H:=by
 obtain⟨S,M,a,g,rfl,j,m,r,q⟩:=h;exists mO;refine⟨⟨_,Nm j⟩,?_⟩;refine cH (xs:=a.map V.int) (λ_=>true) (λi=>.bl (decide (a.getD i 0∈g))) (by rw[MZ];lia) (Nm j) ?_ ?_ ?_
 . intro i x f R d s1 k1;exact k1 _ (M5 _)
 . intro i x f o d s s1 k1;rw[M7]at d
   cases e:a[i]? with
   | none=>rw[e]at d;cases d
   | some z=>
    rw[e]at d;cases d;have k2:=k1 _ (M5 f);rw[List.getD,e]at k2;show tOp (cIn K false) _ _ [none,⇑z,↑M] f o;symm;rw[oo (s1 _ _ m)];exact k2
 . intro l f p s1 k;rw[bg,MZ]at k;refine kU (bs:=(List.range a.length).map λi=>decide (a.getD i 0∈g)) (by rw[k,NH];rfl) ?_
   have e:((List.range a.length).map λi=>decide (a.getD i 0∈g)).all id=a.all λc=>decide (c∈g):=by
    rw[OL,ND,Na,Na];constructor
    . intro h c n;obtain⟨i,b,rfl⟩:=Ov.mp n;have:=h i (Nj.mpr b);dsimp only[Function.comp,id]at this;rw[List.getD,M0 b]at this;exact this
    . intro h i b;have b:=Nj.mp b;have:=h _ (NB b);dsimp only[Function.comp,id];rw[List.getD,M0 b];exact this
   rw[e];exact q _ s1
def lP(K:Frag)(c:QZ):Sp:=c7 K c .NoSquare
theorem G9{h w g:Int}(F:FlOk h w g):(squL h w).length<=16:=by
 obtain⟨h0,h1,b,d,a,e,c⟩:=F;unfold squL;rw[MZ];refine Nk (Np _ _) ?_;rw[Og];lia
def ij(K:Frag)(c:QZ):TS:=#[":gmxiC~M~Nbi0a1dh#2 j~Yp~/au&--2 tb,~-baMi0/dh#1 G,{kba1a2dd"]
theorem tK{K:Frag}{c:QZ}{H:Hp}{Q:VK}{E:XK}(h:lP K c vs H Q E):ij K c (eD9 Q) (start ["self","filling","cells"] vs) H:=by
 obtain⟨r,p,f,U,cs,xs,n,m,h,w,g,rfl,x,X,F,Y,N,T,q⟩:=h;obtain⟨dx,W,C,h1,h2,h3⟩:=x.ex;exists ij;refine methE rfl x.ok h1 (by rfl) ?_;exists⟨r,p,f,U,cs,xs,n,m,rfl,x,Y,N,λl H1 s1 hl O=>?_⟩;exists fldE rfl x.ok (s1 _ _ h1) (v:=.ref p) (by rfl) ?_;exists⟨p,h,w,g,rfl,s1 _ _ X,F,λL S H2 I hL d _ _ _=>?_⟩;have sl:=G9 F;refine⟨L,rfl,⟨_,Nm d.top⟩,?_⟩;refine cH (xs:=S.map V.ref) (λ_=>true) (λi=>.bl (((squL h w).getD i []).all λc=>decide (c∈mkAt xs cs m))) (by rw[MZ,d.len];lia) (Nm d.top) ?_ ?_ ?_
 . intro i x A R T t k3;exact k3 _ (M5 _)
 . intro i y A Q3 a u t k3;obtain⟨b,u,rfl⟩:=b5 a;have k:i < (squL h w).length:=by rw[← d.len];exact(M6.mp u).1
   have e:=M0 k;have o:(squL h w).getD i []=(squL h w)[i]:=by rw[List.getD,e];rfl
   have G:((squL h w)[i]).length<=100:=by
    have B:=NB k;generalize (squL h w)[i]=z at B;unfold squL at B;obtain⟨j,_,rfl⟩:=Nl.mp B;show 4<=100;decide
   show tCall _ _ _ _ [none,↑b,↑l] A Q3;exists⟨b,l,_,_,rfl,t _ _ (d.at_ i b _ u e),t _ _ (I _ _ O),G,λZ P=>?_⟩;have:=k3 Z P;rw[o]at this;exact this
 . intro D A hD t M;rw[bg,MZ,d.len]at M;refine CS (bs:=(List.range (squL h w).length).map λi=>((squL h w).getD i []).all λc=>decide (c∈mkAt xs cs m)) (by rw[M,NH];rfl) ?_
   have e:((List.range (squL h w).length).map λi=>((squL h w).getD i []).all λc=>decide (c∈mkAt xs cs m)).any id=(squL h w).any λJ=>J.all λc=>decide (c∈mkAt xs cs m):=by
    rw[QV,ND,Ou,Ou];constructor
    . rintro⟨i,a,s⟩;have a:=Nj.mp a;dsimp only[Function.comp,id]at s;have o:(squL h w).getD i []=(squL h w)[i]:=by rw[List.getD,M0 a];rfl
      rw[o]at s;exact⟨_,NB a,s⟩
    . rintro⟨J,hs,s⟩;obtain⟨i,a,rfl⟩:=Ov.mp hs;refine⟨i,Nj.mpr a,?_⟩;dsimp only[Function.comp,id];have o:(squL h w).getD i []=(squL h w)[i]:=by rw[List.getD,M0 a];rfl
      rw[o];exact s
   rw[e];exists q _ ((s1.trans I).trans t)
def f7(K:Frag):Sp:=#[3,∃ a l h w g c cs,vs=[.ref a,.ref l,.int c]/\IsFl H a h w g/\0<w/\w<100/\H l=↥(cs.map V.int)/\cs.length<=63/\
 ∀(p:Addr) (b:Hp) (rs:∅),Same H b->H p=none->b p=↥(rs.map V.int)->rs.Pairwise (· < ·)->(∀ x,x∈rs↔RC h w cs c x)->Q (.ref p) b]
def qx(K:Frag):TS:=#[":gnlcJbQ21jsdogmsa2dh#3 gmef#0 h#4 g'hlc<4pza3dgKtb,~sba0ack34dh#5 n~blcJbB51lcJbQ53NDbER3a5domcy4ef#1 h#4 jp~Oa3d"]
variable{K:Frag}{vs:List V}{H:Hp}{Q:VK}{E:XK}
theorem C7(h:f7 K vs H Q E):qx K (eD9 Q) (start ["floor","cells","start","found","place","cell"] vs) H:=by
 obtain⟨a,l,h,w,g,n,cs,rfl,ha,w0,w1,hl,hn,k⟩:=h;ac_nf;unfold qx;rw[aG,aD];symm;rw[kT hl];symm;by_cases P:n∈cs
 . rw[Nt (by simpa using P)];exists⟨lnR rfl,λf hf=>?_⟩
   refine⟨λm σ t=>∃(j:∅) (d:Nat) (u:Option V),σ=[↑a,↑l,⇑n,↑f,⇑d,u]/\Same H t/\t f=↥(j.map V.int)/\BI h w cs n j d/\m=cs.length-d,
    ⟨_,[n],0,none,rfl,(M5 H).laid hf,ah,BI.start P,rfl⟩,?_⟩
   rintro m σ H1 ⟨j,d,u,rfl,s1,e1,B,rfl⟩;have ab:=B.len;symm;rw[a8 e1,MZ];symm;by_cases C:d<j.length
   . rw[NA (by simpa using C)];obtain⟨x,I⟩:∃ x,j[d]? =some x:=⟨j[d],by simp[C]⟩;have rx:RC h w cs n x:=B.rc x (M8 I)
     refine⟨λσ t=>∃(j:∅) (u:Option V),σ=[↑a,↑l,⇑n,↑f,⇑((d:Int)+1),u]/\Same H t/\t f=↥(j.map V.int)/\BI h w cs n j (d+1),
      λσ' t ⟨Y,Z,e,s',e',B'⟩=>⟨_,by lia,Y,d+1,Z,by rw[e];rfl,s',e',B',rfl⟩,?_⟩
     symm;rw[Gm e1];refine ba (uy #[4] #[4]) ?_;symm;rw[show((d:Int)).toNat=d from N1 _,eX I];refine⟨a,h,w,g,x,rfl,s1 _ _ ha,w0,w1,λb H2 s2 W e2=>?_⟩;have X:=s1.trans s2
     refine⟨b,rfl,⟨_,Nm e2⟩,bz (K:=K) (xs:=(besL h w x).map V.int) (λi σ t=>∃(s:∅) (u:Option V),σ=[↑a,↑l,⇑n,↑f,⇑d,u]/\Same H t/\t b=↥((besL h w x).map V.int)/\t f=↥(s.map V.int)/\BJ h w cs n j d ((besL h w x).take i) s)
      ⟨j,u,rfl,X,e2,s2 _ _ e1,BJ.zero B⟩ (λi σ t _ ⟨_,_,_,_,q,_⟩=>Nm q) ?_ ?_⟩
     . rintro i y σ O G ⟨s,L,rfl,S,eb,v,J⟩;rw[M7]at G
       cases U:(besL h w x)[i]? with
       | none=>rw[U]at G;cases G
       | some z=>
        rw[U]at G;cases G;have aa:s.length<=63:=Nk (e8 J.nd λx I=>(J.rc x I).mem) hn;have M:z∈besL h w x:=M8 U;have D:(besL h w x).take (i+1)=(besL h w x).take i++[z]:=by rw[Oq,U];rfl
        have J2:=J.more rx M;rw[← D]at J2;symm;rw[aD];symm;rw[oo (S _ _ hl)];symm
        have A:∀ F:Hp,F f=↥((addC cs s z).map V.int)->(∀ c,c≠f->F c=O c)->∃(s:∅) (u:Option V),[some (V.ref a),↑l,⇑n,↑f,⇑d,⇑z]=[↑a,↑l,⇑n,↑f,⇑d,u]/\Same H F/\F b=↥((besL h w x).map V.int)/\F f=↥(s.map V.int)/\BJ h w cs n j d ((besL h w x).take (i+1)) s:=λF q1 q2=>
         ⟨_,_,rfl,λc o e=>by rw[q2 c (ax e hf)];exact S c o e,by rw[q2 b (λe=>by rw[e]at W;rw[e1]at W;cases W)];exact eb,q1,J2⟩
        by_cases R:z∈cs
        . rw[NA (by simpa using R)];rw[kT v];by_cases T:z∈s
          . simp only[T,decide_true,OV,Nt Nc,V.bl.injEq,exists_eq_left'];refine A O ?_ λ_ _=>rfl;rw[v,addC,Nt (λq=>q.2 T)]
          . simp only[T,QW,OO,QT,V.bl.injEq,exists_eq_left'];exists⟨aZ v,?_⟩;rw[cy v];refine⟨by rw[MZ];exact aC #[4],A _ ?_ λc hc=>aj hc⟩;rw[ah,addC,NA ⟨R,T⟩];simp
        . rw[Nt (by simpa using R)]
          try simp only[Nt Nc]
          refine A O ?_ λ_ _=>rfl;rw[v,addC,Nt (λq=>R q.1)]
     . rintro σ O ⟨s,L,rfl,S,eb,v,J⟩;rw[MZ,N6]at J;exists⟨s,L,rfl,S,v,J.done B I⟩
   . rw[Nt (by simpa using C)];symm;unfold gt;dsimp only;rw[e1];refine⟨j,rfl,by lia,λrs p N pm ps=>?_⟩;refine k p _ rs (s1.laid N) (s1.free N) ah (En pm ps B.nd) λx=>?_;rw[pm.mem_iff];exact B.done C x
 . rw[NA (by simpa using P)];exists⟨Oc _,λp C=>k p _ [] ((M5 H).laid C) C ah .nil λx=>⟨(λq=>nomatch q),λr=>absurd (RC.st r) P⟩⟩
variable{h w:Int}{ms:∅}
theorem joinB_iff:joinB h w ms=true↔(ms=[]\/(ms.Pairwise (· < ·)/\∀ x∈ms,RC h w ms (ms.headD 0) x)):=by
 unfold joinB;exact @OP _ (Classical.propDecidable _)
def ka(K:Frag)(c:QZ):Sp:=λvs H Q E=>∃ k,jx K c k vs H Q E
def gz(K:Frag)(c:QZ):TS:=#[":j~hcqb1sdcqb,~zbaMi0/a1ack1ef#0 d1"]
variable{c:QZ}
theorem rb(h:ka K c vs H Q E):gz K c (eD9 Q) (start ["self","cells"] vs) H:=by
 obtain⟨k,r,p,C,S,cs,ms,n,m,h,w,g,rfl,x,J,F,f,D,q⟩:=h;obtain⟨h0,G,T,U,L,N,M⟩:=id F;obtain⟨R,W,P,h1,h2,h3⟩:=x.ex;exists gz;refine⟨lnR rfl,λl B=>?_⟩;obtain⟨H1,z9,s1,el⟩:∃ z,upd H l (.lst [])=z/\Same H z/\z l=↥(([]:∅).map V.int):=aW _ B;rw[z9];refine vq (s1 _ _ f) el ?_;symm
 cases ms with
 | nil=>
  have e:joinB h w []=true:=joinB_iff.mpr (.inl rfl);have:=q _ s1;rw[e]at this;rw[M3 rfl,NA rfl];exact this
 | cons z s=>
  rw[M2 (by simp),Nt #[1]];refine fldE rfl x.ok (s1 _ _ h1) (v:=.ref p) (by rfl) ?_;exists ixL (s1 _ _ f) (v:=V.int z) (gr (j:=0) rfl) ?_;exists⟨p,C,h,w,g,z,z::s,rfl,s1 _ _ J,by lia,by lia,s1 _ _ f,D,λu X rs t O A a d=>?_⟩;refine vq A (t _ _ (s1 _ _ f)) ?_
  have e:decide (rs=z::s)=joinB h w (z::s):=by
   rw[ND,M4,joinB_iff];constructor
   . intro e;subst e;exact .inr ⟨a,λx I=>(d x).mp I⟩
   . rintro(e | ⟨b,o⟩)
     . cases e
     . exact vx a b λy=>⟨λi=>((d y).mp i).mem,λi=>(d y).mpr (o y i)⟩
  rw[e];exact q _ (s1.trans t)
def nr(K:Frag)(c:QZ):Sp:=c7 K c .Joined
def jN(K:Frag)(c:QZ):TS:=#[":jxiC'i'jbi0axiC~M~Nbi0a1dd"]
variable{xs cs:∅}{m:Int}
theorem EJ(a:cs.length<=63):(mkAt xs cs m).length<=63:=by
 unfold mkAt;exact Nk (Np _ _) a
theorem vV(h:nr K c vs H Q E):jN K c (eD9 Q) (start ["self","filling"] vs) H:=by
 obtain⟨r,p,f,b,cs,xs,n,m,h,w,g,rfl,x,j,F,e,a,u,q⟩:=h;obtain⟨s,W,C,h1,h2,h3⟩:=x.ex;exists jN;refine methE rfl x.ok h1 (by rfl) ?_;exists methE rfl x.ok h1 (by rfl) ?_;exists⟨r,p,f,b,cs,xs,n,m,rfl,x,e,a,λl k s1 o d=>?_⟩;exact⟨r,p,l,b,cs,_,n,m,h,w,g,rfl,x.same s1,s1 _ _ j,F,d,EJ a.1,λt i=>q _ (s1.trans i)⟩
def iB(K:Frag)(c:QZ):Sp:=hJ K c .Ring
def fh(K:Frag)(c:QZ):TS:=#[":jcqbpzau&--1 tb,~sbaMi0/a2dh#1 lcJbB121def#2 "]
theorem Ha(h w c:Int):(besL h w c).length<=4:=by
 unfold besL
 repeat rw[NG]
 split <;> split <;> split <;> split <;> simp
theorem oG(h:iB K c vs H Q E):fh K c (eD9 Q) (start ["self","cells","cell"] vs) H:=by
 obtain⟨r,p,C,L,cs,ms,n,m,h,w,g,z,rfl,x,t,F,j,G,q⟩:=h;obtain⟨h0,s,M,N,u,B,A⟩:=id F;obtain⟨J,W,I,h1,h2,h3⟩:=x.ex;exists fh;refine fldE rfl x.ok h1 (v:=.ref p) (by rfl) ?_;exists⟨p,h,w,g,z,rfl,t,by lia,by lia,λb P f k e2=>?_⟩;have bl:=Ha h w z;refine⟨b,rfl,⟨_,Nm e2⟩,?_⟩;refine aS (xs:=besL h w z) (λy=>decide (y∈ms)) (λy=>y) #[4] (Nm e2) ?_ ?_ ?_
 . intro y d R o a k3;show tTest _ [none,⇑y,↑C] d R;symm;rw[oo (a _ _ (f _ _ j))];exact⟨_,rfl,k3 _ (M5 _)⟩
 . intro y d O o k a k3;exact k3 _ (M5 _)
 . intro l d D a i;rw[Oi]at i;symm;rw[a8 i,MZ];symm;have:=q _ (f.trans a);unfold twoB at this
   have e:decide ((((besL h w z).filter λy=>decide (y∈ms)).length:Int)=2)=decide (((besL h w z).filter λy=>decide (y∈ms)).length=2):=by
    rw[ND,M4,M4];lia
   rw[e];exact this
def qK(K:Frag)(c:QZ):Sp:=c7 K c .Ring
def lG(K:Frag)(c:QZ):TS:=#[":gmxiC~M~Nbi0a1dh#2 jLxiC'i'jbi0a2dp+au&--20 tb2h#1 GxiC{l{mbi3a2a1dd"]
theorem yW(h:qK K c vs H Q E):lG K c (eD9 Q) (start ["self","filling","cells"] vs) H:=by
 obtain⟨r,p,f,A,cs,xs,n,m,h,w,g,rfl,x,I,F,O,B,Y,q⟩:=h;obtain⟨dx,W,C,h1,h2,h3⟩:=x.ex;exists lG;refine methE rfl x.ok h1 (by rfl) ?_;exists⟨r,p,f,A,cs,xs,n,m,rfl,x,O,B,λl T s1 X u=>?_⟩;have k:=EJ (xs:=xs) (m:=m) B.1;have o:∀ D,Same H D->Q (.bl (joinB h w (mkAt xs cs m)&&(mkAt xs cs m).all (twoB h w (mkAt xs cs m)))) D:=q;generalize mkAt xs cs m=ms at*;exists methE rfl x.ok (s1 _ _ h1) (by rfl) ?_;exists⟨r,p,l,A,cs,ms,n,m,h,w,g,rfl,x.same s1,s1 _ _ I,F,u,k,λH2 t=>?_⟩;have a:=s1.trans t;symm
 cases J:joinB h w ms with
 | false=>
  rw[J]at o
  first | exact iteF (o _ a) | exact o _ a
 | true=>
  rw[J]at o;refine iteT ?_;refine⟨⟨_,Nm (t _ _ u)⟩,?_⟩;refine cH (xs:=ms.map V.int) (λ_=>true) (λi=>.bl (twoB h w ms (ms.getD i 0))) (by rw[MZ];lia) (Nm (t _ _ u)) ?_ ?_ ?_
  . intro i y v R d j k3;exact k3 _ (M5 _)
  . intro i y v S d U j k3;rw[M7]at d
    cases e:ms[i]? with
    | none=>rw[e]at d;cases d
    | some z=>
     rw[e]at d;cases d;have b:=a.trans j;have L:ms.getD i 0=z:=by rw[List.getD,e];rfl
     show aH _ _ _ _ _ _ [none,⇑z,↑l,↑r] v S;refine methE rfl x.ok (b _ _ h1) (by rfl) ?_;exists⟨r,p,l,A,cs,ms,n,m,h,w,g,z,rfl,x.same b,b _ _ I,F,j _ _ (t _ _ u),k,λP M=>?_⟩;have:=k3 P M;rw[L]at this;exact this
  . intro Z v N j s;rw[bg,MZ]at s;refine kU (bs:=(List.range ms.length).map λi=>twoB h w ms (ms.getD i 0)) (by rw[s,NH];rfl) ?_
    have e:((List.range ms.length).map λi=>twoB h w ms (ms.getD i 0)).all id=ms.all (twoB h w ms):=by
     have G:(List.range ms.length).map (λi=>ms.getD i 0)=ms:=by
      refine Qq (by simp) λi h1 h2=>?_;simp at h1;simp[List.getD,M0 h1]
     have e2:(List.range ms.length).map (λi=>twoB h w ms (ms.getD i 0))=ms.map (twoB h w ms):=by
      rw[← G,NH,G];rfl
     rw[e2,OL];rfl
    rw[e];exact o _ (a.trans j)
section
variable{K:Frag}{g:TG}{σ:St}{H:Hp}{ta:TA}{Q:VK}{ix:List (Option Nat)}{tt:TT}{te:TE}
def Hc:tComp ix (iZip K ta) g tt te σ H Q=ta σ H λvs c=>∃ a b,vs=[.ref a,.ref b]/\(∃ xs,SqL K c a xs)/\(∃ ys,SqL K c b ys)/\CompR (Itz K a b) g tt te (λl d=>Q (.ref l) d) (subσ ix σ) c:=rfl
theorem EK {a b:Addr} {xs ys:List V} {n:Addr->Hp->Prop} {j:St} {c:Hp} {k1 k2:Nat} (f:Nat->V) (M:xs.length<=900) (O:xs.length=ys.length) (p:k1≠k2) (h:SqL K c a xs) (d:SqL K c b ys)
  (J:∀(i:Nat) x y H Q,xs[i]? =some x->ys[i]? =some y->Same c H->(∀ g,Same H g->Q (f i) g)->te ((j.set k1 (some x)).set k2 (some y)) H Q)
  (G:∀ l H,c l=none->Same c H->H l=↥((List.range xs.length).map f)->n l H):
  CompR (Itz K a b) (gTup K 2 (gCons (gName k1) (gCons (gName k2) gNil))) tTrue te n j c:=by
 intro l t;have u:(upd c l (.lst [])) l=↥((List.range 0).map f):=by rw[ah];rfl
 refine⟨λi m σ H=>m=xs.length-i/\i<=xs.length/\(σ=j\/∃ r s,σ=(j.set k1 r).set k2 s)/\Same c H/\H l=↥((List.range i).map f),⟨xs.length,by simp,Oc _,.inl rfl,(M5 c).laid t,u⟩,?_⟩;rintro i m σ H ⟨rfl,N,D,s1,z⟩;by_cases k:i<xs.length
 . have q:i<ys.length:=by lia
   refine .inr ⟨⟨xs,ys,xs[i],ys[i],s1.seq h,s1.seq d,by simp[k],by simp[q]⟩,λw g=>(w=j\/∃ r s,w=(j.set k1 r).set k2 s)/\Same c g/\g l=↥((List.range (i+1)).map f),λw g E=>⟨xs.length - (i+1),by lia,rfl,k,E⟩,λv g y=>?_⟩;obtain⟨T,x,y,rfl,I,rfl,e1,e2⟩:=y;have F:=e1 xs (s1.seq h);have C:=e2 ys (s1.seq d);have B:Same H (upd H T (.tup [x,y])):=(M5 H).laid I;refine⟨T,_,rfl,QY ah,rfl,_,_,rfl,_,_,rfl,rfl,?_⟩
   have e:(σ.set k1 (some x)).set k2 (some y)=(j.set k1 (some x)).set k2 (some y):=by
    rcases D with rfl | ⟨r,s,rfl⟩
    . rfl
    . rw[Qn _ _ (P1 p),OD,OD,Qn _ _ p]
   show tTrue ((σ.set k1 (some x)).set k2 (some y)) _ _;rw[e,b3,NA rfl];have o:=s1.trans B;refine J i x y _ _ F C o λL A=>⟨_,A _ _ (B _ _ z),by rw[MZ,Og];exact aC #[4],.inr ⟨_,_,rfl⟩,(o.trans A).own t,?_⟩;rw[ah,Ob,OT];rfl
 . have e:i=xs.length:=by lia
   subst e;exact .inl ⟨⟨xs,ys,s1.seq h,s1.seq d,.inl (Nr _)⟩,G l H t s1 z⟩
end
variable{n:Nat}{b:Nat->Bool}
theorem BD:(List.range n).map (λi=>V.bl (b i))=((List.range n).map b).map V.bl:=by rw[NH];rfl
theorem EL:((List.range n).map b).all id=(List.range n).all b:=by rw[OL];rfl
def cluB(cl xs:∅):Bool:=(List.range cl.length).all λi=>decide (cl.getD i 0=0)||decide (cl.getD i 0=xs.getD i 0)
noncomputable def rowsB (h w:Int) (MP:List RR) (xs:∅):Bool:=MP.all λr=>hoB r.k h w r.cs r.n r.m xs
noncomputable def metB (h w g:Int) (MP:List RR) (cl xs:∅):Bool:=filB 1 g (h*w).toNat xs&&(cluB cl xs&&rowsB h w MP xs)
def mP(K:Frag)(c:QZ)(d:Q0)(_:PzK):Sp:=#[3,∃(P L G f:Addr) (h w g:Int) (MP:List RR) (cl xs:∅),vs=[.ref P,.ref f]/\IsPz H c d P L G h w g MP cl/\H f=↥(xs.map V.int)/\xs.length=cl.length/\∀ a,Same H a->Q (.bl (cluB cl xs)) a]
def kb(K:Frag)(c:QZ)(d:Q0):Sp:=mP K c d .Puzzle
def gA(K:Frag)(c:QZ)(d:Q0):TS:=#[":jp+au&--- {nbaMr0~+a1d~Ab#2 -h#1 -h#2 ~BG~hcqb1ef#0 cqb12d"]
variable{d:Q0}
theorem rd(h:kb K c d vs H Q E):gA K c d (eD9 Q) (start ["self","filling"] vs) H:=by
 obtain⟨P,L,G,f,h,w,g,MP,cl,xs,rfl,x,n,s,q⟩:=h;obtain⟨J,p,rs,h1,h2,h3⟩:=x.ex;have B:cl.length<=16:=by have:=x.C.len;have:=x.R.F.m;lia
 exists gA;rw[Hc,bS];refine fldE (k:=.Puzzle) rfl x.ok h1 (v:=.ref G) (by rfl) ?_;exists⟨G,f,rfl,⟨_,Nm x.gv⟩,⟨_,Nm n⟩,?_⟩;refine EK (xs:=cl.map V.int) (ys:=xs.map V.int) (λi=>.bl (decide (cl.getD i 0=0)||decide (cl.getD i 0=xs.getD i 0))) (by rw[MZ];lia) (by simp[s]) #[1] (Nm x.gv) (Nm n) ?_ ?_
 . intro i u v e A t I s1 k1;obtain⟨r,b,rfl⟩:=aN t;obtain⟨z,D,rfl⟩:=aN I;have a:=k1 _ (M5 e);rw[eX b,eX D]at a;show tOrV _ _ [none,⇑r,⇑z] e A;symm
   cases o:decide (r=0) with
   | true=>
    rw[o,Pg]at a;exact iteT a
   | false=>
    rw[o,Of]at a;exact iteF a
 . intro l e y s1 j;rw[BD]at j;refine kU j ?_;rw[EL,MZ];exact q _ s1
variable{g:Int}
theorem FR{a:Int}(h:filB a g n xs=true):xs.length=n/\∀ x∈xs,a<=x/\x<=g:=by
 unfold filB at h;rw[M9,M4,Na]at h;refine⟨h.1,λx b=>?_⟩;have:=h.2 x b;rw[M9,M4,M4]at this;exact this
theorem RR.cin{r:RR}(O:r.Ok h w g)(F:FlOk h w g):aL r.cs (h*w).toNat:=by
 obtain⟨h0,h1,l,p,f,t,m⟩:=id F;have b:0<=h*w:=Pb #[4] #[4]
 cases d:allK r.k with
 | false=>
  obtain⟨q,s,i,o,e⟩:=O.cl.told d;rw[e];refine⟨by rw[MZ];lia,λc a=>?_⟩;obtain⟨n,j,rfl⟩:=Nl.mp a;have:=i n j;lia
 | true=>
  obtain⟨_,e⟩:=O.cl.all d;rw[e];refine⟨by rw[gL];lia,λc a=>?_⟩;have:=o0 a;lia
def uL(K:Frag)(c:QZ)(d:Q0)(_:PzK):Sp:=#[3,∃(P L G f:Addr) (h w g:Int) (MP:List RR) (cl xs:∅),vs=[.ref P,.ref f]/\IsPz H c d P L G h w g MP cl/\H f=↥(xs.map V.int)/\xs.length<=100/\∀ a,Same H a->Q (.bl (metB h w g MP cl xs)) a]
def nt(K:Frag)(c:QZ)(d:Q0):Sp:=uL K c d .Puzzle
def lg(K:Frag)(c:QZ)(d:Q0):TS:=#[":jp+au&--1 tbMr0~*h#1 GxiC'k'lbi1a2dd"]
def jO(K:Frag)(c:QZ)(d:Q0):TS:=#[":gnPSA,'bbaMr0/a1aef#1 dSAxrU{o{pbir0a1djeIBo{qbir"]
variable{p f:Addr}
theorem C9 {L:Addr} {rs:List Addr} {MP:List RR} {b:Addr->Hp->Prop} (X:IsRules H c p L rs MP) (R:iw c h w g MP) (A:IsFl H p h w g) (D:H f=↥(xs.map V.int)) (y:xs.length=(h*w).toNat) (t:∀ x∈xs,0<=x/\x<=1000)
  (z:∀ l o,H l=none->Same H o->o l=↥((MP.map λr=>hoB r.k h w r.cs r.n r.m xs).map V.bl)->b l o):CompR (Itl K L) (gName 1) tTrue (aH c c.ok "holds" (c7 K c) (tVar 1) (tCons (tVar 2) tNil)) b [none,none,↑f] H:=by
 have I:=R.n;have B:=X.len;refine cH (xs:=rs.map V.ref) (λ_=>true) (λi=>.bl ((MP.map λr=>hoB r.k h w r.cs r.n r.m xs).getD i true)) (by rw[MZ];lia) (Nm X.top) ?_ ?_ ?_
 . intro i x d R t s1 k1;exact k1 _ (M5 _)
 . intro i x d E a G s1 k1;rw[M7]at a
   cases e:rs[i]? with
   | none=>rw[e]at a;cases a
   | some r=>
    rw[e]at a;cases a;have a:=(M6.mp e).1;have s:MP[i]? =some MP[i]:=M0 #[4];have j:=X.at_ i r _ e s;obtain⟨J,W,C,h1,h2,h3⟩:=j.ex;have u:(MP.map λr=>hoB r.k h w r.cs r.n r.m xs).getD i true=hoB MP[i].k h w MP[i].cs MP[i].n MP[i].m xs:=by rw[List.getD,M7,s];rfl
    rw[u]at k1;have O:=R.ok _ (M8 s);show aH c c.ok "holds" _ _ _ [none,↑r,↑f] d E;refine methE (k:=MP[i].k) rfl j.ok (s1 _ _ h1) (by rfl) ?_;exists⟨r,p,f,_,_,xs,_,_,h,w,g,rfl,j.same s1,s1 _ _ A,R.F,s1 _ _ D,by rw[y];exact RR.cin O R.F,t,k1⟩
 . intro l d q s1 v;refine z l d q s1 ?_;rw[v,bg,MZ,B]
   congr 2
   refine OA λi=>?_;rw[M7,M7,M7];by_cases h:i<MP.length
   . rw[N8 h,M0 h];simp[List.getD,h]
   . rw[NI (by simpa using h),NI #[4]];rfl
theorem vW(h:nt K c d vs H Q E):jO K c d (eD9 Q) (start ["self","filling"] vs) H:=by
 obtain⟨P,L,G,f,h,w,g,MP,cl,xs,rfl,x,b,t,q⟩:=h;obtain⟨N,p,rs,h1,h2,h3⟩:=x.ex;have J:=x.R.F.g1;ac_nf;unfold jO;rw[aG,aD];exists fldE (k:=.Puzzle) rfl x.ok h1 (v:=.ref p) (by rfl) ?_;exists⟨p,f,h,w,g,1,xs,rfl,h2,x.R.F,b,t,λI s1=>?_⟩;unfold metB at q
 cases e:filB 1 g (h*w).toNat xs with
 | false=>
  rw[e,Nw]at q;refine⟨false,rfl,iteT ?_⟩;exists q _ s1
 | true=>
  rw[e,Nv]at q;obtain⟨j,z⟩:=FR e;refine⟨true,rfl,iteF ?_⟩;exists methE (k:=.Puzzle) rfl x.ok (s1 _ _ h1) (by rfl) ?_;exists⟨P,L,G,f,h,w,g,MP,cl,xs,rfl,x.same s1,s1 _ _ b,by rw[j,x.C.len],λO A=>?_⟩;have a:=s1.trans A
  cases i:cluB cl xs with
  | false=>
   rw[i,Nw]at q;refine⟨false,rfl,iteT ?_⟩;exists q _ a
  | true=>
   rw[i,Nv]at q;refine⟨true,rfl,iteF ?_⟩;unfold lg;exists fldE (k:=.Puzzle) rfl x.ok (a _ _ h1) (v:=.ref L) (by rfl) ?_;refine⟨L,rfl,⟨_,Nm (a _ _ h3.top)⟩,?_⟩;refine C9 (h3.same a) x.R (a _ _ h2) (a _ _ b) j (λy u=>by have:=z y u;lia) λl M o B s=>?_;refine kU s ?_;have D:(MP.map λr=>hoB r.k h w r.cs r.n r.m xs).all id=rowsB h w MP xs:=by unfold rowsB;rw[OL];rfl
   rw[D];exact q _ (a.trans B)
variable{α:Type}
theorem FS(F:Int->α)(a:∅):(List.range a.length).map (λi=>F (a.getD i 0))=a.map F:=by
 refine OA λi=>?_;rw[M7,M7];by_cases h:i<a.length
 . rw[N8 h,M0 h];simp[List.getD,h]
 . rw[NI (by simpa using h),NI #[4]];rfl
variable{i:Nat}
theorem sd{α:Type}{l:List α}{x:α}(h:l[i]? =some x):l.take (i+1)=l.take i++[x]:=by
 rw[Pc,h];rfl
variable{l:Addr}{as:List Addr}{MU:List ∅}
theorem IsLL.app{bs:List Addr}{b:List ∅}(x:IsLL H l as MU)(f:l∉as)(nb:l∉bs)(e:bs.length=b.length)(d:∀(j:Nat) (a:Addr) (ys:∅),bs[j]? =some a->b[j]? =some ys->H a=↥(ys.map V.int)):
  IsLL (upd H l (.lst (as.map V.ref++bs.map V.ref))) l (as++bs) (MU++b):=by
 have g:=x.len;refine⟨by rw[ah,OT],by rw[NG,NG,x.len,e],λj a ys h1 h2=>?_⟩;by_cases h:j<as.length
 . rw[NO h]at h1;rw[NO #[4]]at h2;have c:a≠l:=λz=>f (z ▸ M8 h1);rw[aj c];exact x.at_ j a ys h1 h2
 . rw[NW #[4]]at h1;rw[NW #[4]]at h2;have c:a≠l:=λz=>nb (z ▸ M8 h1);rw[aj c];exact d _ a ys h1 (by rw[g];exact h2)
theorem IsLL.get{a:Addr}(x:IsLL H l as MU)(h:as[i]? =some a):∃ xs,MU[i]? =some xs/\H a=↥(xs.map V.int):=by
 have b:=(M6.mp h).1;have e:MU[i]? =some (MU[i]'(by have:=x.len;lia)):=M0 _;exact⟨_,e,x.at_ i a _ h e⟩
def EM(h:n<=1100):n<sizeLine:=Ot h #[1]
theorem EN{q:Addr}{xs ys:List V}(b:H p=↥xs)(c:H q=↥ys)(a:xs.length+ys.length<=1100)(h:Q .non (upd H p (.lst (xs++ys)))):kq (.ref p) [.ref q] H Q:=by
 show bnd (unM (H p)) _;rw[b];show bnd (unM (H q)) _;rw[c];exact⟨NU (EM a),h⟩
theorem EO(f:α->V)(xs:List α)(k:Nat):cutV (xs.map f) none (some (k:Int))=(xs.take k).map f:=by
 unfold cutV;rw[HT.sIx_nat,HT.sIx_none,MZ,List.drop_zero,Nat.sub_zero,Pj];by_cases h:k<=xs.length
 . rw[PP h]
 . rw[Pf #[4],N0 (by rw[MZ];exact Nr _),N0 (by rw[MZ];lia)]
theorem Ch(m:Int):(sgL m).length<=Builtin.Int.intBits m:=by
 unfold sgL;rw[MZ];refine Nk (Np _ _) ?_;rw[Og];exact Nr _
def prodW(ms:∅):Nat:=ms.foldl (λp m=>p*(sgL m).length) 1
variable{x:Int}
theorem vX(f:α->Int->α)(a:α)(h:xs[i]? =some x):(xs.take (i+1)).foldl f a=f ((xs.take i).foldl f a) x:=by
 rw[Pc,h,O6];rfl
def xB(K:Frag):Sp:=#[3,∃ p ms,vs=[.ref p]/\H p=↥(ms.map V.int)/\(∀ m∈ms,Builtin.Int.intBits m<=900)/\∀ a,Same H a->Q (.int ((prodW ms:Nat):Int)) a]
def xC(K:Frag):TS:=#[":gmef#1 h#1 gKtb0h#2 mcV1pza,]ba2ddh#1 j1"]
theorem Hd(h:xB K vs H Q E):xC K (eD9 Q) (start ["masks","product","mask"] vs) H:=by
 obtain⟨p,ms,rfl,d,j,k⟩:=h;exists xC;refine⟨⟨_,Nm d⟩,bz (K:=K) (xs:=ms.map V.int) (λi σ e=>∃ a:Option V,σ=[↑p,⇑((prodW (ms.take i):Nat):Int),a]/\Same H e) ⟨none,rfl,M5 H⟩ (λi σ e _ ⟨_,_,s⟩=>Nm (s _ _ d)) ?_ ?_⟩
 . rintro i x σ f o ⟨a,rfl,s1⟩;obtain⟨m,c,rfl⟩:=aN o;have b:=j m (M8 c);exists⟨m,rfl,b,λl r n q g=>?_⟩;symm;rw[a8 g];symm;have h1:=Ch m;rw[MZ];refine⟨.inr ⟨by lia,by lia⟩,⇑m,?_,s1.trans n⟩;unfold prodW;rw[vX _ _ c,Int.natCast_mul]
 . rintro σ f ⟨a,rfl,s1⟩;symm;rw[N0 (by rw[MZ];exact Nr _)] at*;exact k _ s1
def setL(xs:∅)(z s:Int):∅:=(List.range xs.length).map λ(i:Nat)=>if (i:Int)=z then s else xs.getD i 0
variable{z s:Int}
theorem qy:(setL xs z s).length=xs.length:=by unfold setL;simp
def Ci(s0:0<=s)(b:s<=6)(f:∀ x∈xs,0<=x/\x<=6):∀ x∈setL xs z s,0<=x/\x<=6:=λx h=>by
 unfold setL at h;obtain⟨i,d,rfl⟩:=Nl.mp h;have a:=Nj.mp d;have c:=f _ (NB a);have e:xs.getD i 0=xs[i]:=by rw[List.getD,M0 a];rfl
 rw[e]
 split
 . exact⟨s0,b⟩
 . exact c
def jP(K:Frag):Sp:=#[3,∃ F xs z s,vs=[.ref F,.int z,.int s]/\H F=↥(xs.map V.int)/\xs.length<=100/\∀ l a,Same H a->H l=none->a l=↥((setL xs z s).map V.int)->Q (.ref l) a]
def mQ(K:Frag):TS:=#[":ju&---12 ~:ba0d~Ab#2 -h#1 -h#2 ~BG~xlcqb1342"]
theorem Aq(h:jP K vs H Q E):mQ K (eD9 Q) (start ["filling","cell","sign"] vs) H:=by
 obtain⟨F,xs,z,s,rfl,e,k,q⟩:=h;exists mQ;refine⟨F,rfl,⟨_,Nm e⟩,?_⟩;refine qe (xs:=xs.map V.int) (λ_=>true) (λi=>.int (if (i:Int)=z then s else xs.getD i 0)) (by rw[MZ];lia) #[1] (Nm e) ?_ ?_ ?_
 . intro i x a R f s1 k1;exact k1 _ (M5 _)
 . intro i x a g f m s1 k1;obtain⟨y,j,rfl⟩:=aN f;have b:=k1 _ (M5 a);rw[eX j]at b;show tIf _ _ _ [none,⇑(i:Int),⇑y,⇑z,⇑s] a g;unfold tIf;symm;by_cases h0:(i:Int)=z
   . rw[M3 h0];rw[NA h0]at b;exact iteT b
   . rw[M2 h0];rw[Nt h0]at b;exact iteF b
 . intro l a c s1 d;rw[bg,MZ]at d;refine q l a s1 c ?_;rw[d];unfold setL;rw[NH];rfl
def extS(a:List ∅)(z:Int)(b:∅):List ∅:=a.flatMap λf=>b.map λs=>setL f z s
theorem uM(z:Int)(b:∅):∀ a:List ∅,(extS a z b).length=a.length*b.length
 | []=>by simp[extS]
 | f::r=>by
  have c:=uM z b r;unfold extS at c ⊢;rw[List.flatMap_cons,NG,c,MZ,NJ,QU,Nat.add_comm]
theorem FT(fs b:List ∅)(z:Int)(a:∅):extS (fs++b) z a=extS fs z a++extS b z a:=by
 unfold extS;rw[PX]
theorem FU(f:∅)(z:Int)(a:∅):extS [f] z a=a.map λs=>setL f z s:=by
 unfold extS;simp
theorem mem_extS{f:∅}{fs:List ∅}{d:∅}:f∈extS fs z d↔∃ a∈fs,∃ s∈d,f=setL a z s:=by
 unfold extS;rw[Qr];constructor
 . rintro⟨a,b,h⟩;obtain⟨s,c,rfl⟩:=Nl.mp h;exact⟨a,b,s,c,rfl⟩
 . rintro⟨a,b,s,c,rfl⟩;exact⟨a,b,Nl.mpr ⟨s,c,rfl⟩⟩
theorem EQ{g d f:Hp}{m:Addr}{bs:List Addr}{c:List ∅}(x:IsLL d l as MU)(i:l∉as)(s0:Same g d)(n:∀ b∈as,g b=none)(s1:Same d f)(e:NewAt d f m bs (c.map λys=>.lst (ys.map V.int))):
  IsLL (upd f l (.lst (as.map V.ref++bs.map V.ref))) l (as++bs) (MU++c)/\l∉as++bs/\(∀ b∈as++bs,g b=none):=by
 have k:l∉bs:=λh=>by have:=e.fr l h;rw[x.top]at this;cases this
 refine⟨?_,?_,?_⟩
 . refine(x.same s1).app i k (by rw[e.len,MZ]) λj a ys h1 h2=>?_;exact e.at_ j a _ h1 (by rw[M7,h2];rfl)
 . intro h;rcases Ny.mp h with h | h
   . exact i h
   . exact k h
 . intro b h;rcases Ny.mp h with h | h
   . exact n b h
   . exact s0.free (e.fr b h)
def ik(K:Frag):Sp:=#[3,∃ F S as a z b,vs=[.ref F,.int z,.ref S]/\IsLL H F as a/\H S=↥(b.map V.int)/\a.length*b.length<=1100/\b.length<=100/\(∀ f∈a,f.length<=16)/\
 ∀(l:Addr) (d:List Addr) (c:Hp),Same H c->H l=none->IsLL c l d (extS a z b)->Q (.ref l) c]
def im(K:Frag):TS:=#[":gmsdh#3 gKtb0h#4 NDbE~;3au&--14 tb2h#1 G,'mba3a2a1ddj3"]
theorem tL(h:ik K vs H Q E):im K (eD9 Q) (start ["fillings","cell","signs","found","filling"] vs) H:=by
 obtain⟨F,S,as,c,z,n,rfl,x,J,hn,hs,hf,q⟩:=h;exists im;refine⟨lnR rfl,λl o=>?_⟩;obtain⟨H1,U,s1,C⟩:=aW (.lst []) o;rw[U];refine⟨⟨_,Nm (s1 _ _ x.top)⟩,?_⟩
 refine bz (K:=K) (xs:=as.map V.ref) (λi σ p=>∃(v:Option V) (d:List Addr),σ=[↑F,⇑z,↑S,↑l,v]/\Same H p/\IsLL p l d (extS (c.take i) z n)/\l∉d/\∀ b∈d,H b=none)
  ⟨none,[],rfl,s1,⟨C,rfl,λj a xs h1=>by simp at h1⟩,by simp,λb u=>nomatch u⟩ (λi σ p _ ⟨_,_,_,s,_⟩=>s.seq (Nm x.top)) ?_ ?_
 . rintro i y σ G T ⟨v,d,rfl,g,k,O,L⟩;obtain⟨f,I,rfl⟩:=b5 T;obtain⟨xs,D,P⟩:=x.get I;have Y:=hf xs (M8 D);exists⟨aZ k.top,⟨_,Nm (g _ _ J)⟩,?_⟩;refine qf (xs:=n.map V.int) (λ_=>true) (λi=>.lst ((setL xs z (n.getD i 0)).map V.int)) (by rw[MZ];lia) (Nm (g _ _ J)) ?_ ?_ ?_
   . intro i x H R hx s1 k1;exact k1 _ (M5 _)
   . intro i x B Q3 N u r k3;obtain⟨t,ht,rfl⟩:=aN N;rw[eX ht]at k3;show tCall _ _ _ _ [none,⇑t,⇑z,↑f] B Q3;exists⟨f,xs,z,t,rfl,(g.trans r) _ _ P,by lia,λl p s' o C=>k3 l p s' o C⟩
   . intro m cs B hm r X A;rw[bg,MZ,FS (λs=>HO.lst ((setL xs z s).map V.int))]at A
     have w:NewAt G B m cs ((extS [xs] z n).map λys=>.lst (ys.map V.int)):=by
      rw[FU,NH];exact A
     have u:d.length+cs.length<=1100:=by
      have M:=k.len;rw[uM,Oa]at M;have Z:=A.len;rw[MZ]at Z;have N:=(M6.mp D).1;have e1:min i c.length=i:=by lia
      rw[e1]at M;have:=PK n.length (show i+1<=c.length by lia);rw[QU]at this;lia
     refine EN (r _ _ k.top) X (by rw[MZ,MZ];exact u) ?_;obtain⟨z1,W,z3⟩:=EQ k O g L r w;refine⟨_,d++cs,rfl,(g.trans r).own o,?_,W,z3⟩;rw[sd D,FT];exact z1
 . rintro σ G ⟨v,d,rfl,g,k,O,L⟩;symm;have e:c.take (as.map V.ref).length=c:=N0 (by rw[MZ,x.len];exact Nr _);rw[e]at k;exact q l d G g o k
def wfold(MN:∅)(rest:∅)(fs:List ∅):List ∅:=rest.foldl (λfs o=>extS fs o (sgL (MN.getD o.toNat 0))) fs
def wfill(MN rest:∅)(z s:Int):List ∅:=wfold MN rest [setL (List.replicate MN.length 0) z s]
noncomputable def waysB (k:RK) (h w:Int) (cs:∅) (n m:Int) (MN:∅) (z s:Int) (ms:∅):Bool:=
 decide (ms=[])&&(decide (prodW (sgAt MN (othL cs z))<=32)&&(decide (0∈sgAt MN (othL cs z))||!((wfill MN (othL cs z) z s).any λf=>hoB k h w cs n m f)))
theorem yr(MN:∅):∀(rest:∅) (fs:List ∅),(wfold MN rest fs).length=(sgAt MN rest).foldl (λp m=>p*(sgL m).length) fs.length
 | [],_=>rfl
 | o::r,fs=>by
  unfold wfold sgAt;rw[Op,NK,Op];have:=yr MN r (extS fs o (sgL (MN.getD o.toNat 0)));unfold wfold sgAt at this;rw[this,uM]
theorem Ar:∀(ms:∅) (n:Nat),(∀ m∈ms,1<=(sgL m).length)->n<=ms.foldl (λp m=>p*(sgL m).length) n
 | [],_,_=>Nr _
 | m::r,n,h=>by
  rw[Op];exact Nk (Nat.le_mul_of_pos_right n (h m Nh)) (Ar r _ λx a=>h x (Ni _ a))
theorem Da(i:Nat)(h:∀ m∈ms,1<=(sgL m).length):prodW (ms.take i)<=prodW ms:=by
 have e:prodW ms=(ms.drop i).foldl (λp m=>p*(sgL m).length) (prodW (ms.take i)):=by
  unfold prodW;rw[← O6,QK]
 rw[e];exact Ar _ _ λx a=>h x (List.mem_of_mem_drop a)
theorem qz{n:Nat}{MN:∅}(k:∀ m∈MN,0<=m/\m<64):∀(rest:∅) (fs:List ∅),(∀ f∈fs,f.length=n/\∀ x∈f,0<=x/\x<=6)->∀ f∈wfold MN rest fs,f.length=n/\∀ x∈f,0<=x/\x<=6
 | [],_,h,f,hf=>h f hf
 | o::r,fs,h,f,hf=>by
  refine qz k r (extS fs o (sgL (MN.getD o.toNat 0))) (λg l=>?_) f hf;obtain⟨a,q,s,c,rfl⟩:=mem_extS.mp l;have h1:=h a q
  have d:1<=s/\s<=6:=by
   by_cases b:o.toNat<MN.length
   . have e:MN.getD o.toNat 0=MN[o.toNat]:=by rw[List.getD,M0 b];rfl
     rw[e]at c;have i:=k _ (NB b);rw[(iA i.1 i.2).2]at c;obtain⟨j,p,rfl⟩:=Nl.mp c;have:=(Nf.mp p).1;simp at this;lia
   . have e:MN.getD o.toNat 0=0:=by rw[List.getD,NI #[4]];rfl
     rw[e,IG]at c;cases c
  exact⟨by rw[qy];exact h1.1,Ci #[4] d.2 h1.2⟩
def jQ(K:Frag)(c:QZ):Sp:=#[3,∃ k r p A M b cs MN ms n m z s h w g,vs=[.ref r,.ref A,.int z,.int s,.ref M]/\IsRule H c k r p b cs n m/\IsFl H p h w g/\FlOk h w g/\aL cs MN.length/\MN.length<=16/\(∀ m∈MN,0<=m/\m<64)/\1<=s/\s<=6/\H A=↥(MN.map V.int)/\H M=↥(ms.map V.int)/\∀ a,Same H a->Q (.bl (waysB k h w cs n m MN z s ms)) a]
def gU(K:Frag)(c:QZ):TS:=#[":gKtb7h#9 nAxiC'k'lbi0a9djeIBojeIQ"]
def gW(K:Frag)(c:QZ):TS:=#[":gmsa,'mbac{rsaef#0 dpza1da2a3ddh#7 gKtb5h#8 m,{sba7a8a,]back18ddh#7 {tbi"]
def jR(K:Frag)(c:QZ):TS:=#[":gm,Zbia0a2dh#5 gm,~iba1a5dh#6 gnPlcFb4sdlc>,{uba6def#32 jeIBognA,~Lba6djeIQo{vbi"]
structure Wys(H:Hp)(c:QZ)(k:RK)(r p A:Addr)(ws:List (List Nat))(cs MN:∅)(n m h w g:Int):Prop where
 R:IsRule H c k r p ws cs n m
 fl:IsFl H p h w g
 F:FlOk h w g
 ci:aL cs MN.length
 ml:MN.length<=16
 mo:∀ m∈MN,0<=m/\m<64
 hA:H A=↥(MN.map V.int)
variable{A:Addr}{MN:∅}
def Wys.same{a:Hp}{k:RK}{r:Addr}{b:List (List Nat)}{n:Int}(x:Wys H c k r p A b cs MN n m h w g)(s:Same H a):Wys a c k r p A b cs MN n m h w g:=⟨x.R.same s,s _ _ x.fl,x.F,x.ci,x.ml,x.mo,s _ _ x.hA⟩
theorem Db {k:RK} {r F:Addr} {O:List (List Nat)} {n:Int} {M I P D G N:Option V} {bs:List Addr} {a:List ∅} (X:Wys H c k r p A O cs MN n m h w g) (x:IsLL H F bs a) (Z:∀ f∈a,f.length=MN.length/\∀ x∈f,0<=x/\x<=6)
  (q:∀ j,Same H j->Q (.bl (!(a.any λf=>hoB k h w cs n m f))) j):
  gU K c (eD9 Q) [↑r,↑A,M,I,P,D,G,↑F,N,none] H:=by
 obtain⟨dx,W,C,h1,h2,h3⟩:=X.R.ex;have v:=x.len;unfold gU;exists⟨⟨_,Nm x.top⟩,?_⟩;refine bz (K:=K) (xs:=bs.map V.ref) (λi σ j=>∃ z:Option V,σ=[↑r,↑A,M,I,P,D,G,↑F,N,z]/\Same H j/\((a.take i).any λf=>hoB k h w cs n m f)=false) ⟨none,rfl,M5 _,rfl⟩ (λi σ j _ ⟨_,_,s,_⟩=>s.seq (Nm x.top)) ?_ ?_
 . rintro i y σ T u ⟨z,rfl,s1,d⟩;obtain⟨b,U,rfl⟩:=b5 u;obtain⟨f,E,Y⟩:=x.get U;have l:=M8 E;obtain⟨t,B⟩:=Z f l;have o:=X.same s1;symm;rw[aD];exists methE (k:=k) rfl X.R.ok (s1 _ _ h1) (by rfl) ?_;exists⟨r,p,b,O,cs,f,n,m,h,w,g,rfl,o.R,o.fl,o.F,s1 _ _ Y,by rw[t];exact o.ci,λy u=>by have:=B y u;lia,λH2 J=>?_⟩;refine⟨_,rfl,?_⟩
   cases L:hoB k h w cs n m f with
   | true=>
    refine iteT ?_;have e:(a.any λf=>hoB k h w cs n m f)=true:=Ou.mpr ⟨f,l,L⟩;have S:=q _ (s1.trans J);rw[e]at S;exact S
   | false=>
    refine iteF ⟨_,rfl,s1.trans J,?_⟩;rw[sd E,List.any_append,d,Of]
    simpa using L
 . rintro σ T ⟨z,rfl,s1,d⟩;rw[N0 (by rw[MZ,v];exact Nr _)]at d;symm;rw[d]at q;exact q _ s1
theorem Dc {k:RK} {r R:Addr} {ws:List (List Nat)} {n:Int} {v4 v6:Option V} (X:Wys H c k r p A ws cs MN n m h w g) (hR:H R=↥((othL cs z).map V.int)) (s0:1<=s) (s6:s<=6) (hw:prodW (sgAt MN (othL cs z))<=32) (h0:0∉sgAt MN (othL cs z))
  (q:∀ u,Same H u->Q (.bl (!((wfill MN (othL cs z) z s).any λf=>hoB k h w cs n m f))) u):
  gW K c (eD9 Q) [↑r,↑A,⇑z,⇑s,v4,↑R,v6,none,none,none] H:=by
 have ac:=X.ml;unfold gW;exists⟨lnR rfl,λZ hZ=>?_⟩;obtain⟨C,z9,s1,eZ⟩:=aW (.lst [V.int 0]) hZ;rw[z9];rw[a8 (s1 _ _ X.hA),MZ];refine Il eZ #[4] #[4] (by show(1:Nat)<=1;decide) λN hN=>?_;have s2:Same C (upd C N (.lst (List.replicate ((MN.length:Nat):Int).toNat [V.int 0]).flatten)):=(M5 C).laid hN
 have eN:(upd C N (.lst (List.replicate ((MN.length:Nat):Int).toNat [V.int 0]).flatten)) N=↥((List.replicate MN.length (0:Int)).map V.int):=by
  rw[ah,List.map_replicate];simp
 generalize upd C N (.lst (List.replicate ((MN.length:Nat):Int).toNat [V.int 0]).flatten)=H2 at*;have U:=s1.trans s2;refine⟨N,_,z,s,rfl,eN,by simp;lia,λb D s3 B eb=>?_⟩;have ab:=U.trans s3;exists⟨lnR rfl,λF hF=>?_⟩;have s4:Same D (upd D F (.lst [V.ref b])):=(M5 D).laid hF
 have xF:IsLL (upd D F (.lst [V.ref b])) F [b] [setL (List.replicate MN.length 0) z s]:=by
  refine⟨ah,rfl,λj a xs e1 e2=>?_⟩;have hj:j=0:=by have:=(M6.mp e1).1;simp at this;lia
  subst hj;cases e1;cases e2;exact s4 _ _ eb
 generalize upd D F (.lst [V.ref b])=H4 at*;have E:=ab.trans s4
 have t:∀ f∈([setL (List.replicate MN.length 0) z s]:List ∅),f.length=MN.length/\∀ x∈f,0<=x/\x<=6:=λf hf=>by
  rw[Nd.mp hf];exact⟨by rw[qy];simp,Ci #[4] s6 λx hx=>by rw[(List.mem_replicate.mp hx).2];lia⟩
 have aa:∀ mm∈sgAt MN (othL cs z),1<=(sgL mm).length:=λmm W=>by
  have J:mm≠0:=λe=>h0 (e ▸ W);unfold sgAt at W;obtain⟨o,L,rfl⟩:=Nl.mp W;have v:o∈cs:=(Nf.mp L).1;have hi:=X.ci.2 o v;have d:o.toNat<MN.length:=by lia
  have e:MN.getD o.toNat 0=MN[o.toNat]:=by rw[List.getD,M0 d];rfl
  rw[e]at J ⊢;have B:=X.mo _ (NB d);exact(Gs B.1 B.2 J).1.1
 refine⟨⟨_,Nm (E _ _ hR)⟩,?_⟩;refine bz (K:=K) (xs:=(othL cs z).map V.int) (λi σ u=>∃(F:Addr) (O:List Addr) (v8:Option V),σ=[↑r,↑A,⇑z,⇑s,v4,↑R,v6,↑F,v8,none]/\Same H u/\IsLL u F O (wfold MN ((othL cs z).take i) [setL (List.replicate MN.length 0) z s])) ⟨F,[b],none,rfl,E,xF⟩ (λi σ u _ ⟨_,_,_,_,s,_⟩=>s.seq (Nm hR)) ?_ ?_
 . rintro i y σ H5 hy ⟨F,O,v8,rfl,G,M⟩;obtain⟨o,L,rfl⟩:=aN hy;have P:=M8 L;have v:o∈cs:=(Nf.mp P).1;have hi:=X.ci.2 o v;have d:o.toNat<MN.length:=by lia
   have e:MN.getD o.toNat 0=MN[o.toNat]:=by rw[List.getD,M0 d];rfl
   have B:=X.mo _ (NB d);have sb:=iA B.1 B.2;exists ixI (G _ _ X.hA) #[4] #[4] ?_;symm;rw[e];refine⟨_,rfl,by lia,λS H6 I hS eS=>?_⟩;symm;have T:(sgL MN[o.toNat]).length<=6:=Nk (Ch _) sb.1;refine⟨F,S,O,_,o,_,rfl,M.same I,eS,?_,by lia,λf hf=>by have:=(qz X.mo _ _ t f hf).1;lia,λl Y H7 s7 hl x7=>?_⟩
   . rw[yr];have h1:=Da i aa
     have e2:(sgAt MN ((othL cs z).take i)).foldl (λp m=>p*(sgL m).length) ([setL (List.replicate MN.length 0) z s]:List ∅).length=prodW ((sgAt MN (othL cs z)).take i):=by
      unfold prodW sgAt;rw[Pj];rfl
     rw[e2];have h3:prodW ((sgAt MN (othL cs z)).take i)*(sgL MN[o.toNat]).length<=32*6:=QN #[4] T;lia
   . refine⟨l,Y,_,rfl,(G.trans I).trans s7,?_⟩
     have e3:wfold MN ((othL cs z).take (i+1)) [setL (List.replicate MN.length 0) z s]=extS (wfold MN ((othL cs z).take i) [setL (List.replicate MN.length 0) z s]) o (sgL MN[o.toNat]):=by
      unfold wfold;rw[vX _ _ L,e]
     rw[e3];exact x7
 . rintro σ H5 ⟨F,O,v8,rfl,G,M⟩;rw[N0 (by rw[MZ];exact Nr _)]at M;exact Db (X.same G) M (qz X.mo _ _ t) λu s'=>q u (G.trans s')
theorem vY(h:jQ K c vs H Q E):jR K c (eD9 Q) (start ["rule","masks","cell","sign","more","rest","some","fillings","other","filling"] vs) H:=by
 obtain⟨k,r,p,A,M,I,cs,MN,ms,n,m,z,s,h,w,g,rfl,y,U,F,f,O,mk,s0,Y,D,Z,q⟩:=h;have X:Wys H c k r p A I cs MN n m h w g:=⟨y,U,F,f,O,mk,D⟩;have u:cs.length<=63:=by have:=f.1;lia
 exists jR;refine⟨k,r,p,I,cs,n,m,z,rfl,y,u,λR L s1 W T=>?_⟩;have i:L R=↥((othL cs z).map V.int):=T;exists⟨A,R,MN,othL cs z,rfl,s1 _ _ D,i,⟨Nk (Np _ _) f.1,λx j=>f.2 x (Nf.mp j).1⟩,λS J C hS G=>?_⟩;have t:=s1.trans C;dsimp only;rw[aD];exists⟨lnR rfl,λe he=>?_⟩;obtain⟨H3,z9,s3,ee⟩:∃ z,upd J e (.lst [])=z/\Same J z/\z e=↥(([]:∅).map V.int):=aW _ he;rw[z9];have b:=t.trans s3;refine tp (b _ _ Z) ee ?_;refine⟨_,rfl,?_⟩;unfold waysB at q;by_cases v:ms=[]
 . rw[M3 v]at q ⊢;rw[Nv]at q;refine iteF ?_;exists⟨S,_,rfl,s3 _ _ G,λx j=>?_,λH4 l=>?_⟩
   . unfold sgAt at j;obtain⟨o,N,rfl⟩:=Nl.mp j;have hi:=f.2 o (Nf.mp N).1;have d:o.toNat<MN.length:=by lia
     have e:MN.getD o.toNat 0=MN[o.toNat]:=by rw[List.getD,M0 d];rfl
     rw[e];have B:=mk _ (NB d);have:=(iA B.1 B.2).1;lia
   . have a:=b.trans l;symm;by_cases hw:prodW (sgAt MN (othL cs z))<=32
     . rw[M3 hw,Nv]at q;rw[M2 #[4]];refine iteF ?_;rw[aD];exists⟨S,_,rfl,(s3.trans l) _ _ G,?_⟩;refine⟨_,rfl,?_⟩;by_cases h0:0∈sgAt MN (othL cs z)
       . rw[M3 h0]at q ⊢;rw[Pg]at q;exact iteT (q _ a)
       . rw[M2 h0]at q ⊢;rw[Of]at q;refine iteF ?_;exact Dc (X.same a) (((C.trans s3).trans l) _ _ i) s0 Y hw h0 λP s'=>q P (a.trans s')
     . rw[M2 hw,Nw]at q;rw[M3 #[4]];exact iteT (q _ a)
 . rw[M2 v,Nw]at q;rw[M2 v];exact iteT (q _ b)
def li(g:Int)(t:TK)(x:RR)(MN:∅)(z s:Int)(ms:∅):Bool:=match t with
 | .only=>onlyB x.cs MN z s ms
 | .place=>vP g x.cs MN z s ms
 | _=>pairB x.cs MN z s ms
def iC(g:Int)(MP:List RR)(cl MN:∅)(t:TK)(r z s:Int)(ms:∅):Bool:=match t with
 | .clue=>clueB cl z s ms
 | _=>match MP[r.toNat]? with
  | none=>false
  | some x=>li g t x MN z s ms
theorem zx{α:Type}{f:Int->α}(g:(cs.map f).Nodup){a b:Int}(j:a∈cs)(i:b∈cs)(m:a≠b):f a≠f b:=by
 induction cs with
 | nil=>cases j
 | cons x r l=>
  rw[NK,NY]at g;rcases Ng.mp j with k | d
  . rcases Ng.mp i with h | c
    . exact absurd (k.trans h.symm) m
    . rw[k];exact λe=>g.1 (Nl.mpr ⟨b,c,e.symm⟩)
  . rcases Ng.mp i with h | c
    . rw[h];exact λe=>g.1 (Nl.mpr ⟨a,d,e⟩)
    . exact l g.2 d c
theorem He:((List.range 64).all λm=>(List.range 6).all λj=>(List.range 6).all λi=>!(decide (woI (m:Int) (1+(j:Int))=0)&&stB (m:Int) (1+(i:Int)))||decide (i=j))=true:=by decide+kernel
theorem As(d:0<=m)(c:m<64)(s0:1<=s)(b:s<=6)(f:1<=x)(e:x<=6)(h1:woI m s=0)(h2:stB m x=true):x=s:=by
 have t:=Na.mp (Na.mp (Na.mp He m.toNat (Nj.mpr #[4])) (s-1).toNat (Nj.mpr #[4])) (x-1).toNat (Nj.mpr #[4]);have e1:((m.toNat:Nat):Int)=m:=by lia
 have e2:1+(((s-1).toNat:Nat):Int)=s:=by lia
 have a:1+(((x-1).toNat:Nat):Int)=x:=by lia
 rw[e1,e2,a,M3 h1,h2]at t;simp at t;lia
def At{a b:Int}(d:0<=a)(c:0<=b):Builtin.bitOr a b=((a.toNat||| b.toNat:Nat):Int):=Am d c
theorem FV:((List.range 64).all λm=>(List.range 6).all λi=>decide (stB (m:Int) (1+(i:Int))=Nat.testBit m i)&&decide (decide (1+(i:Int)∈sgL (m:Int))=Nat.testBit m i))=true:=by decide+kernel
theorem kE(a:0<=m)(c:m<64)(d:1<=x)(b:x<=6):stB m x=m.toNat.testBit (x-1).toNat/\decide (x∈sgL m)=m.toNat.testBit (x-1).toNat:=by
 have t:=Na.mp (Na.mp FV m.toNat (Nj.mpr #[4])) (x-1).toNat (Nj.mpr #[4]);rw[M9,M4,M4,show((m.toNat:Nat):Int)=m by lia,show 1+(((x-1).toNat:Nat):Int)=x by lia]at t;exact t
theorem Cj{a b:Int}(f:0<=a)(g:a<64)(e:0<=b)(i:b<64)(d:1<=x)(c:x<=6)(h:stB a x=true\/stB b x=true):x∈sgL (Builtin.bitOr a b):=by
 have l:a.toNat||| b.toNat<2^6:=Qi #[4] #[4];have o:=(kE (m:=((a.toNat||| b.toNat:Nat):Int)) #[4] #[4] d c).2;rw[(kE f g d c).1,(kE e i d c).1]at h;rw[At f e];refine Nb (o.trans ?_);rw[N1,Nat.testBit_or,OS];exact h
theorem Hf{a b:Int}(d:a∈xs)(c:b∈xs)(e:a≠b):2<=xs.length:=by
 match xs,d,c with
 | [x],d,c=>exact absurd ((Nd.mp d).trans (Nd.mp c).symm) e
 | x::y::r,_,_=>simp
theorem II{vs:∅}(e:vs.Nodup)(j:∀ v∈vs,1<=v/\v<=g)(l:(vs.length:Int)=g)(i:1<=x)(h:x<=g):x∈vs:=by
 refine Qd λf=>?_;have c:(x::vs).Nodup:=NY.mpr ⟨f,e⟩
 have d:∀ v∈x::vs,v∈(List.range g.toNat).map λ(k:Nat)=>1+(k:Int):=λv a=>by
  have b:1<=v/\v<=g:=by
   rcases Ng.mp a with rfl | a
   . exact⟨i,h⟩
   . exact j v a
  exact Nl.mpr ⟨(v-1).toNat,Nj.mpr #[4],by lia⟩
 have:=e8 c d;rw[NJ,MZ,Og]at this;lia
noncomputable def rcB (h w:Int) (cs:∅) (st x:Int):Bool:=@decide (RC h w cs st x) (Classical.propDecidable _)
theorem Au{rs:∅}{st:Int}(a:x∈rs↔RC h w cs st x):decide (x∈rs)=rcB h w cs st x:=by
 unfold rcB;rw[ND,M4];exact a.trans (@OP _ (Classical.propDecidable _)).symm
def anoB(h w:Int)(MN:∅)(z m o:Int):Bool:=(decide (0<=o)&&decide (o<h*w))&&(!decide (o=z)&&decide (woI (MN.getD o.toNat 0) m=0))
def eJ(K:Frag):Sp:=#[3,∃ f A h w g z o m MN,vs=[.ref f,.ref A,.int z,.int o,.int m]/\IsFl H f h w g/\FlOk h w g/\H A=↥(MN.map V.int)/\MN.length=(h*w).toNat/\m<=1000/\Q (.bl (anoB h w MN z m o)) H]
def eQ(K:Frag):TS:=#[":jL,{wba0a3dLcFb32,~oback13a4d"]
theorem m7(h:eJ K vs H Q E):eQ K (eD9 Q) (start ["floor","masks","cell","other","mark"] vs) H:=by
 obtain⟨f,A,h,w,g,z,o,m,MN,rfl,c,F,e,d,i,q⟩:=h;exists eQ;refine⟨f,h,w,g,o,rfl,c,F,?_⟩;unfold anoB at q
 cases b:(decide (0<=o)&&decide (o<h*w)) with
 | false=>
  rw[b,Nw]at q;exact⟨false,rfl,iteF q⟩
 | true=>
  rw[b,Nv]at q;rw[M9,M4,M4]at b;refine⟨true,rfl,iteT ?_⟩;symm
  cases a:decide (o=z) with
  | true=>
   rw[a,OV,Nw]at q;symm;exact q
  | false=>
   rw[a,OO,Nv]at q;exists ixI e b.1 #[4] ?_;exists⟨_,m,rfl,by lia,q⟩
def thrL(cs MN:∅)(m z:Int):∅:=(cs.filter λx=>!decide (x=z)).filter λx=>stB (MN.getD x.toNat 0) m
noncomputable def reaB (h w:Int) (cs:∅) (m:Int) (MN:∅) (z s:Int) (ms:∅):Bool:=
 (ms.all λo=>anoB h w MN z m o)&&(if s=m then decide (ms.length=1)&&!rcB h w (thrL cs MN m z++[z]) z (ms.getD 0 0)
  else decide (ms.length=2)&&(!decide (ms.getD 0 0=ms.getD 1 0)&&!rcB h w (thrL cs MN m z) (ms.getD 0 0) (ms.getD 1 0)))
def iZ(K:Frag)(c:QZ):Sp:=#[3,∃ k f r p A M b cs MN ms n m z s h w g,vs=[.ref f,.ref r,.ref A,.int z,.int s,.ref M]/\IsFl H f h w g/\FlOk h w g/\IsRule H c k r p b cs n m/\aL cs MN.length/\cs.length<=60/\MN.length=(h*w).toNat/\H A=↥(MN.map V.int)/\H M=↥(ms.map V.int)/\ms.length<=100/\m<=1000/\∀ a,Same H a->Q (.bl (reaB h w cs m MN z s ms)) a]
def gB(K:Frag)(c:QZ):TS:=#[":gnlcqb46jLcqbpza5def#1 cJbQck5ef#0 ,~zba0acy7sa3da3dognPlcFbpza5def#2 lcqbck5ef#0 ck5ef#1 jeIBojcJbQck5ef#1 ,~zba0a7ack5ef#0 d"]
def gC(K:Frag)(c:QZ):TS:=#[":g~v#7 &--62 tb,Zbia1a3dh#1 A,~yback31a2d1{xbi"]
def i6(K:Frag)(c:QZ):TS:=#[":gmxiC~p~qbi1dh#6 gnSAp+au&--3062 tb5h#1 G,{yba3a5a2a1a4ddjeIBo{zbi"]
variable{M:Addr}{v1:V}
theorem re {N:Addr} {T:∅} (v:IsFl H f h w g) (F:FlOk h w g) (b:H M=↥(ms.map V.int)) (u:H N=↥(T.map V.int)) (J:T.length<=60)
  (q:∀ t,Same H t->Q (.bl (if s=m then decide (ms.length=1)&&!rcB h w (T++[z]) z (ms.getD 0 0) else decide (ms.length=2)&&(!decide (ms.getD 0 0=ms.getD 1 0)&&!rcB h w T (ms.getD 0 0) (ms.getD 1 0)))) t):
  gB K c (eD9 Q) [↑f,some v1,↑A,⇑z,⇑s,↑M,⇑m,↑N] H:=by
 have L:=F.w0;have O:=F.w1;unfold gB;rw[aG,aD];symm;by_cases j:s=m
 . rw[NA j]at q;rw[M3 j];symm;rw[a8 b,MZ];symm
   have e1:decide ((ms.length:Int)=1)=decide (ms.length=1):=by
    rw[ND,M4,M4];lia
   rw[e1]
   cases a:decide (ms.length=1) with
   | false=>
    rw[a,Nw]at q;exists q _ (M5 _)
   | true=>
    rw[a,Nv]at q;have D:=Nb a;exists ixI b #[1] #[4] ?_;rw[show(0:Int).toNat=0 from rfl];exists⟨lnR rfl,λl r=>?_⟩;obtain⟨d,B,s1,C⟩:=aW (.lst [V.int z]) r;rw[B];refine rK (s1 _ _ u) C (by simp;lia) λY G=>?_;have y:Same d (upd d Y (.lst (T.map V.int++[V.int z]))):=(M5 d).laid G;have I:(upd d Y (.lst (T.map V.int++[V.int z]))) Y=↥((T++[z]).map V.int):=by rw[ah];simp
    generalize upd d Y (.lst (T.map V.int++[V.int z]))=H2 at*;have e:=s1.trans y;exists⟨f,Y,h,w,g,z,_,rfl,e _ _ v,by lia,by lia,I,by simp;lia,λp x rs o E k _ n=>?_⟩;dsimp only;rw[kT k,Au (n _)];exact q _ (e.trans o)
 . rw[Nt j]at q;rw[M2 j];symm;rw[aD];symm;rw[a8 b,MZ];symm
   have e1:decide ((ms.length:Int)=2)=decide (ms.length=2):=by
    rw[ND,M4,M4];lia
   rw[e1]
   cases a:decide (ms.length=2) with
   | false=>
    rw[a,Nw]at q;exists q _ (M5 _)
   | true=>
    rw[a,Nv]at q;have D:=Nb a;exists ixI b #[1] #[4] ?_;rw[show(0:Int).toNat=0 from rfl];exists ixI b #[1] #[4] ?_;rw[show(1:Int).toNat=1 from rfl];symm
    cases i:decide (ms.getD 0 0=ms.getD 1 0) with
    | true=>
     rw[i,OV,Nw]at q;exists q _ (M5 _)
    | false=>
     rw[i,OO,Nv]at q;exists ixI b #[1] #[4] ?_;rw[show(1:Int).toNat=1 from rfl];exists ixI b #[1] #[4] ?_;rw[show(0:Int).toNat=0 from rfl];exists⟨f,N,h,w,g,_,_,rfl,v,by lia,by lia,u,by lia,λp x rs o E k _ n=>?_⟩;dsimp only;rw[kT k,Au (n _)];exact q _ o
theorem rg {k:RK} {r:Addr} {u:List (List Nat)} {n:Int} (I:IsFl H f h w g) (F:FlOk h w g) (x:IsRule H c k r p u cs n m) (j:aL cs MN.length) (E:MN.length=(h*w).toNat) (D:H A=↥(MN.map V.int)) (G:H M=↥(ms.map V.int))
  (q:∀ e,Same H e->Q (.bl (if s=m then decide (ms.length=1)&&!rcB h w (thrL cs MN m z++[z]) z (ms.getD 0 0) else decide (ms.length=2)&&(!decide (ms.getD 0 0=ms.getD 1 0)&&!rcB h w (thrL cs MN m z) (ms.getD 0 0) (ms.getD 1 0)))) e) (J:cs.length<=60):
  gC K c (eD9 Q) [↑f,↑r,↑A,⇑z,⇑s,↑M,⇑m,none] H:=by
 unfold gC;exists⟨k,r,p,u,cs,n,m,z,rfl,x,j.1,λO L s1 U t=>?_⟩;have v:=Np (λx=>!decide (x=z)) cs;refine⟨O,rfl,⟨_,Nm t⟩,?_⟩;refine aS (xs:=cs.filter λx=>!decide (x=z)) (λx=>stB (MN.getD x.toNat 0) m) (λx=>x) #[4] (Nm t) ?_ ?_ ?_
 . intro y i R l d k2;have b:=j.2 y (Nf.mp l).1;show tB _ [none,⇑y,⇑m,↑A] i R;exists ixI ((s1.trans d) _ _ D) b.1 b.2 ?_;exists⟨_,m,rfl,_,rfl,k2 _ (M5 _)⟩
 . intro y i B l P d k2;show tVar 1 [none,⇑y,⇑m,↑A] i B;exists k2 _ (M5 _)
 . intro N i S d o;rw[Oi]at o;have a:=s1.trans d;exists re (a _ _ I) F (a _ _ G) (T:=thrL cs MN m z) o ?_ λe C=>q e (a.trans C);unfold thrL;have:=Np (λx=>stB (MN.getD x.toNat 0) m) (cs.filter λx=>!decide (x=z));lia
theorem uN(h:iZ K c vs H Q E):i6 K c (eD9 Q) (start ["floor","rule","masks","cell","sign","more","mark","through"] vs) H:=by
 obtain⟨k,f,r,p,A,M,T,cs,MN,ms,n,m,z,s,h,w,g,rfl,D,F,x,G,j,a,B,e,I,N,q⟩:=h;obtain⟨dx,W,C,h1,h2,h3⟩:=x.ex;ac_nf;unfold i6;rw[aG,bC];refine methE (k:=k) rfl x.ok h1 (by rfl) ?_;exists⟨r,p,T,cs,n,m,rfl,x,?_⟩;symm;rw[aD];exists⟨⟨_,Nm e⟩,?_⟩;refine cH (xs:=ms.map V.int) (λ_=>true) (λi=>.bl (anoB h w MN z m (ms.getD i 0))) (by rw[MZ];lia) (Nm e) ?_ ?_ ?_
 . intro i y b R t s1 k1;exact k1 _ (M5 _)
 . intro i y b Y t d s1 k1;obtain⟨v,X,rfl⟩:=aN t;have L:ms.getD i 0=v:=by rw[List.getD,X];rfl
   rw[L]at k1;show tCall _ _ _ _ [none,⇑v,⇑z,↑f,⇑m,↑A] b Y;exists⟨f,A,h,w,g,z,v,m,MN,rfl,s1 _ _ D,F,s1 _ _ B,a,N,k1 _ (M5 _)⟩
 . intro l b Z s1 u
   have P:((List.range (ms.map V.int).length).filter λ_=>true).map (λi=>V.bl (anoB h w MN z m (ms.getD i 0)))=(ms.map λo=>anoB h w MN z m o).map V.bl:=by
    rw[bg,MZ,NH];refine Qq (by simp) λi h1 h2=>?_;have S:i<ms.length:=by simpa using h2
    simp[List.getD,M0 S]
   rw[P]at u;refine kU u ?_;have U:(ms.map λo=>anoB h w MN z m o).all id=ms.all λo=>anoB h w MN z m o:=by rw[OL];rfl
   rw[U];unfold reaB at q
   cases d:(ms.all λo=>anoB h w MN z m o) with
   | false=>
    rw[d,Nw]at q;refine⟨false,rfl,?_⟩;exists q _ s1
   | true=>
    rw[d,Nv]at q;refine⟨true,rfl,?_⟩;exists rg (s1 _ _ D) F (x.same s1) G a (s1 _ _ B) (s1 _ _ e) (λO J=>q O (s1.trans J)) j
theorem yt{k:RK}(h:goesB .reach k=true):sgnK k=true:=by cases k <;> first | rfl | cases h
theorem RR.len26{r:RR}(O:r.Ok h w g)(F:FlOk h w g):r.cs.length<=60:=by
 have b:=F.m
 cases a:allK r.k with
 | false=>
  obtain⟨f,i,c,d,e⟩:=O.cl.told a;rw[e,MZ];lia
 | true=>
  obtain⟨_,e⟩:=O.cl.all a;rw[e,gL];lia
def ER(p:Int->Int->Bool):Bool:=(List.range 7).all λ(h:Nat)=>(List.range 7).all λ(w:Nat)=>!(decide (1<=h)&&decide (1<=w)&&decide (h*w<=16))||p h w
theorem ES{p:Int->Int->Bool}(a:ER p=true){h w g:Int}(F:FlOk h w g):p h w=true:=by
 obtain⟨h0,h1,w0,w1,m16,g0,g1⟩:=F;obtain⟨n,rfl⟩:=Po (show 0<=h by lia);obtain⟨m,rfl⟩:=Po (show 0<=w by lia);have a1:=Na.mp a n (Nj.mpr #[4]);have a2:=Na.mp a1 m (Nj.mpr #[4]);have e1:1<=n:=by lia
 have e2:1<=m:=by lia
 have e3:n*m<=16:=by have:((n*m:Nat):Int)<=16:=by rw[Int.natCast_mul];exact m16
                     lia
 simpa [e1,e2,e3] using a2
def nearS(h w d r:Int):∅:=if (decide (0<=d)&&decide (d<h))&&(decide (0<=r)&&decide (r<w)) then [d*w+r] else []
def nearP(w c:Int):List (Int × Int):=[(c/w-1,c%w),(c/w,c%w-1),(c/w,c%w+1),(c/w+1,c%w)]
def nearL(h w c:Int):∅:=(nearP w c).flatMap λp=>nearS h w p.1 p.2
theorem Dd:ER (λh w=>(List.range (h*w).toNat).all λ(c:Nat)=>decide (nearL h w c=besL h w c)&&(besL h w c).all λx=>decide (0<=x)&&decide (x<h*w))=true:=by decide+kernel
theorem se{c:Int}(F:FlOk h w g)(c0:0<=c)(b:c<h*w):nearL h w c=besL h w c/\∀ x∈besL h w c,0<=x/\x<h*w:=by
 have t:=Na.mp (ES Dd F) c.toNat (Nj.mpr #[4]);have e1:((c.toNat:Nat):Int)=c:=by lia
 rw[e1,M9,M4,Na]at t;refine⟨t.1,λx a=>?_⟩;have:=t.2 x a
 simpa using this
theorem Av{c:Int}(F:FlOk h w g)(c0:0<=c)(a:c<h*w)(d:n=(h*w).toNat):aL (besL h w c) n:=by
 refine⟨Nk (uz ..) #[1],λx b=>?_⟩;have:=(se F c0 a).2 x b;lia
def arL(h w o z:Int):∅:=(besL h w o).filter λx=>!decide (x=z)
def sf(K:Frag):Sp:=#[3,∃ a h w g o z,vs=[.ref a,.int o,.int z]/\IsFl H a h w g/\FlOk h w g/\∀ l b,Same H b->H l=none->b l=↥((arL h w o z).map V.int)->Q (.ref l) b]
def sh(K:Frag):TS:=#[":ju&--2 tb,~sba0a1dh#1 lcFb121"]
theorem ET(h:sf K vs H Q E):sh K (eD9 Q) (start ["floor","middle","cell"] vs) H:=by
 obtain⟨a,h,w,g,o,z,rfl,m,F,q⟩:=h;have n:=F.w0;have s:=F.w1;ac_nf;unfold sh;rw[b9,bq];exists⟨a,h,w,g,o,rfl,m,by lia,by lia,λl p s1 r e=>?_⟩;have f:=uz h w o;refine⟨l,rfl,⟨_,Nm e⟩,?_⟩;refine aS (xs:=besL h w o) (λx=>!decide (x=z)) (λx=>x) #[4] (Nm e) ?_ ?_ ?_
 . intro y b R i c k2;show tTest _ [none,⇑y,⇑z] b R;exists k2 _ (M5 _)
 . intro y b k i f c k2;show tVar 1 [none,⇑y,⇑z] b k;exists k2 _ (M5 _)
 . intro T b j c d;rw[Oi]at d;exact q T b (s1.trans c) (s1.free j) d
def mayN(MN:∅)(m:Int)(cs:∅):Nat:=((sgAt MN cs).filter λk=>stB k m).length
def onlN(MN:∅)(m:Int)(cs:∅):Nat:=((sgAt MN cs).filter λk=>decide (woI k m=0)).length
def turnB(h w m:Int)(MN:∅)(z s:Int)(ms:∅):Bool:=
 if ms=[] then decide (s=m)&&(decide ((mayN MN m (besL h w z):Int)<2)||decide ((2:Int) < (onlN MN m (besL h w z):Int)))
 else decide (ms.length=1)&&(decide (ms.getD 0 0∈besL h w z)&&(decide (woI (MN.getD (ms.getD 0 0).toNat 0) m=0)&&
  (if s=m then decide ((2:Int)<=(onlN MN m (arL h w (ms.getD 0 0) z):Int)) else decide ((mayN MN m (arL h w (ms.getD 0 0) z):Int)<2))))
def jS(K:Frag)(c:QZ):Sp:=#[3,∃ k f r p A M b cs MN ms n m z s h w g,vs=[.ref f,.ref r,.ref A,.int z,.int s,.ref M]/\IsFl H f h w g/\FlOk h w g/\IsRule H c k r p b cs n m/\MN.length=(h*w).toNat/\H A=↥(MN.map V.int)/\H M=↥(ms.map V.int)/\m<=1000/\0<=z/\z<h*w/\∀ a,Same H a->Q (.bl (turnB h w m MN z s ms)) a]
def gX(K:Frag)(c:QZ):TS:=#[":gm,~iba2a,{Aba0ack5ef#0 a3ddh#7 gnlcqb46jc),~Hba7a6def#2 ojc<,~Gba7a6def#2 "]
def gY(K:Frag)(c:QZ):TS:=#[":gnPlcFbpza5def#1 PlcJbQck5ef#0 ,~sba0a3dSA,~oback2ck5ef#0 a6djeIBo{Bbi"]
def jT(K:Frag)(c:QZ):TS:=#[":gmxiC~p~qbi1dh#6 gnlcqb5sdgm,~iba2a,~sba0a3ddh#7 jLcqb46~hc<,~Gba7a6def#2 c>,~Hba7a6def#2 o{Cbi"]
theorem si (D:IsFl H f h w g) (F:FlOk h w g) (j:MN.length=(h*w).toNat) (u:H A=↥(MN.map V.int)) (C:H M=↥(ms.map V.int)) (O:ms.length=1) (P:m<=1000) (y:0<=z) (G:z<h*w) (r:ms.getD 0 0∈besL h w z)
  (q:∀ l,Same H l->Q (.bl (if s=m then decide ((2:Int)<=(onlN MN m (arL h w (ms.getD 0 0) z):Int)) else decide ((mayN MN m (arL h w (ms.getD 0 0) z):Int)<2))) l):
  gX K c (eD9 Q) [↑f,some v1,↑A,⇑z,⇑s,↑M,⇑m,none] H:=by
 have d:=(se F y G).2 _ r;have a:=Av (n:=MN.length) F d.1 d.2 j;have b:aL (arL h w (ms.getD 0 0) z) MN.length:=⟨Nk (Np _ _) a.1,λx t=>a.2 x (Nf.mp t).1⟩;unfold gX;exists ixI C #[1] #[4] ?_;rw[show(0:Int).toNat=0 from rfl];exists⟨f,h,w,g,_,z,rfl,D,F,λR I s1 J v=>?_⟩;exists⟨A,R,MN,_,rfl,s1 _ _ u,v,b,λB L k N o=>?_⟩;have p:(sgAt MN (arL h w (ms.getD 0 0) z)).length<=63:=by unfold sgAt;rw[MZ];exact b.1
 symm;rw[aD];symm;by_cases e:s=m
 . rw[M3 e];rw[NA e]at q;exists⟨B,_,_,rfl,o,p,by lia,λE i=>?_⟩;exists q _ ((s1.trans k).trans i)
 . rw[M2 e];rw[Nt e]at q;exists⟨B,_,_,rfl,o,p,λE i=>?_⟩;exists q _ ((s1.trans k).trans i)
theorem sj (o:IsFl H f h w g) (F:FlOk h w g) (j:MN.length=(h*w).toNat) (l:H A=↥(MN.map V.int)) (e:H M=↥(ms.map V.int)) (u:m<=1000) (n:0<=z) (p:z<h*w)
  (q:∀ d,Same H d->Q (.bl (decide (ms.length=1)&&(decide (ms.getD 0 0∈besL h w z)&&(decide (woI (MN.getD (ms.getD 0 0).toNat 0) m=0)&&(if s=m then decide ((2:Int)<=(onlN MN m (arL h w (ms.getD 0 0) z):Int)) else decide ((mayN MN m (arL h w (ms.getD 0 0) z):Int)<2)))))) d):
  gY K c (eD9 Q) [↑f,some v1,↑A,⇑z,⇑s,↑M,⇑m,none] H:=by
 have C:=F.w0;have D:=F.w1;unfold gY;rw[aG,aD];symm;rw[a8 e,MZ];symm
 have e1:decide ((ms.length:Int)=1)=decide (ms.length=1):=by
  rw[ND,M4,M4];lia
 rw[e1]
 cases i:decide (ms.length=1) with
 | false=>
  rw[i,Nw]at q;exists q _ (M5 _)
 | true=>
  rw[i,Nv]at q;have t:=Nb i;exists ixI e #[1] #[4] ?_;rw[show(0:Int).toNat=0 from rfl];exists⟨f,h,w,g,z,rfl,o,by lia,by lia,λR y s1 B v=>?_⟩;dsimp only;rw[kT v]
  cases a:decide (ms.getD 0 0∈besL h w z) with
  | false=>
   rw[a,Nw]at q;refine⟨true,rfl,iteT ?_⟩;exists q _ s1
  | true=>
   rw[a,Nv]at q;have k:=Nb a;have x:=(se F n p).2 _ k;refine⟨false,rfl,iteF ?_⟩;exists ixI (s1 _ _ e) #[1] #[4] ?_;rw[show(0:Int).toNat=0 from rfl];exists ixI (s1 _ _ l) #[4] #[4] ?_;exists⟨_,m,rfl,by lia,?_⟩
   cases b:decide (woI (MN.getD (ms.getD 0 0).toNat 0) m=0) with
   | false=>
    rw[b,Nw]at q;refine⟨false,rfl,iteT ?_⟩;exists q _ s1
   | true=>
    rw[b,Nv]at q;refine⟨true,rfl,iteF ?_⟩;exact si (s1 _ _ o) F j (s1 _ _ l) (s1 _ _ e) t u n p k λd r=>q d (s1.trans r)
theorem vZ(h:jS K c vs H Q E):jT K c (eD9 Q) (start ["floor","rule","masks","cell","sign","more","mark","some"] vs) H:=by
 obtain⟨k,f,r,p,A,M,T,cs,MN,ms,n,m,z,s,h,w,g,rfl,G,F,x,e,t,D,N,v,I,q⟩:=h;obtain⟨dx,W,C,h1,h2,h3⟩:=x.ex;have w0:=F.w0;have w1:=F.w1;ac_nf;unfold jT;rw[aG,bC];refine methE (k:=k) rfl x.ok h1 (by rfl) ?_;exists⟨r,p,T,cs,n,m,rfl,x,?_⟩;symm;rw[aD];exists⟨aP #[1],λZ J=>?_⟩;obtain⟨H1,z9,s1,eZ⟩:∃ z,upd H Z (.lst [])=z/\Same H z/\z Z=↥(([]:∅).map V.int):=aW _ J;rw[z9];refine vq (s1 _ _ D) eZ ?_;unfold turnB at q;by_cases a:ms=[]
 . rw[NA a]at q;rw[M3 a];refine⟨true,rfl,?_⟩;exists⟨f,h,w,g,z,rfl,s1 _ _ G,by lia,by lia,λR H2 j U S=>?_⟩;have d:=Av (n:=MN.length) F v I e;exists⟨A,R,MN,_,rfl,(s1.trans j) _ _ t,S,d,λB X L hB u=>?_⟩;have y:(sgAt MN (besL h w z)).length<=63:=by unfold sgAt;rw[MZ];exact d.1
   have b:=(s1.trans j).trans L;symm
   cases o:decide (s=m) with
   | false=>
    rw[o,Nw]at q;exists q _ b
   | true=>
    rw[o,Nv]at q;exists⟨B,_,_,rfl,u,y,λH4 l=>?_⟩;symm;have e1:decide ((((sgAt MN (besL h w z)).filter λk=>stB k m).length:Int)<2)=decide ((mayN MN m (besL h w z):Int)<2):=rfl;rw[e1]
    cases i:decide ((mayN MN m (besL h w z):Int)<2) with
    | true=>
     rw[i,Pg]at q;exists q _ (b.trans l)
    | false=>
     rw[i,Of]at q;exists⟨B,_,_,rfl,l _ _ u,y,by lia,λY P=>?_⟩;exists q _ ((b.trans l).trans P)
 . rw[Nt a]at q;rw[M2 a];refine⟨false,rfl,?_⟩;exists sj (s1 _ _ G) F e (s1 _ _ t) (s1 _ _ D) N v I λO j=>q O (s1.trans j)
theorem uO(t:TK):decide (tkC t=s!"reach")=decide (t=.reach):=by cases t <;> decide
theorem EU{k:RK}(h:goesB .turn k=true):sgnK k=true:=by cases k <;> first | rfl | cases h
noncomputable def Aw (h w:Int) (t:TK) (x:RR) (MN:∅) (z s:Int) (ms:∅):Bool:=match t with
 | .square=>squB h w x.m MN z s ms
 | .reach=>reaB h w x.cs x.m MN z s ms
 | _=>turnB h w x.m MN z s ms
noncomputable def lj (h w:Int) (MP:List RR) (MN:∅) (t:TK) (r z s:Int) (ms:∅):Bool:=match MP[r.toNat]? with
 | none=>false
 | some x=>Aw h w t x MN z s ms
abbrev IJ(t:TK):Prop:=t=.square\/t=.reach\/t=.turn
def fj(K:Frag)(c:QZ)(d:Q0):Sp:=#[3,∃ P L G A T M h w g MP cl MN t r z s ms,vs=[.ref P,.ref A,.ref T]/\Asks H c d P L G A T M h w g MP cl MN t r z s ms/\IJ t/\formB h w g MP t r z s=true/\∀ a,Same H a->Q (.bl (lj h w MP MN t r z s ms)) a]
def fk(K:Frag)(c:QZ)(d:Q0):TS:=#[":gmxrU~P~Qbir0dh#3 gmckxrU~e~fbir0dck2ef#1 h#4 gnlcqbck2ef#0 evw`0j,{Dbia3a4a1ack2ef#2 ack2ef#3 ack2ef#4 dognlcqbck2ef#0 evw`1j,{Ebia3a4a1ack2ef#2 ack2ef#3 ack2ef#4 doj,{Fbia3a4a1ack2ef#2 ack2ef#3 ack2ef#4 d",s!"square",s!"reach"]
theorem oH(h:fj K c d vs H Q E):fk K c d (eD9 Q) (start ["puzzle","masks","thought","floor","rule"] vs) H:=by
 obtain⟨P,L,G,A,T,M,h,w,g,MP,cl,MN,t,r,z,s,ms,rfl,X,N,f,q⟩:=h;obtain⟨dx,p,rs,h1,h2,h3⟩:=X.P.ex;obtain⟨z0,z1,s0,S,MY⟩:=fK f;have hg:=X.P.R.F.g1;have x:t≠.clue:=by rcases N with rfl | rfl | rfl <;> decide
 obtain⟨r0,y,j,m,hz⟩:=o4 x MY;have O:=X.P.R.ok y (M8 j)
 have B:∀ b,Same H b->Q (.bl (Aw h w t y MN z s ms)) b:=λb s'=>by
  have J:=q b s';unfold lj at J;rw[j]at J;exact J
 ac_nf;unfold fk;rw[aG,bC];refine methE (k:=.Puzzle) rfl X.P.ok h1 (by rfl) ?_;exists⟨P,L,G,h,w,g,MP,cl,rfl,X.P,λI i=>?_⟩;exists methE (k:=.Puzzle) rfl X.P.ok h1 (by rfl) ?_;exists⟨P,L,G,h,w,g,MP,cl,rfl,X.P,λl C e Z U Y=>?_⟩;have a:Same H (upd H l (.lst (e.map V.ref))):=(M5 H).laid Z;generalize upd H l (.lst (e.map V.ref))=H1 at*;have W:=(M6.mp j).1;have MW:=Y.len;have u:e[r.toNat]? =some e[r.toNat]:=M0 #[4];dsimp only;refine ixT (a _ _ X.T.T) (v:=V.int r) rfl ?_;refine ixL Y.top (iK r0 u) ?_;symm;rw[aD];exists ixT (a _ _ X.T.T) (v:=V.str (tx (tkC t))) rfl ?_;symm;rw[bA,yq];rcases N with rfl | rfl | rfl
 . rw[M3 rfl];refine iteT ?_;exists ixT (a _ _ X.T.T) (v:=V.int z) rfl ?_;exists ixT (a _ _ X.T.T) (v:=V.int s) rfl ?_;exists ixT (a _ _ X.T.T) (v:=V.ref M) rfl ?_;exists⟨_,I,_,C,A,M,_,y.cs,MN,ms,_,_,z,s,h,w,g,rfl,a _ _ i,X.P.R.F,Y.at_ _ _ _ u j,X.n,a _ _ X.A,a _ _ X.T.M,by lia,λb o=>B b (a.trans o)⟩
 . have ym:=(O.m0 (yt m)).2;rw[M2 (show ¬ TK.reach=TK.square by decide)];refine iteF ?_;rw[aD];exists ixT (a _ _ X.T.T) (v:=V.str (tx (tkC .reach))) rfl ?_;symm;rw[bA,uO,M3 rfl];refine iteT ?_;exists ixT (a _ _ X.T.T) (v:=V.int z) rfl ?_;exists ixT (a _ _ X.T.T) (v:=V.int s) rfl ?_;exists ixT (a _ _ X.T.T) (v:=V.ref M) rfl ?_;symm;have D:aL y.cs MN.length:=by rw[X.n];exact Qa O X.P.R.F
   exact⟨_,I,_,C,A,M,_,y.cs,MN,ms,_,_,z,s,h,w,g,rfl,a _ _ i,X.P.R.F,Y.at_ _ _ _ u j,D,RR.len26 O X.P.R.F,X.n,a _ _ X.A,a _ _ X.T.M,X.T.n,by lia,λb o=>B b (a.trans o)⟩
 . have ym:=(O.m0 (EU m)).2;rw[M2 (show ¬ TK.turn=TK.square by decide)];refine iteF ?_;rw[aD];exists ixT (a _ _ X.T.T) (v:=V.str (tx (tkC .turn))) rfl ?_;symm;rw[bA,uO,M2 (show ¬ TK.turn=TK.reach by decide)];refine iteF ?_;exists ixT (a _ _ X.T.T) (v:=V.int z) rfl ?_;exists ixT (a _ _ X.T.T) (v:=V.int s) rfl ?_;exists ixT (a _ _ X.T.T) (v:=V.ref M) rfl ?_;exists⟨_,I,_,C,A,M,_,y.cs,MN,ms,_,_,z,s,h,w,g,rfl,a _ _ i,X.P.R.F,Y.at_ _ _ _ u j,X.n,a _ _ X.A,a _ _ X.T.M,by lia,z0,z1,λb o=>B b (a.trans o)⟩
theorem RC.less{b:∅}{st:Int}(a:∀ c∈cs,c∈b)(r:RC h w cs st x):RC h w b st x:=by
 induction r with
 | start h=>exact .start (a _ h)
 | step _ f e d=>exact .step d f (a _ e)
theorem tz(e:0<=m)(x:Int):x∈sgL m↔stB m x=true:=by
 unfold sgL;rw[Nl];constructor
 . rintro⟨i,d,rfl⟩;exact(Nf.mp d).2
 . intro h;have c:=h;unfold stB at c;rw[M9,M9]at c;have a:=Nb c.1;have b:=Nb c.2.1;refine⟨(x-1).toNat,Nf.mpr ⟨Nj.mpr #[4],?_⟩,by lia⟩;rw[show 1+(((x-1).toNat:Nat):Int)=x by lia];exact h
theorem Ax{f:Nat->Int}(c:∀ a b,f a=f b->a=b):∀{xs:List Nat},xs.Nodup->(xs.map f).Nodup
 | [],_=>Pa
 | x::r,h=>by
  rw[NY]at h;rw[NK,NY];refine⟨λg=>?_,Ax c h.2⟩;obtain⟨y,d,e⟩:=Nl.mp g;exact h.1 (c _ _ e ▸ d)
theorem IK(m:Int):(sgL m).Nodup:=by
 unfold sgL;exact Ax (f:=λ(i:Nat)=>1+(i:Int)) (λa b e=>by have c:(1:Int)+(a:Int)=1+(b:Int):=e;lia) (List.Nodup.sublist List.filter_sublist Qp)
theorem Ay:((List.range 64).all λm=>decide (Builtin.Int.intBits (m:Int)<=6))=true:=by decide+kernel
theorem Jx{a b:Int}(e:0<=a)(g:a<64)(d:0<=b)(h:b<64)(f:1<=x)(c:x<=6):stB (Builtin.bitOr a b) x=(stB a x||stB b x):=by
 have o:=Gq e g d h;rw[(kE o.1 o.2 f c).1,(kE e g f c).1,(kE d h f c).1,At e d,N1,Nat.testBit_or]
theorem Df{k:RK}{m:Nat}{ns:List Nat}(F:FlOk h w g)(o:ns≠[])(b:∀ c∈ns,(c:Int)<h*w)(i:ns.Nodup)(a:ns.length<=16)(j:allK k=false)(k0:k≠.Rule)(l:n<=99)(f:numK k=false->n=0)(q:sgnK k=true->1<=(m:Int)/\(m:Int)<=g)(r:sgnK k=false->m=0):
  RR.Ok ⟨k,n,m,ns,ns.map λ(n:Nat)=>(n:Int)⟩ h w g:=by
 have d:=F.m;refine⟨k0,l,f,q,r,⟨λ_=>⟨o,a,b,i,rfl⟩,λe=>?_⟩,λx p=>?_,a⟩
 . rw[show allK k=false from j]at e;cases e
 . have:=b x p;lia
def dTh(t:TK)(r z s:Int)(ms:∅):PyData:=.tuple [.str (tx (tkC t)),.int r,.int z,.int s,.list (ms.map PyData.int)]
variable{t:TK}
def Jy{T:Addr}{r:Int}(x:IsTh H T M t r z s ms):DV K H (.ref T) (dTh t r z s ms):=
 .tup (QY x.T) (.cons (.str _) (.cons (.int _) (.cons (.int _) (.cons (.int _) (.cons (.lst (Nm x.M) (.ints ms)) .nil)))))
theorem Hg(t:TK):decide (tkC t=s!"pair")=decide (t=.pair):=by cases t <;> decide
theorem Hh(t:TK):decide (tkC t=s!"turn")=decide (t=.turn):=by cases t <;> decide
noncomputable def Az (h w:Int) (x:RR) (MN:∅) (t:TK) (z s:Int) (ms:∅):Bool:=match t with
 | .count=>cntB x.cs x.n x.m MN z s ms
 | .sum=>sumB x.cs x.n MN z s ms
 | .step=>stepB x.cs MN z s ms
 | _=>waysB x.k h w x.cs x.n x.m MN z s ms
noncomputable def gZ (h w:Int) (MP:List RR) (MN:∅) (t:TK) (r z s:Int) (ms:∅):Bool:=match MP[r.toNat]? with
  | none=>false
  | some x=>Az h w x MN t z s ms
def fm(K:Frag)(c:QZ)(d:Q0):Sp:=#[3,∃ P L G A T M h w g MP cl MN t r z s ms,vs=[.ref P,.ref A,.ref T]/\Asks H c d P L G A T M h w g MP cl MN t r z s ms/\(t=.count\/t=.sum\/t=.ways)/\(∀ m∈MN,0<=m/\m<64)/\formB h w g MP t r z s=true/\∀ a,Same H a->Q (.bl (gZ h w MP MN t r z s ms)) a]
def fq(K:Frag)(c:QZ)(d:Q0):TS:=#[":gmckxrU~e~fbir0dck2ef#1 h#3 gnlcqbck2ef#0 evw`0j,{Gbia3a1ack2ef#2 ack2ef#3 ack2ef#4 dognlcqbck2ef#0 evw`1j,{Hbia3a1ack2ef#2 ack2ef#3 ack2ef#4 doj,{Ibia3a1ack2ef#2 ack2ef#3 ack2ef#4 d",s!"count",s!"sum"]
theorem oI(h:fm K c d vs H Q E):fq K c d (eD9 Q) (start ["puzzle","masks","thought","rule"] vs) H:=by
 obtain⟨P,L,G,A,T,M,h,w,g,MP,cl,MN,t,r,z,s,ms,rfl,X,D,I,f,q⟩:=h;obtain⟨dx,p,rs,h1,h2,h3⟩:=X.P.ex;obtain⟨z0,z1,s0,J,MY⟩:=fK f;have hg:=X.P.R.F.g1;have S:=X.P.R.F.m;obtain⟨r0,y,j,W,hz⟩:=o4 (by rcases D with rfl | rfl | rfl <;> decide) MY;have O:=X.P.R.ok y (M8 j);have i:aL y.cs MN.length:=by rw[X.n];exact Qa O X.P.R.F
 ac_nf;unfold fq;rw[aG,bC,eI];refine methE (k:=.Puzzle) rfl X.P.ok h1 (by rfl) ?_;exists⟨P,L,G,h,w,g,MP,cl,rfl,X.P,λl B b U x Y=>?_⟩;have a:Same H (upd H l (.lst (b.map V.ref))):=(M5 H).laid U;generalize upd H l (.lst (b.map V.ref))=H1 at*;have N:=(M6.mp j).1;have MW:=Y.len;have u:b[r.toNat]? =some b[r.toNat]:=M0 #[4]
 have e:∀ o,Same H1 o->Q (.bl (Az h w y MN t z s ms)) o:=λo Z=>by
  have C:=q o (a.trans Z);unfold gZ at C;rw[j]at C;exact C
 dsimp only;refine ixT (a _ _ X.T.T) (v:=V.int r) rfl ?_;refine ixL Y.top (iK r0 u) ?_;symm;rw[aD];exists ixT (a _ _ X.T.T) (v:=V.str (tx (tkC t))) rfl ?_;symm;rw[bA,FQ];rcases D with rfl | rfl | rfl
 . rw[M3 rfl];refine iteT ?_;exists ixT (a _ _ X.T.T) (v:=V.int z) rfl ?_;exists ixT (a _ _ X.T.T) (v:=V.int s) rfl ?_;exists ixT (a _ _ X.T.T) (v:=V.ref M) rfl ?_;exists⟨_,_,B,A,M,_,y.cs,MN,ms,_,_,z,s,rfl,Y.at_ _ _ _ u j,i,a _ _ X.A,a _ _ X.T.M,by lia,e⟩
 . rw[M2 #[1]];refine iteF ?_;rw[aD];exists ixT (a _ _ X.T.T) (v:=V.str (tx (tkC .sum))) rfl ?_;symm;rw[bA,EH,M3 rfl];refine iteT ?_;exists ixT (a _ _ X.T.T) (v:=V.int z) rfl ?_;exists ixT (a _ _ X.T.T) (v:=V.int s) rfl ?_;exists ixT (a _ _ X.T.T) (v:=V.ref M) rfl ?_;exists⟨_,_,B,A,M,_,y.cs,MN,ms,_,_,z,s,rfl,Y.at_ _ _ _ u j,i,I,a _ _ X.A,a _ _ X.T.M,e⟩
 . rw[M2 #[1]];refine iteF ?_;rw[aD];exists ixT (a _ _ X.T.T) (v:=V.str (tx (tkC .ways))) rfl ?_;symm;rw[bA,EH,M2 #[1]];refine iteF ?_;exists ixT (a _ _ X.T.T) (v:=V.int z) rfl ?_;exists ixT (a _ _ X.T.T) (v:=V.int s) rfl ?_;exists ixT (a _ _ X.T.T) (v:=V.ref M) rfl ?_;exists⟨_,_,B,A,M,_,y.cs,MN,ms,_,_,z,s,h,w,g,rfl,Y.at_ _ _ _ u j,x,X.P.R.F,i,by rw[X.n];lia,I,by lia,by lia,a _ _ X.A,a _ _ X.T.M,e⟩
noncomputable def strA (h w g:Int) (MP:List RR) (cl MN:∅) (t:TK) (r z s:Int) (ms:∅):Bool:=
 if lineK t then(if t=.step then gZ h w MP MN t r z s ms else iC g MP cl MN t r z s ms) else if nbrK t then gZ h w MP MN t r z s ms else lj h w MP MN t r z s ms
def gD(K:Frag)(c:QZ)(d:Q0):Sp:=#[3,∃ P L G A T M h w g MP cl MN t r z s ms,vs=[.ref P,.ref A,.ref T]/\Asks H c d P L G A T M h w g MP cl MN t r z s ms/\lineK t=true/\(∀ m∈MN,0<=m/\m<64)/\formB h w g MP t r z s=true/\∀ a,Same H a->Q (.bl (strA h w g MP cl MN t r z s ms)) a]
def gE(K:Frag)(c:QZ)(d:Q0):TS:=#[":gmck2ef#0 h#3 gmck2ef#2 h#4 gmck2ef#3 h#5 gmck2ef#4 h#6 gnlcqb3evw`0j,{JbaxrU{K{Lbir0da4a5a6dogmckxrU~e~fbir0dck2ef#1 h#7 gnlcqb3evw`1j,{Mbia7a1a4a5a6dognlcqb3evw`2j,{NbiaxrU~P~Qbir0da7a1a4a5a6dognlcqb3evw`3j,{Obia7a1a4a5a6doj,{Pbia7a1a4a5a6d",s!"clue",s!"only",s!"place",s!"step"]
theorem rh(h:gD K c d vs H Q E):gE K c d (eD9 Q) (start ["puzzle","masks","thought","kind","cell","sign","more","rule"] vs) H:=by
 obtain⟨P,L,G,A,T,M,h,w,g,MP,cl,MN,t,r,z,s,ms,rfl,X,N,mm,f,q⟩:=h;obtain⟨dx,p,rs,h1,h2,h3⟩:=X.P.ex;obtain⟨z0,z1,s0,ab,MY⟩:=fK f;have ae:=X.P.C.len;have hg:=X.P.R.F.g1;unfold strA at q;rw[N,NA rfl]at q;exists gE;refine ixT X.T.T (v:=V.str (tx (tkC t))) rfl ?_;exists ixT X.T.T (v:=V.int z) rfl ?_;exists ixT X.T.T (v:=V.int s) rfl ?_;exists ixT X.T.T (v:=V.ref M) rfl ?_;symm;rw[aD];symm;rw[bA,xv];by_cases x:t=.clue
 . subst x;rw[Nt #[1]]at q;rw[M3 rfl];refine iteT ?_;refine methE (k:=.Puzzle) rfl X.P.ok h1 (by rfl) ?_;exists⟨P,L,G,h,w,g,MP,cl,rfl,X.P,λl W=>?_⟩;have a:Same H (upd H l (.lst (cl.map V.int))):=(M5 H).laid W;exact⟨l,M,z,s,cl,ms,rfl,ah,z0,by lia,a _ _ X.T.M,λb i=>q b (a.trans i)⟩
 . rw[M2 x];obtain⟨r0,y,o,_,hz⟩:=o4 x MY
   have Z:t≠.step->∀ b,Same H b->Q (.bl (li g t y MN z s ms)) b:=λhn b s'=>by
    have u:=q b s';rw[Nt hn]at u
    have e:iC g MP cl MN t r z s ms=li g t y MN z s ms:=by
     unfold iC;cases t <;> first | exact absurd rfl x | (dsimp only;rw[o])
    rw[e]at u;exact u
   refine iteF ?_;refine methE (k:=.Puzzle) rfl X.P.ok h1 (by rfl) ?_;exists⟨P,L,G,h,w,g,MP,cl,rfl,X.P,λl S m W ac Y=>?_⟩;have a:Same H (upd H l (.lst (m.map V.ref))):=(M5 H).laid W;generalize upd H l (.lst (m.map V.ref))=H1 at*;have ad:=(M6.mp o).1;have MW:=Y.len;have I:m[r.toNat]? =some m[r.toNat]:=M0 #[4];have O:=X.P.R.ok y (M8 o);have j:aL y.cs MN.length:=by rw[X.n];exact Qa O X.P.R.F
   dsimp only;refine ixT (a _ _ X.T.T) (v:=V.int r) rfl ?_;refine ixL Y.top (iK r0 I) ?_;symm;rw[aD];symm;rw[bA,Cb];by_cases B:t=.only
   . subst B;rw[M3 rfl];refine iteT ?_;exists⟨_,_,S,A,M,_,y.cs,MN,ms,_,_,z,s,rfl,Y.at_ _ _ _ I o,j,a _ _ X.A,a _ _ X.T.M,by lia,λb i=>Z #[1] b (a.trans i)⟩
   . rw[M2 B];refine iteF ?_;rw[aD];symm;rw[bA,Ak];by_cases D:t=.place
     . subst D;rw[M3 rfl];refine iteT ?_;refine methE (k:=.Puzzle) rfl X.P.ok (a _ _ h1) (by rfl) ?_;exists⟨P,L,G,h,w,g,MP,cl,rfl,X.P.same a,λp3 aa=>?_⟩;exists⟨_,p3,_,S,A,M,_,y.cs,MN,ms,_,_,z,s,h,w,g,rfl,aa,Y.at_ _ _ _ I o,j,a _ _ X.A,a _ _ X.T.M,λb i=>Z #[1] b (a.trans i)⟩
     . rw[M2 D];refine iteF ?_;rw[aD];symm;rw[bA,G8];by_cases J:t=.step
       . subst J;rw[M3 rfl];refine iteT ?_;exists⟨_,_,S,A,M,_,y.cs,MN,ms,_,_,z,s,rfl,Y.at_ _ _ _ I o,j,hz,mm,a _ _ X.A,a _ _ X.T.M,λb i=>?_⟩;have u:=q b (a.trans i);rw[NA rfl]at u;unfold gZ at u;rw[o]at u;exact u
       . rw[M2 J]
         have U:t=.pair:=by
          revert N x B D J
          cases t <;> intro N x B D J <;> first | rfl | exact absurd rfl x | exact absurd rfl B | exact absurd rfl D | exact absurd rfl J | cases N
         subst U;refine iteF ?_;exists⟨_,_,S,A,M,_,y.cs,MN,ms,_,_,z,s,rfl,Y.at_ _ _ _ I o,j,mm,a _ _ X.A,a _ _ X.T.M,λb i=>Z #[1] b (a.trans i)⟩
def oJ(K:Frag)(c:QZ)(d:Q0):Sp:=#[3,∃ P L G A T M h w g MP cl MN t r z s ms,vs=[.ref P,.ref A,.ref T]/\Asks H c d P L G A T M h w g MP cl MN t r z s ms/\(∀ m∈MN,0<=m/\m<64)/\formB h w g MP t r z s=true/\∀ a,Same H a->Q (.bl (strA h w g MP cl MN t r z s ms)) a]
def oK(K:Frag)(c:QZ)(d:Q0):TS:=#[":gnA~w{QBck2ef#0 j,{Rbira0a1a2dognA~w{SBck2ef#0 j,{Tbira0a1a2doj,{Ubira0a1a2d"]
theorem nbrA(h:nbrK t=true):t=.count\/t=.sum\/t=.ways:=by cases t <;> first | exact .inl rfl | exact .inr (.inl rfl) | exact .inr (.inr rfl) | cases h
theorem regA(h1:lineK t=false)(h2:nbrK t=false):IJ t:=by cases t <;> first | exact .inl rfl | exact .inr (.inl rfl) | exact .inr (.inr rfl) | (cases h1;done) | (cases h2;done)
theorem BE(h:oJ K c d vs H Q E):oK K c d (eD9 Q) (start ["puzzle","masks","thought"] vs) H:=by
 obtain⟨P,L,G,A,T,M,h,w,g,MP,cl,MN,t,r,z,s,ms,rfl,X,a,f,q⟩:=h;ac_nf;unfold oK;rw[aG,aD];exists ixT X.T.T (v:=V.str (tx (tkC t))) rfl ?_;symm;rw[G5]
 cases e1:lineK t with
 | true=>
  refine iteT ?_;exact⟨P,L,G,A,T,M,h,w,g,MP,cl,MN,t,r,z,s,ms,rfl,X,e1,a,f,q⟩
 | false=>
  unfold strA at q;rw[e1,Nt Nc]at q;refine iteF ?_;rw[aD];exists ixT X.T.T (v:=V.str (tx (tkC t))) rfl ?_;symm;rw[IC]
  cases e2:nbrK t with
  | true=>
   rw[e2,NA rfl]at q;refine iteT ?_;exact⟨P,L,G,A,T,M,h,w,g,MP,cl,MN,t,r,z,s,ms,rfl,X,nbrA e2,a,f,q⟩
  | false=>
   rw[e2,Nt Nc]at q;refine iteF ?_;exists⟨P,L,G,A,T,M,h,w,g,MP,cl,MN,t,r,z,s,ms,rfl,X,regA e1 e2,f,q⟩
noncomputable def alwA (h w g:Int) (MP:List RR) (cl MN:∅) (t:TK) (r z s:Int) (ms:∅):Bool:=formB h w g MP t r z s&&strA h w g MP cl MN t r z s ms
def tGT(K:Frag)(a:List Str):TE:=λ_ H Q=>∀ q,SqT K H q (a.map V.str)->Q (.ref q) H
section
variable{X:Cx}{pos:Pos}{x:Str}{ws:List Str}
theorem Gu(G:GTup X.K X.mg x ws)(b:Gl X x)(a:(x==("__debug__":Str))=false:=by decide):PE X (.Name x pos) (tGT X.K ws):=by
 obtain⟨q,o,d,n,h1,h2⟩:=G.ex;intro c s σ H Q I h;exact dQ (v:=V.ref q) b h1 rfl a c s σ H Q I (h q (.inr ⟨o,d,n,h2⟩))
end
def IL{K:Frag}{a:List Str}{σ:St}{H:Hp}{Q:VK}:tGT K a σ H Q=∀ q,SqT K H q (a.map V.str)->Q (.ref q) H:=rfl
def IM{K:Frag}{H:Hp}{Q:VK}{q:Addr}{i:Int}{xs:List V}{v:V}(a:SqT K H q xs)(e:atI xs i=some v)(h:Q v H):rIxT K (.ref q) (.int i) H Q:=⟨q,xs,i,v,rfl,rfl,a,e,h⟩
def stL(ms:∅)(c s:Int):∅:=(List.range ms.length).map λ(i:Nat)=>if (i:Int)=c then woI (ms.getD i 0) s else ms.getD i 0
def nv(K:Frag):Sp:=#[3,∃ p ms c s,vs=[.ref p,.int c,.int s]/\H p=↥(ms.map V.int)/\ms.length<=900/\s<=100000/\∀ l a,Same H a->H l=none->a l=↥((stL ms c s).map V.int)->Q (.ref l) a]
def sk(K:Frag):TS:=#[":ju&---12 ~:ba0d~Ab#2 -h#1 -h#2 ~BG~xlcqb13,'eba2a4d2"]
variable{K:Frag}{vs:List V}{H:Hp}{Q:VK}{E:XK}
theorem EV(h:nv K vs H Q E):sk K (eD9 Q) (start ["masks","cell","sign"] vs) H:=by
 obtain⟨p,ms,c,s,rfl,d,j,o,k⟩:=h;exists sk;refine⟨p,rfl,⟨_,Nm d⟩,?_⟩;refine qe (xs:=ms.map V.int) (λ_=>true) (λi=>.int (if (i:Int)=c then woI (ms.getD i 0) s else ms.getD i 0)) (by rw[MZ];exact j) #[1] (Nm d) ?_ ?_ ?_
 . intro i x a R e s1 k1;exact k1 _ (M5 _)
 . intro i x a n e t s1 k1;obtain⟨m,r,rfl⟩:=aN e;have q:=k1 _ (M5 a);rw[eX r]at q;show tIf _ _ _ [none,⇑i,⇑m,⇑c,⇑s] a n;symm;by_cases b:(i:Int)=c
   . rw[NA b]at q;rw[M3 b];exact iteT ⟨m,s,rfl,o,q⟩
   . rw[Nt b]at q;rw[M2 b];exact iteF q
 . intro l a g s1 f;refine k l a s1 g ?_;rw[f,bg,MZ];unfold stL;rw[NH];rfl
theorem rfmA{α β:Type}(d:α)(b:α->Bool)(f:α->β)(xs:List α):((List.range xs.length).filter λi=>b (xs.getD i d)).map (λi=>f (xs.getD i d))=(xs.filter b).map f:=by
 have e:xs=(List.range xs.length).map λi=>xs.getD i d:=by
  refine Qq (by simp) λi h1 h2=>?_;simp[List.getD,M0 h1]
 conv=>rhs;rw[e,OH,NH]
 rfl
def LLp(Q:VK)(H:Hp)(MU:List ∅):Prop:=∀(l:Addr) (as:List Addr) (b:Hp),Same H b->H l=none->(∀ a∈as,H a=none)->IsLL b l as MU->Q (.ref l) b
variable{H1:Hp}{MU:List ∅}
def LLp.of(q:LLp Q H MU)(s:Same H H1):LLp Q H1 MU:=λl as b d e c x=>q l as b (s.trans d) (s.free e) (λa h=>s.free (c a h)) x
variable{a:Addr}{xs:∅}
theorem so {k:Nat} {j:St} {n:TT} {te:TE} {d:Addr->Hp->Prop} (b:Int->Bool) (f:Int->∅) (r:xs.length<=900) (t:SqL K H1 a (xs.map V.int))
  (s:∀ x H R,x∈xs->Same H1 H->(∀ c,Same H c->R (b x) c)->n (j.set k ⇑x) H R)
  (w:∀ x H Q,x∈xs->b x=true->Same H1 H->(∀ a c,Same H c->H a=none->c a=↥((f x).map V.int)->Q (.ref a) c)->te (j.set k ⇑x) H Q)
  (q:LLp (λv H=>∀ l,v=.ref l->d l H) H1 ((xs.filter b).map f)):CompR (Itl K a) (gName k) n te d j H1:=by
 refine qf (xs:=xs.map V.int) (λi=>b (xs.getD i 0)) (λi=>.lst ((f (xs.getD i 0)).map V.int)) (by rw[MZ];exact r) t ?_ ?_ ?_
 . intro i x H R h s1 k1;obtain⟨y,g,rfl⟩:=aN h;rw[eX g]at k1;exact s y H R (M8 g) s1 k1
 . intro i x H Q h m s1 k1;obtain⟨y,g,rfl⟩:=aN h;rw[eX g]at k1 m;exact w y H Q (M8 g) m s1 k1
 . intro l as H p s1 o N;rw[MZ]at N
   have e:((List.range xs.length).filter λi=>b (xs.getD i 0)).map (λi=>HO.lst ((f (xs.getD i 0)).map V.int))=((xs.filter b).map f).map λu=>.lst (u.map V.int):=by
    rw[rfmA 0 b (λx=>HO.lst ((f x).map V.int)) xs,NH];rfl
   rw[e]at N;exact q l as H s1 p N.fr (N.ll o) l rfl
variable{x:Int}
def wa(q:∀ a b,Same H b->H a=none->b a=↥(([x]:∅).map V.int)->Q (.ref a) b):([V.int x]:List V).length<=sizeLine/\∀ p,H p=none->Q (.ref p) (upd H p (.lst [V.int x])):=
 ⟨lnR rfl,λp c=>q p _ ((M5 H).laid c) c ah⟩
def srtI(xs:∅):∅:=xs.mergeSort (λa b=>decide (a<=b))
theorem Ck:∀{xs ys:∅},xs.Perm ys->xs.Pairwise (· <=·)->ys.Pairwise (· <=·)->xs=ys
 | [],ys,p,_,_=>(List.nil_perm.mp p).symm ▸ rfl
 | x::r,[],p,_,_=>absurd p (by simp)
 | x::r,y::t,p,h1,h2=>by
  rw[Pn]at h1 h2
  have e:x=y:=by
   rcases Ng.mp (p.mem_iff.mp Nh) with e | d
   . exact e
   . rcases Ng.mp (p.mem_iff.mpr Nh) with e | c
     . exact e.symm
     . have a:=h2.1 x d;have b:=h1.1 y c;lia
  subst e;rw[Ck (List.Perm.cons_inv p) h1.2 h2.2]
theorem IN{ns:∅}(p:ns.Perm xs)(h:ns.Pairwise (· <=·)):ns=srtI xs:=by
 refine Ck (p.trans (PY xs _).symm) h ?_;have:=List.pairwise_mergeSort (le:=λa b:Int=>decide (a<=b)) (λa b c h1 h2=>by simp at h1 h2 ⊢;lia) (λa b=>by simp;lia) xs;exact this.imp λh=>Nb h
def srt_mem:x∈srtI xs↔x∈xs:=(PY xs _).mem_iff
def tD:(srtI xs).length=xs.length:=(PY xs _).length_eq
variable{p:Addr}
def AA{ns:∅}(c:H p=↥(ns.map V.int))(b:ns.length<64)(h:∀ l,H l=none->Q (.ref l) (upd H l (.lst ((srtI ns).map V.int)))):gt [.ref p] H Q:=
 FD c b λf l a e d=>by rw[IN e d];exact h l a
abbrev othA(cs:∅)(z:Int):∅:=cs.filter λx=>!decide (x=z)
def onlM(cs MN:∅)(z s:Int):List ∅:=((srtI (othA cs z)).filter λo=>decide (woI (MN.getD o.toNat 0) s=0)).map λo=>[o]
def lH(K:Frag)(c:QZ):Sp:=#[3,∃ k r p A a cs MN n m z s,vs=[.ref r,.ref A,.int z,.int s]/\IsRule H c k r p a cs n m/\aL cs MN.length/\H A=↥(MN.map V.int)/\s<=1000/\LLp Q H (onlM cs MN z s)]
def lI(K:Frag)(c:QZ):TS:=#[":ju&--13 tbp~Oa,Zbia0a2ddh#1 A,~oback21a3dsa1d"]
variable{c:QZ}
theorem yX(h:lH K c vs H Q E):lI K c (eD9 Q) (start ["rule","masks","cell","sign"] vs) H:=by
 obtain⟨k,r,p,A,I,cs,MN,n,m,z,s,rfl,x,d,D,U,q⟩:=h;have O:(othA cs z).length<=cs.length:=Np _ _;have G:=d.1;exists lI;refine⟨k,r,p,I,cs,n,m,z,rfl,x,G,λl H1 s1 j w=>?_⟩;refine AA (ns:=othA cs z) w #[4] λF g=>?_;obtain⟨T,v,u,e2⟩:=aW (.lst ((srtI (othA cs z)).map V.int)) g;rw[v];have b:=s1.trans u;refine⟨F,rfl,⟨_,Nm e2⟩,?_⟩;refine so (xs:=srtI (othA cs z)) (λo=>decide (woI (MN.getD o.toNat 0) s=0)) (λo=>[o]) (by rw[tD];lia) (Nm e2) ?_ ?_ ?_
 . intro y f R i t k3;have B:=d.2 y (Nf.mp (srt_mem.mp i)).1;show tB _ [none,⇑y,↑A,⇑s] f R;exists ixI ((b.trans t) _ _ D) B.1 #[4] ?_;exists⟨_,s,rfl,by lia,_,rfl,k3 _ (M5 _)⟩
 . intro y f M i P t k3;show tLst _ [none,⇑y,↑A,⇑s] f M;exists wa k3
 . exact λl as C L j J N S e=>by cases e;exact q l as C (b.trans L) (b.free j) (λa h=>b.free (J a h)) N
def plaM(g s:Int):List ∅:=((rngL 1 (g+1)).filter λo=>!decide (o=s)).map λo=>[o]
def kF(K:Frag):Sp:=#[3,∃ p h w g s,vs=[.ref p,.int s]/\IsFl H p h w g/\1<=g/\g<=6/\LLp Q H (plaM g s)]
def kG(K:Frag):TS:=#[":ju&--1 'faef#1 acyck0ef#2 ef#1 dh#1 lcFb12sa1d"]
theorem xD(h:kF K vs H Q E):kG K (eD9 Q) (start ["floor","sign"] vs) H:=by
 obtain⟨p,h,w,g,s,rfl,j,o,n,q⟩:=h;exists kG;refine ixT j (v:=V.int g) rfl ?_;exists⟨1,g+1,rfl,⟨by lia,by lia,by lia,by lia⟩,?_⟩;refine t3 (λi=>!decide (1+(i:Int)=s)) (λi=>.lst (([1+(i:Int)]:∅).map V.int)) #[4] ?_ ?_ ?_
 . intro i a R f b k2;show tTest _ [none,⇑(1+(i:Int)),⇑s] a R;exists k2 _ (M5 _)
 . intro i a m f _ b k2;show tLst _ [none,⇑(1+(i:Int)),⇑s] a m;exists wa k2
 . intro l as a d b c N
   have e:((List.range (g+1-1).toNat).filter λ(i:Nat)=>!decide (1+(i:Int)=s)).map (λ(i:Nat)=>HO.lst (([1+(i:Int)]:∅).map V.int))=(plaM g s).map λk=>.lst (k.map V.int):=by
    unfold plaM rngL;rw[OH,NH,NH];rfl
   rw[e]at N;exact q l as a b d N.fr (N.ll c)
def squM(h w z:Int):List ∅:=((squL h w).filter λq=>decide (z∈q)).map λq=>[q.getD 0 0]
def jU(K:Frag):Sp:=#[3,∃ p h w g z,vs=[.ref p,.int z]/\IsFl H p h w g/\FlOk h w g/\LLp Q H (squM h w z)]
def jV(K:Frag):TS:=#[":ju&--1 tb,~-ba0dh#1 lcJbB21sack1ef#0 d"]
variable{h w g:Int}
theorem FW(F:FlOk h w g):(squL h w).length<=16:=by
 have:=F.m;unfold squL;rw[MZ];refine Nk (Np _ _) ?_;rw[Og];lia
theorem wb(h:jU K vs H Q E):jV K (eD9 Q) (start ["floor","cell"] vs) H:=by
 obtain⟨p,h,w,g,z,rfl,t,F,q⟩:=h;have G:=FW F;exists jV;refine⟨p,h,w,g,rfl,t,F,λl as H1 s1 D X J L I=>?_⟩;have B:=X.len;refine⟨l,rfl,⟨_,Nm X.top⟩,?_⟩;refine qf (xs:=as.map V.ref) (λi=>decide (z∈(squL h w).getD i [])) (λi=>.lst (([((squL h w).getD i []).getD 0 0]:∅).map V.int)) (by rw[MZ];lia) (Nm X.top) ?_ ?_ ?_
 . intro i x f R n d k2;obtain⟨b,c,rfl⟩:=b5 n;have s:i<as.length:=(M6.mp c).1;have e:(squL h w)[i]? =some (squL h w)[i]:=M0 #[4];have k:=d _ _ (X.at_ i b _ c e);have m:(squL h w).getD i []=(squL h w)[i]:=by rw[List.getD,e];rfl
   rw[m]at k2;show tTest _ [none,↑b,⇑z] f R;symm;rw[oo k];exact⟨_,rfl,k2 _ (M5 _)⟩
 . intro i x f r n v d k2;obtain⟨b,c,rfl⟩:=b5 n;have s:i<as.length:=(M6.mp c).1;have e:(squL h w)[i]? =some (squL h w)[i]:=M0 #[4];have k:=d _ _ (X.at_ i b _ c e);have m:(squL h w).getD i []=(squL h w)[i]:=by rw[List.getD,e];rfl
   rw[m]at k2;obtain⟨j,_,_,A⟩:=o5 (NB (show i < (squL h w).length by lia));rw[A]at k k2;show tLst _ [none,↑b,⇑z] f r;exists ixI k #[1] (by show(0:Int)<4;decide) ?_;exact wa k2
 . intro T y f u d o N;rw[MZ,B,rfmA [] (λq=>decide (z∈q)) (λq=>HO.lst (([q.getD 0 0]:∅).map V.int)) (squL h w)]at N;have e:((squL h w).filter λq=>decide (z∈q)).map (λq=>HO.lst (([q.getD 0 0]:∅).map V.int))=(squM h w z).map λC=>.lst (C.map V.int):=by unfold squM;rw[NH];rfl
   rw[e]at N;exact q T y f (s1.trans d) (s1.free u) (λa h=>s1.free (N.fr a h)) (N.ll o)
def turM(h w z:Int):List ∅:=[]::(besL h w z).map λo=>[o]
def lJ(K:Frag):Sp:=#[3,∃ p h w g z,vs=[.ref p,.int z]/\IsFl H p h w g/\FlOk h w g/\LLp Q H (turM h w z)]
def lK(K:Frag):TS:=#[":jcysasddu&-- tb,~sba0a1dh#1 Gsa1d"]
theorem yY(h:lJ K vs H Q E):lK K (eD9 Q) (start ["floor","cell"] vs) H:=by
 obtain⟨p,h,w,g,z,rfl,I,F,q⟩:=h;have S:=F.w0;have U:=F.w1;have bl:=uz h w z;exists lK;refine⟨aP #[1],λb x=>?_⟩;obtain⟨H1,n,s1,e1⟩:∃ z,upd H b (.lst [])=z/\Same H z/\z b=↥(([]:∅).map V.int):=aW _ x;rw[n];refine⟨lnR rfl,λZ D=>?_⟩;obtain⟨W,n,u,e2⟩:=aW (.lst [V.ref b]) D;rw[n];have i:=s1.trans u;refine⟨p,h,w,g,z,rfl,i _ _ I,by lia,by lia,λl M A N v=>?_⟩;refine⟨l,rfl,⟨_,Nm v⟩,?_⟩;refine so (xs:=besL h w z) (λ_=>true) (λo=>[o]) #[4] (Nm v) ?_ ?_ ?_
 . intro y c R C m k4;exact k4 _ (M5 _)
 . intro y c G C L m k4;show tLst _ [none,⇑y] c G;exists wa k4
 . intro T as c m P J X O e;cases e;have k:=i.trans A;have f:=A.trans m;have d:=k.trans m;have r:IsLL c T as ((besL h w z).map λo=>[o]):=by rw[bg]at X;exact X
   have B:=r.len;rw[MZ]at B;exists rK (f _ _ e2) r.top (by simp;lia) λR t=>?_;have s:Same c (upd c R (.lst ([V.ref b]++as.map V.ref))):=(M5 c).laid t;refine q R (b::as) _ (d.trans s) (d.free t) (λa h=>?_) ⟨ah,?_,λj a xs h1 h2=>?_⟩
   . rcases Ng.mp h with rfl | h
     . exact x
     . exact k.free (J a h)
   . unfold turM;simp[B]
   . cases j with
     | zero=>cases h1;cases h2;exact s _ _ (f _ _ (u _ _ e1))
     | succ j=>exact s _ _ (r.at_ j a xs h1 h2)
def sureA(cs MN:∅)(m z:Int):∅:=(othA cs z).filter λo=>decide (woI (MN.getD o.toNat 0) m=0)
noncomputable def reaM (h w:Int) (cs:∅) (m:Int) (MN:∅) (z s:Int):List ∅:=
 if s=m then((sureA cs MN m z).filter λo=>!rcB h w (thrL cs MN m z++[z]) z o).map λo=>[o]
 else((sureA cs MN m z).filter λo=>!rcB h w (thrL cs MN m z) ((sureA cs MN m z).getD 0 0) o).map λo=>[(sureA cs MN m z).getD 0 0,o]
def kH(K:Frag)(c:QZ):Sp:=#[3,∃ k f r p A a cs MN n m z s h w g,vs=[.ref f,.ref r,.ref A,.int z,.int s]/\IsFl H f h w g/\FlOk h w g/\IsRule H c k r p a cs n m/\aL cs MN.length/\cs.length<=60/\H A=↥(MN.map V.int)/\m<=1000/\LLp Q H (reaM h w cs m MN z s)]
def io(K:Frag)(c:QZ):TS:=#[":ju&--86 tb6h#1 lcJbQ12sack3ef#0 a1d"]
def lQ(K:Frag)(c:QZ):TS:=#[":gm~xlcFb6sd,~zba0a7ack6ef#0 dsdh#8 {Vbi"]
def ip(K:Frag)(c:QZ):TS:=#[":gnlcqb45gm,~zba0acy7sa3da3dh#8 ju&--8 tb6h#1 lcJbQ12sa1do{Wbi"]
def kI(K:Frag)(c:QZ):TS:=#[":gmxiC~p~qbi1dh#5 gmu&--52 tb,Zbia1a3dh#1 A,~oback31a2d1h#6 g~v#7 &--52 tb,Zbia1a3dh#1 A,~yback31a2d1{Xbi"]
theorem ninA{cs rs:∅}{st o:Int}(a:H p=↥(rs.map V.int))(b:∀ x,x∈rs↔RC h w cs st x)(q:Q (.bl (!rcB h w cs st o)) H):cIn K true (.int o) (.ref p) H Q:=by
 rw[kT a,Au (b o)];exact q
def Gv{y:Int}(q:∀ a b,Same H b->H a=none->b a=↥(([x,y]:∅).map V.int)->Q (.ref a) b):([V.int x,V.int y]:List V).length<=sizeLine/\∀ p,H p=none->Q (.ref p) (upd H p (.lst [V.int x,V.int y])):=
 ⟨lnR rfl,λp c=>q p _ ((M5 H).laid c) c ah⟩
def LLp.fin(q:LLp Q H MU)(s:Same H H1):LLp (λv b=>∀ l,v=.ref l->Q (.ref l) b) H1 MU:=λl as b d c g f i e=>by cases e;exact q l as b (s.trans d) (s.free c) (λa h=>s.free (g a h)) f
variable{z s:Int}{v2:Option V}
theorem tN {f S T:Addr} {b a:∅} {m:Int} {v1:Option V} (L:IsFl H f h w g) (F:FlOk h w g) (D:H S=↥(b.map V.int)) (J:H T=↥(a.map V.int)) (sn:b.length<=60) (tn:a.length<=60)
  (q:LLp Q H (if s=m then(b.filter λo=>!rcB h w (a++[z]) z o).map λo=>[o] else(b.filter λo=>!rcB h w a (b.getD 0 0) o).map λo=>[b.getD 0 0,o])):
  ip K c (eD9 Q) [↑f,v1,v2,⇑z,⇑s,⇑m,↑S,↑T,none] H:=by
 have w0:=F.w0;have w1:=F.w1;unfold ip;rw[aG,aD];symm;by_cases e:s=m
 . rw[NA e]at q;rw[M3 e];exists⟨lnR rfl,λl U=>?_⟩;obtain⟨H1,E,s1,P⟩:=aW (.lst [V.int z]) U;rw[E];refine rK (s1 _ _ J) P (by simp;lia) λY Z=>?_;have N:Same H1 (upd H1 Y (.lst (a.map V.int++[V.int z]))):=(M5 H1).laid Z;have eY:(upd H1 Y (.lst (a.map V.int++[V.int z]))) Y=↥((a++[z]).map V.int):=by rw[ah];simp
   generalize upd H1 Y (.lst (a.map V.int++[V.int z]))=H2 at*;have u:=s1.trans N;exists⟨f,Y,h,w,g,z,_,rfl,u _ _ L,by lia,by lia,eY,by simp;lia,λp i rs n W t _ A=>?_⟩;have B:=u.trans n;symm;have d:=B _ _ D;refine⟨⟨_,Nm d⟩,?_⟩;refine so (xs:=b) (λo=>!rcB h w (a++[z]) z o) (λo=>[o]) #[4] (Nm d) ?_ ?_ (q.fin B)
   . intro y j R r k k4;show tTest _ [none,⇑y,↑p] j R;exists ninA (k _ _ t) A ⟨_,rfl,k4 _ (M5 _)⟩
   . intro y j I r M k k4;show tLst _ [none,⇑y,↑p] j I;exists wa k4
 . rw[Nt e]at q;rw[M2 e];symm;unfold lQ
   have v:∀(p:Addr) (rs:∅) (i:Hp),Same H i->i p=↥(rs.map V.int)->(b≠[]->∀ x,x∈rs↔RC h w a (b.getD 0 0) x)->io K c (eD9 Q) [↑f,v1,v2,⇑z,⇑s,⇑m,↑S,↑T,↑p] i:=λp rs i n t A=>by
    have d:=n _ _ D;unfold io;exists⟨⟨_,Nm d⟩,?_⟩;refine so (xs:=b) (λo=>!rcB h w a (b.getD 0 0) o) (λo=>[b.getD 0 0,o]) #[4] (Nm d) ?_ ?_ (q.fin n)
    . intro y j R r k k4;show tTest _ [none,⇑y,↑p,↑S] j R;exists ninA (k _ _ t) (A (List.ne_nil_of_mem r)) ⟨_,rfl,k4 _ (M5 _)⟩
    . intro y j I r M k k4;have:0<b.length:=Qy r;show tLst _ [none,⇑y,↑p,↑S] j I;exists ixI (k _ _ d) #[1] #[4] ?_;exact Gv k4
   exists⟨aP #[1],λO hO=>?_⟩;obtain⟨H1,E,s1,eO⟩:∃ z,upd H O (.lst [])=z/\Same H z/\z O=↥(([]:∅).map V.int):=aW _ hO;rw[E];refine tp (s1 _ _ D) eO ?_;by_cases C:b=[]
   . rw[M3 C];refine⟨_,rfl,iteF ?_⟩;refine⟨aP #[1],λX G=>?_⟩;exact v X [] _ (s1.trans ((M5 H1).laid G)) ah λh=>absurd C h
   . rw[M2 C];have:0<b.length:=PZ.mpr C;refine⟨_,rfl,iteT ?_⟩;refine ixI (s1 _ _ D) #[1] #[4] ?_;rw[show(0:Int).toNat=0 from rfl];refine⟨f,T,h,w,g,_,_,rfl,s1 _ _ L,by lia,by lia,s1 _ _ J,by lia,λp i rs n W t _ A=>?_⟩;exact v p rs i (s1.trans n) t λ_=>A
theorem xE(h:kH K c vs H Q E):kI K c (eD9 Q) (start ["floor","rule","masks","cell","sign","mark","sure","through","joined"] vs) H:=by
 obtain⟨k,f,r,p,A,D,cs,MN,n,m,z,s,h,w,g,rfl,Z,F,x,a,aa,J,hm,q⟩:=h;obtain⟨dx,W,C,h1,h2,h3⟩:=x.ex;have ol:(othA cs z).length<=cs.length:=Np _ _;ac_nf;unfold kI;rw[aG,bC];refine methE (k:=k) rfl x.ok h1 (by rfl) ?_;exists⟨r,p,D,cs,n,m,rfl,x,?_⟩;exists⟨k,r,p,D,cs,n,m,z,rfl,x,a.1,λO H1 s1 hO M=>?_⟩;refine⟨O,rfl,⟨_,Nm M⟩,?_⟩;refine aS (xs:=othA cs z) (λo=>decide (woI (MN.getD o.toNat 0) m=0)) (λo=>o) #[4] (Nm M) ?_ ?_ ?_
 . intro y B R b u k2;have j:=a.2 y (Nf.mp b).1;show tB _ [none,⇑y,⇑m,↑A] B R;exists ixI ((s1.trans u) _ _ J) j.1 j.2 ?_;exists⟨_,m,rfl,by lia,_,rfl,k2 _ (M5 _)⟩
 . intro y B P b N u k2;show tVar 1 [none,⇑y,⇑m,↑A] B P;exists k2 _ (M5 _)
 . intro S B hS u L;rw[Oi]at L;have i:=s1.trans u;have Y:=x.same i;exists⟨k,r,p,D,cs,n,m,z,rfl,Y,a.1,λO2 H3 I U t=>?_⟩;have l:=i.trans I;refine⟨O2,rfl,⟨_,Nm t⟩,?_⟩;refine aS (xs:=othA cs z) (λo=>stB (MN.getD o.toNat 0) m) (λo=>o) #[4] (Nm t) ?_ ?_ ?_
   . intro y v R b e k4;have j:=a.2 y (Nf.mp b).1;show tB _ [none,⇑y,⇑m,↑A] v R;exists ixI ((l.trans e) _ _ J) j.1 j.2 ?_;exists⟨_,m,rfl,_,rfl,k4 _ (M5 _)⟩
   . intro y v X b N e k4;show tVar 1 [none,⇑y,⇑m,↑A] v X;exists k4 _ (M5 _)
   . intro T v hT e G;rw[Oi]at G;have d:=l.trans e;have l1:=Np (λo=>decide (woI (MN.getD o.toNat 0) m=0)) (othA cs z);have l2:=Np (λo=>stB (MN.getD o.toNat 0) m) (othA cs z);exact tN (d _ _ Z) F ((I.trans e) _ _ L) G #[4] #[4] (q.of d)
def fewA(cs MN:∅)(z:Int):∅:=(srtI (othA cs z)).filter λo=>decide (((sgL (MN.getD o.toNat 0)).length:Int)<=2)
def paiR(cs few:∅)(a:Int):List ∅:=(few.filter λb=>decide (((cs.findIdx (· ==a):Nat):Int) < ((cs.findIdx (· ==b):Nat):Int))).map λb=>[a,b]
def paiM(cs MN:∅)(z:Int):List ∅:=(fewA cs MN z).flatMap (paiR cs (fewA cs MN z))
def lL(K:Frag)(c:QZ):Sp:=#[3,∃ k r p A a cs MN n m z,vs=[.ref r,.ref A,.int z]/\IsRule H c k r p a cs n m/\aL cs MN.length/\cs.length<=16/\H A=↥(MN.map V.int)/\(∀ m∈MN,0<=m/\m<64)/\LLp Q H (paiM cs MN z)]
def i7(K:Frag)(c:QZ):TS:=#[":gmsdh#5 gKtb4h#6 NDbE~;5au&--63 tb4h#1 lc<DbE~rb3a2dDbE~rb3a1dsa2a1ddj5"]
def lM(K:Frag)(c:QZ):TS:=#[":gmxiC~m~nbi0dh#3 g~v#4 &--1 tbp~Oa,Zbia0a2ddh#1 lc(pza,]back21ddef#2 1{Ybi"]
theorem bitsA{m:Int}(a:0<=m)(b:m<64):Builtin.Int.intBits m<=900:=by
 have t:=Nb (Na.mp Ay m.toNat (Nj.mpr #[4]));rw[show((m.toNat:Nat):Int)=m by lia]at t;lia
theorem AB{cs few:∅}{a:Int}:(paiR cs few a).length<=few.length:=by
 unfold paiR;rw[MZ];exact Np _ _
theorem AC{cs few:∅}:∀ xs:∅,(xs.flatMap (paiR cs few)).length<=xs.length*few.length
 | []=>by simp
 | x::r=>by
  have b:=AC (cs:=cs) (few:=few) r;have:=AB (cs:=cs) (few:=few) (a:=x);rw[List.flatMap_cons,NG,NJ,Nat.add_mul];lia
theorem uP{S W:Addr}{cs few:∅}{G v1:Option V}(N:H S=↥(cs.map V.int))(n:H W=↥(few.map V.int))(cn:cs.length<=16)(D:few.length<=16)(I:∀ o∈few,o∈cs)(q:LLp Q H (few.flatMap (paiR cs few))):
  i7 K c (eD9 Q) [G,v1,v2,↑S,↑W,none,none] H:=by
 unfold i7;exists⟨aP #[1],λF w=>?_⟩;obtain⟨H1,z9,s1,e1⟩:∃ z,upd H F (.lst [])=z/\Same H z/\z F=↥(([]:List Addr).map V.ref):=aW _ w;rw[z9];refine⟨⟨_,Nm (s1 _ _ n)⟩,?_⟩;refine bz (K:=K) (xs:=few.map V.int) (λi σ t=>∃(r:Option V) (as:List Addr),σ=[G,v1,v2,↑S,↑W,↑F,r]/\Same H t/\IsLL t F as ((few.take i).flatMap (paiR cs few))/\(∀ a∈as,H a=none)/\F∉as) ⟨none,[],rfl,s1,⟨e1,rfl,λj a xs e _=>by simp at e⟩,(λa l=>by cases l),by simp⟩ (λi σ t _ ⟨_,_,_,s,_⟩=>Nm (s _ _ n)) ?_ ?_
 . rintro i v σ J P ⟨r,as,rfl,g,X,u,B⟩;obtain⟨a,l,rfl⟩:=aN P;have L:=M8 l;have hi:i<few.length:=(M6.mp l).1;have A:=X.len;have U:=AC (cs:=cs) (few:=few) (few.take i);rw[Oa]at U;have O:min i few.length*few.length<=16*16:=QN #[4] D;exists⟨aZ X.top,⟨_,Nm (g _ _ n)⟩,?_⟩;refine so (xs:=few) (λb=>decide (((cs.findIdx (· ==a):Nat):Int) < ((cs.findIdx (· ==b):Nat):Int))) (λb=>[a,b]) #[4] (Nm (g _ _ n)) ?_ ?_ ?_
   . intro y m R C k k3;have d:=(g.trans k) _ _ N;show tTest _ [none,⇑y,⇑a,↑S] m R;exists⟨aZ d,?_⟩;refine ky d (I a L) #[4] ?_;exists⟨aZ d,?_⟩;refine ky d (I y C) #[4] ?_;exists k3 _ (M5 _)
   . intro y m Q3 C p k k3;show tLst _ [none,⇑y,⇑a,↑S] m Q3;exists Gv k3
   . intro T x m k hT p Y T' e;cases e;have pl:=AB (cs:=cs) (few:=few) (a:=a);have bl:=Y.len;have Yl:x.length<=16:=by rw[bl];exact Nk pl D
     refine zY (k _ _ X.top) Y.top (by rw[MZ,MZ,A];lia) ?_;have E:∀ b∈x,b≠F:=λb f e=>by have:=p b f;rw[e,X.top]at this;cases this
     refine⟨_,as++x,rfl,(g.trans k).own w,⟨by rw[ah,OT],?_,λj b xs h1 h2=>?_⟩,λb f=>?_,λM=>?_⟩
     . rw[Oq,l,PX,NG,NG,A,bl];simp[paiR]
     . rw[Oq,l,PX]at h2;have e2:(some a).toList.flatMap (paiR cs few)=paiR cs few a:=by simp
       rw[e2]at h2;by_cases hj:j<as.length
       . rw[NO hj]at h1;rw[NO #[4]]at h2;have Z:b≠F:=λe=>B (by rw[← e];exact M8 h1);rw[aj Z];exact k _ _ (X.at_ j b xs h1 h2)
       . rw[NW #[4]]at h1;rw[NW #[4],← A]at h2;rw[aj (E b (M8 h1))];exact Y.at_ _ b xs h1 h2
     . rcases Ny.mp f with h | h
       . exact u b h
       . exact g.free (p b h)
     . rcases Ny.mp M with h | h
       . exact B h
       . exact E _ h rfl
 . rintro σ J ⟨r,as,rfl,g,X,u,B⟩;rw[MZ,N6]at X;exists q F as J g w u X
theorem yZ(h:lL K c vs H Q E):lM K c (eD9 Q) (start ["rule","masks","cell","spots","few","found","first"] vs) H:=by
 obtain⟨k,r,p,A,D,cs,MN,n,m,z,rfl,x,b,X,N,B,q⟩:=h;obtain⟨dx,Wd,C,h1,h2,h3⟩:=x.ex;have Z:(othA cs z).length<=cs.length:=Np _ _;exists lM;refine methE (k:=k) rfl x.ok h1 (by rfl) ?_;exists⟨r,p,D,cs,n,m,rfl,x,λS I=>?_⟩;obtain⟨H1,f,s1,O⟩:=aW (.lst (cs.map V.int)) I;rw[f];exists⟨k,r,p,D,cs,n,m,z,rfl,x.same s1,b.1,λl H2 s hl J=>?_⟩;refine AA (ns:=othA cs z) J #[4] λT g=>?_;obtain⟨H3,f,w,t⟩:=aW (.lst ((srtI (othA cs z)).map V.int)) g;rw[f];have i:=(s1.trans s).trans w;refine⟨T,rfl,⟨_,Nm t⟩,?_⟩;refine aS (xs:=srtI (othA cs z)) (λo=>decide (((sgL (MN.getD o.toNat 0)).length:Int)<=2)) (λo=>o) (by rw[tD];lia) (Nm t) ?_ ?_ ?_
 . intro y e R j d k4;have u:=b.2 y (Nf.mp (srt_mem.mp j)).1;have v:MN.getD y.toNat 0∈MN:=by rw[List.getD,M0 #[4]];exact NB _
   show tTest _ [none,⇑y,↑A] e R;exists ixI ((i.trans d) _ _ N) u.1 u.2 ?_;exists⟨_,rfl,bitsA (B _ v).1 (B _ v).2,λU H5 P hU L=>?_⟩;symm;rw[a8 L,MZ];exists k4 _ P
 . intro y e M j hb d k4;show tVar 1 [none,⇑y,↑A] e M;exists k4 _ (M5 _)
 . intro W e hW d F;rw[Oi]at F;have a:=(s.trans w).trans d;have Y:=Np (λo=>decide (((sgL (MN.getD o.toNat 0)).length:Int)<=2)) (srtI (othA cs z));rw[tD]at Y;exact uP (few:=fewA cs MN z) (a _ _ O) F X (by unfold fewA;lia) (λo G=>(Nf.mp (srt_mem.mp (Nf.mp G).1)).1) (q.of (s1.trans a))
structure Tho where
 t:TK
 r:Int
 z:Int
 s:Int
 ms:∅
noncomputable def mtF (h w g:Int) (MP:List RR) (MN:∅) (t:TK) (r z s:Int):List ∅:=
 if t=.place then plaM g s else if t=.square then squM h w z else if t=.turn then turM h w z else match MP[r.toNat]? with
  | none=>[[]]
  | some x=>if t=.only then onlM x.cs MN z s else if t=.reach then reaM h w x.cs x.m MN z s else if t=.pair then paiM x.cs MN z else [[]]
structure Lk(H:Hp)(c:QZ)(d:Q0)(P L G A:Addr)(h w g:Int)(MP:List RR)(cl MN:∅):Prop where
 P:IsPz H c d P L G h w g MP cl
 A:H A=↥(MN.map V.int)
 n:MN.length=(h*w).toNat
 mm:∀ m∈MN,0<=m/\m<2^g.toNat
variable{H':Hp}{d:Q0}{P L G A:Addr}{MP:List RR}{cl MN:∅}
def Lk.same(x:Lk H c d P L G A h w g MP cl MN)(s:Same H H'):Lk H' c d P L G A h w g MP cl MN:=⟨x.P.same s,s _ _ x.A,x.n,x.mm⟩
theorem jW(b:1<=g)(a:g<=6):(2:Int)^g.toNat<=64:=by
 have e:g=1\/g=2\/g=3\/g=4\/g=5\/g=6:=by lia
 rcases e with rfl | rfl | rfl | rfl | rfl | rfl <;> decide
def Lk.m64(x:Lk H c d P L G A h w g MP cl MN):∀ m∈MN,0<=m/\m<64:=λm a=>by
 have:=jW x.P.R.F.g0 x.P.R.F.g1;have:=x.mm m a;omega
def jX(K:Frag)(c:QZ)(d:Q0):Sp:=#[3,∃ P L G A h w g MP cl MN t r z s,vs=[.ref P,.ref A,.str (tx (tkC t)),.int r,.int z,.int s]/\Lk H c d P L G A h w g MP cl MN/\formB h w g MP t r z s=true/\LLp Q H (mtF h w g MP MN t r z s)]
def g7(K:Frag)(c:QZ)(d:Q0):TS:=#[":gnlcqb2evw`0j,{ZbiackxrU~e~fbir0d3a1a4a5dognlcqb2evw`1j,{*bia6ackxrU~e~fbir0d3a1a4a5dognlcqb2evw`2j,{+biackxrU~e~fbir0d3a1a4dojsasdd",s!"only",s!"reach",s!"pair"]
def jY(K:Frag)(c:QZ)(d:Q0):TS:=#[":gmxrU~P~Qbir0dh#6 gnlcqb2evw`0j,{-ba6a5dognlcqb2evw`1j,{/ba6a4dognlcqb2evw`2j,{:ba6a4do{;bir",s!"place",s!"square",s!"turn"]
variable{t:TK}{r:Int}
theorem BF(X:Lk H c d P L G A h w g MP cl MN)(hp:IsFl H p h w g)(f:formB h w g MP t r z s=true)(n1:t≠.place)(Z:t≠.square)(n3:t≠.turn)(q:LLp Q H (mtF h w g MP MN t r z s)):
  g7 K c d (eD9 Q) [↑P,↑A,some (.str (tx (tkC t))),⇑r,⇑z,⇑s,↑p] H:=by
 obtain⟨dx,p0,rs,h1,h2,h3⟩:=X.P.ex;obtain⟨z0,z1,s0,T,MY⟩:=fK f;have hg:=X.P.R.F.g1;unfold mtF at q;rw[Nt n1,Nt Z,Nt n3]at q
 have C:t≠.clue->∃ y,0<=r/\MP[r.toNat]? =some y/\goesB t y.k=true:=λhc=>by
  obtain⟨r0,y,m,o,hz⟩:=o4 hc MY;exact⟨y,r0,m,o⟩
 unfold g7;rw[aG,aD];symm;rw[bA,Cb];by_cases e1:t=.only
 . subst e1;obtain⟨y,r0,m,o⟩:=C #[1];have O:=X.P.R.ok y (M8 m);have v:aL y.cs MN.length:=by rw[X.n];exact Qa O X.P.R.F
   rw[m]at q;rw[M3 rfl];refine iteT ?_;refine methE (k:=.Puzzle) rfl X.P.ok h1 (by rfl) ?_;exists⟨P,L,G,h,w,g,MP,cl,rfl,X.P,λl I i x D Y=>?_⟩;have u:Same H (upd H l (.lst (i.map V.ref))):=(M5 H).laid x;generalize upd H l (.lst (i.map V.ref))=H1 at*;have E:=(M6.mp m).1;have N:=Y.len;have B:i[r.toNat]? =some i[r.toNat]:=M0 #[4];dsimp only;refine ixL Y.top (iK r0 B) ?_;exists⟨_,_,I,A,_,y.cs,MN,_,_,z,s,rfl,Y.at_ _ _ _ B m,v,u _ _ X.A,by lia,q.of u⟩
 . rw[M2 e1];refine iteF ?_;rw[aD];symm;rw[bA,uO];by_cases e2:t=.reach
   . subst e2;obtain⟨y,r0,m,o⟩:=C #[1];have O:=X.P.R.ok y (M8 m);have ym:=(O.m0 (yt o)).2;have v:aL y.cs MN.length:=by rw[X.n];exact Qa O X.P.R.F
     rw[m]at q;rw[M3 rfl];refine iteT ?_;refine methE (k:=.Puzzle) rfl X.P.ok h1 (by rfl) ?_;exists⟨P,L,G,h,w,g,MP,cl,rfl,X.P,λl I i x D Y=>?_⟩;have u:Same H (upd H l (.lst (i.map V.ref))):=(M5 H).laid x;generalize upd H l (.lst (i.map V.ref))=H1 at*;have E:=(M6.mp m).1;have N:=Y.len;have B:i[r.toNat]? =some i[r.toNat]:=M0 #[4];dsimp only;refine ixL Y.top (iK r0 B) ?_;exists⟨_,p,_,I,A,_,y.cs,MN,_,_,z,s,h,w,g,rfl,u _ _ hp,X.P.R.F,Y.at_ _ _ _ B m,v,RR.len26 O X.P.R.F,u _ _ X.A,by lia,q.of u⟩
   . rw[M2 e2];refine iteF ?_;symm;rw[aD];symm;rw[bA,Hg];by_cases J:t=.pair
     . subst J;obtain⟨y,r0,m,o⟩:=C #[1];have O:=X.P.R.ok y (M8 m);have v:aL y.cs MN.length:=by rw[X.n];exact Qa O X.P.R.F
       have yk:allK y.k=false:=by revert o;cases y.k <;> intro o <;> first | rfl | (cases o;done)
       have M:y.cs.length<=16:=by
        obtain⟨_,c2,_,_,e⟩:=O.cl.told yk;rw[e,MZ];exact c2
       rw[m]at q;rw[M3 rfl];refine iteT ?_;refine methE (k:=.Puzzle) rfl X.P.ok h1 (by rfl) ?_;exists⟨P,L,G,h,w,g,MP,cl,rfl,X.P,λl I i x D Y=>?_⟩;have u:Same H (upd H l (.lst (i.map V.ref))):=(M5 H).laid x;generalize upd H l (.lst (i.map V.ref))=H1 at*;have E:=(M6.mp m).1;have N:=Y.len;have B:i[r.toNat]? =some i[r.toNat]:=M0 #[4];dsimp only;refine ixL Y.top (iK r0 B) ?_;exists⟨_,_,I,A,_,y.cs,MN,_,_,z,rfl,Y.at_ _ _ _ B m,v,M,u _ _ X.A,X.m64,q.of u⟩
     . rw[M2 J]
       have W:LLp Q H [[]]:=by
        cases m:MP[r.toNat]? with
        | none=>rw[m]at q;exact q
        | some y=>
         rw[m]at q;dsimp only at q;rw[Nt e1,Nt e2,Nt J]at q;exact q
       refine iteF ?_;exists⟨aP #[1],λa S=>?_⟩;obtain⟨H1,z9,s1,e1⟩:∃ z,upd H a (.lst [])=z/\Same H z/\z a=↥(([]:∅).map V.int):=aW _ S;rw[z9];refine⟨lnR rfl,λl x=>?_⟩;have u:Same H1 (upd H1 l (.lst [V.ref a])):=(M5 H1).laid x;refine W l [a] _ (s1.trans u) (s1.free x) (λb U=>by rw[Nd.mp U];exact S) ⟨ah,rfl,λj b xs h1 h2=>?_⟩
       cases j with
       | zero=>cases h1;cases h2;exact u _ _ e1
       | succ j=>simp at h1
theorem wc(h:jX K c d vs H Q E):jY K c d (eD9 Q) (start ["puzzle","masks","kind","number","cell","sign","floor"] vs) H:=by
 obtain⟨P,L,G,A,h,w,g,MP,cl,MN,t,r,z,s,rfl,X,f,q⟩:=h;obtain⟨i,e,rs,h1,h2,h3⟩:=X.P.ex;exists jY;refine methE (k:=.Puzzle) rfl X.P.ok h1 (by rfl) ?_;exists⟨P,L,G,h,w,g,MP,cl,rfl,X.P,λp a=>?_⟩;symm;rw[aD];symm;rw[bA,Ak];by_cases e1:t=.place
 . subst e1;rw[M3 rfl];unfold mtF at q;rw[NA rfl]at q;exists⟨p,h,w,g,s,rfl,a,X.P.R.F.g0,X.P.R.F.g1,q⟩
 . rw[M2 e1];symm;rw[aD];symm;rw[bA,yq];by_cases e2:t=.square
   . subst e2;rw[M3 rfl];unfold mtF at q;rw[Nt #[1],NA rfl]at q;exists⟨p,h,w,g,z,rfl,a,X.P.R.F,q⟩
   . rw[M2 e2];symm;rw[aD];symm;rw[bA,Hh];by_cases b:t=.turn
     . subst b;rw[M3 rfl];unfold mtF at q;rw[Nt #[1],Nt #[1],NA rfl]at q;exists⟨p,h,w,g,z,rfl,a,X.P.R.F,q⟩
     . rw[M2 b];exists BF X a f e1 e2 b q
def IO:∀ ms∈mtF h w g MP MN t r z s,ms.length<=2:=λms b=>by
 unfold mtF at b
 split at b
 . unfold plaM at b;obtain⟨_,_,rfl⟩:=Nl.mp b;simp
 . split at b
   . unfold squM at b;obtain⟨_,_,rfl⟩:=Nl.mp b;simp
   . split at b
     . unfold turM at b;rcases Ng.mp b with rfl | b
       . simp
       . obtain⟨_,_,rfl⟩:=Nl.mp b;simp
     . split at b
       . rw[Nd.mp b];simp
       . split at b
         . unfold onlM at b;obtain⟨_,_,rfl⟩:=Nl.mp b;simp
         . split at b
           . unfold reaM at b
             split at b <;> (obtain⟨_,_,rfl⟩:=Nl.mp b;simp)
           . split at b
             . unfold paiM at b;obtain⟨a,_,b⟩:=Qr.mp b;unfold paiR at b;obtain⟨_,_,rfl⟩:=Nl.mp b;simp
             . rw[Nd.mp b];simp
noncomputable def faF (h w g:Int) (MP:List RR) (cl MN:∅) (t:TK) (r z s:Int):Option ∅:=(mtF h w g MP MN t r z s).find? λms=>strA h w g MP cl MN t r z s ms
def oM(K:Frag)(c:QZ)(d:Q0):Sp:=#[3,∃ P L G A h w g MP cl MN t r z s,vs=[.ref P,.ref A,.str (tx (tkC t)),.int r,.int z,.int s]/\Lk H c d P L G A h w g MP cl MN/\formB h w g MP t r z s=true/\
 (faF h w g MP cl MN t r z s=none->∀ H',Same H H'->Q .non H')/\(∀(ms:∅) (T M:Addr) (H':Hp),faF h w g MP cl MN t r z s=some ms->Same H H'->H T=none->H M=none->IsTh H' T M t r z s ms->Q (.ref T) H')]
def oN(K:Frag)(c:QZ)(d:Q0):TS:=#[":gKtb,{?bira0a1a2a3a4a5dh#6 gmXa2a3a4a5a6dh#7 nA,{[bira0a1a7dj7oje~u"]
theorem BG(h:oM K c d vs H Q E):oN K c d (eD9 Q) (start ["puzzle","masks","kind","number","cell","sign","more","thought"] vs) H:=by
 obtain⟨P,L,G,A,h,w,g,MP,cl,MN,t,r,z,s,rfl,X,f,W,S⟩:=h;exists oN;refine⟨P,L,G,A,h,w,g,MP,cl,MN,t,r,z,s,rfl,X,f,λl as H1 s1 hl fr Y=>?_⟩;have al:=Y.len;have ml:=IO (h:=h) (w:=w) (g:=g) (MP:=MP) (MN:=MN) (t:=t) (r:=r) (z:=z) (s:=s);unfold faF at W S;generalize mtF h w g MP MN t r z s=MU at*;refine⟨l,rfl,⟨_,Nm Y.top⟩,?_⟩;refine bz (K:=K) (xs:=as.map V.ref) (λi σ H'=>∃(B I:Option V),σ=[↑P,↑A,some (.str (tx (tkC t))),⇑r,⇑z,⇑s,B,I]/\Same H1 H'/\∀ ms∈MU.take i,strA h w g MP cl MN t r z s ms=false) ⟨none,none,rfl,M5 H1,λms F=>by cases F⟩ (λi σ H' _ ⟨_,_,_,s,_⟩=>Nm (s _ _ Y.top)) ?_ ?_
 . rintro i v σ k hv ⟨B,I,rfl,o,a⟩;obtain⟨b,x,rfl⟩:=b5 hv;have hi:i<as.length:=(M6.mp x).1;have O:MU[i]? =some MU[i]:=M0 #[4];have M:=o _ _ (Y.at_ i b _ x O);have xl:=ml _ (NB (show i<MU.length by lia));have Z:MU.take (i+1)=MU.take i++[MU[i]]:=by rw[Oq,O];rfl
   have e:strA h w g MP cl MN t r z s MU[i]=true->MU.find? (λms=>strA h w g MP cl MN t r z s ms)=some MU[i]:=λht=>by
    rw[PC];refine⟨ht,i,by lia,rfl,λj hj=>?_⟩;have:=a MU[j] (by rw[List.mem_take_iff_getElem];exact⟨j,by lia,rfl⟩);rw[this];rfl
   generalize MU[i]=ms at*;have J:=fr b (M8 x);exists⟨lnR rfl,λT U=>?_⟩;have D:Same k (upd k T (.tup [V.str (tx (tkC t)),V.int r,V.int z,V.int s,V.ref b])):=(M5 k).laid U;have N:IsTh (upd k T (.tup [V.str (tx (tkC t)),V.int r,V.int z,V.int s,V.ref b])) T b t r z s ms:=⟨ah,D _ _ M,by lia⟩;generalize upd k T (.tup [V.str (tx (tkC t)),V.int r,V.int z,V.int s,V.ref b])=H3 at*;have p:=s1.trans o;have u:=p.trans D;have R:=X.same u;rw[aD];exists⟨P,L,G,A,T,b,h,w,g,MP,cl,MN,t,r,z,s,ms,rfl,⟨R.P,N,R.A,X.n⟩,X.m64,f,λH4 C=>?_⟩
   cases q:strA h w g MP cl MN t r z s ms with
   | true=>
    refine⟨true,rfl,iteT ?_⟩;exists S ms T b H4 (e q) (u.trans C) (p.free U) J (N.same C)
   | false=>
    refine⟨false,rfl,iteF ?_⟩;refine⟨_,_,rfl,(o.trans D).trans C,λy m=>?_⟩;rw[Z]at m;rcases Ny.mp m with m | m
    . exact a y m
    . rw[Nd.mp m];exact q
 . rintro σ k ⟨B,I,rfl,o,a⟩;rw[MZ,al,N6]at a;exists W (List.find?_eq_none.mpr λms F=>by rw[a ms F];exact Nc) k (s1.trans o)
def rnF(MP:List RR)(t:TK):∅:=if t=.clue then [0] else((List.range MP.length).filter λi=>goesB t ((MP[i]?.map RR.k).getD .Rule)).map λ(i:Nat)=>(i:Int)
def jZ(K:Frag)(c:QZ)(d:Q0):Sp:=#[3,∃ P L G h w g MP cl t,vs=[.ref P,.str (tx (tkC t))]/\IsPz H c d P L G h w g MP cl/\∀ l H',Same H H'->H l=none->H' l=↥((rnF MP t).map V.int)->Q (.ref l) H']
def j2(K:Frag)(c:QZ)(d:Q0):TS:=#[":gnlcqb1evw`0jsaef#0 doju&---1 ~:baxrU~e~fbir0dd~Ab#2 -h#1 -h#2 ~BA,{]bia3a2d1",s!"clue"]
theorem wd(h:jZ K c d vs H Q E):j2 K c d (eD9 Q) (start ["puzzle","kind"] vs) H:=by
 obtain⟨P,L,G,h,w,g,MP,cl,t,rfl,X,q⟩:=h;obtain⟨F,D,rs,h1,h2,h3⟩:=X.ex;have J:=X.R.n;ac_nf;unfold j2;rw[aG,aD];symm;rw[bA,xv];unfold rnF at q;by_cases e:t=.clue
 . rw[NA e]at q;rw[M3 e];exists⟨lnR rfl,λl m=>q l _ ((M5 H).laid m) m ah⟩
 . rw[Nt e]at q;rw[M2 e];symm
   first
   | refine methE (k:=.Puzzle) rfl X.ok h1 (by rfl) ?_
   | (rw[aH];exists methE (k:=.Puzzle) rfl X.ok h1 (by rfl) ?_)
   exists⟨P,L,G,h,w,g,MP,cl,rfl,X,λl B a m v Y=>?_⟩;have s:Same H (upd H l (.lst (a.map V.ref))):=(M5 H).laid m;generalize upd H l (.lst (a.map V.ref))=H1 at*;have A:=Y.len;exists⟨l,rfl,⟨_,Nm Y.top⟩,?_⟩;refine qe (xs:=a.map V.ref) (λi=>goesB t ((MP[i]?.map RR.k).getD .Rule)) (λi=>.int (i:Int)) (by rw[MZ];lia) #[1] (Nm Y.top) ?_ ?_ ?_
   . intro i x f R p o k3;obtain⟨b,j,rfl⟩:=b5 p;have I:i<a.length:=(M6.mp j).1;have u:MP[i]? =some MP[i]:=M0 #[4];have C:=(Y.at_ i b _ j u).same o;rw[u]at k3;show tB _ [none,⇑(i:Int),↑b,some (.str (tx (tkC t)))] f R;exists⟨t,MP[i].k,b,B,_,_,_,_,rfl,e,C,_,rfl,k3 _ (M5 _)⟩
   . intro i x f y p j o k3;obtain⟨b,j,rfl⟩:=b5 p;show tVar 1 [none,⇑(i:Int),↑b,some (.str (tx (tkC t)))] f y;exists k3 _ (M5 _)
   . intro T f z o r;rw[MZ,A]at r;refine q T f (s.trans o) (s.free z) ?_;rw[r,NH];rfl
def celF(h w:Int)(MP:List RR)(t:TK)(r:Int):∅:=if t=.clue then rngL 0 (h*w) else match MP[r.toNat]? with
 | none=>[]
 | some x=>srtI x.cs
def j3(K:Frag)(c:QZ)(d:Q0):Sp:=#[3,∃ P L G h w g MP cl t r,vs=[.ref P,.str (tx (tkC t)),.int r]/\IsPz H c d P L G h w g MP cl/\(t≠.clue->0<=r/\r<MP.length)/\∀ l H',Same H H'->H l=none->H' l=↥((celF h w MP t r).map V.int)->Q (.ref l) H']
def j4(K:Frag)(c:QZ)(d:Q0):TS:=#[":gnlcqb1evw`0j~Va,~jbaxrU~P~Qbir0dddojp~OaxiC~m~nbickxrU~e~fbir0d2dd",s!"clue"]
theorem we(h:j3 K c d vs H Q E):j4 K c d (eD9 Q) (start ["puzzle","kind","number"] vs) H:=by
 obtain⟨P,L,G,h,w,g,MP,cl,t,r,rfl,X,A,q⟩:=h;obtain⟨dx,p0,rs,h1,h2,h3⟩:=X.ex;have F:=X.R.F;have T:=F.m;have v:0<=h*w:=Pb (by have:=F.h0;lia) (by have:=F.w0;lia);ac_nf;unfold j4;rw[aG,aD];symm;rw[bA,xv];unfold celF at q;by_cases f:t=.clue
 . rw[NA f]at q;rw[M3 f];exists methE (k:=.Puzzle) rfl X.ok h1 (by rfl) ?_;exists⟨P,L,G,h,w,g,MP,cl,rfl,X,λp M=>?_⟩;exists⟨p,h,w,g,rfl,M,F.h0,F.h1,?_⟩;exact⟨h*w,rfl,by lia,by lia,λl i=>q l _ ((M5 H).laid i) i ah⟩
 . obtain⟨r0,r1⟩:=A f;have j:MP[r.toNat]? =some MP[r.toNat]:=M0 #[4];rw[Nt f,j]at q;have O:=X.R.ok _ (M8 j);have yl:=RR.len26 O F;rw[M2 f];symm
   first
   | refine methE (k:=.Puzzle) rfl X.ok h1 (by rfl) ?_
   | (rw[aH];exists methE (k:=.Puzzle) rfl X.ok h1 (by rfl) ?_)
   exists⟨P,L,G,h,w,g,MP,cl,rfl,X,λl S a i z Y=>?_⟩;have s:Same H (upd H l (.lst (a.map V.ref))):=(M5 H).laid i;generalize upd H l (.lst (a.map V.ref))=H1 at*;have MW:=Y.len;have x:a[r.toNat]? =some a[r.toNat]:=M0 #[4];have y:=Y.at_ _ _ _ x j;generalize a[r.toNat]=b at*;obtain⟨N,Z,Cy,J,y2,W⟩:=y.ex;dsimp only;refine ixL Y.top (iK r0 x) ?_;refine⟨b,MP[r.toNat].k,N,_,rfl,y.ok,J,by rfl,?_⟩;exists⟨b,S,_,_,_,_,rfl,y,λl2 n=>?_⟩;obtain⟨U,B,u,C⟩:=aW (.lst (MP[r.toNat].cs.map V.int)) n;rw[B];refine AA C #[4] λI e=>?_;have D:=(s.trans u).trans ((M5 U).laid (o:=.lst ((srtI MP[r.toNat].cs).map V.int)) e);exact q I _ D ((s.trans u).free e) ah
structure IsBk(H:Hp)(l:Addr)(bs Ms:List Addr)(MV:List Tho):Prop where
 top:H l=↥(bs.map V.ref)
 len:bs.length=MV.length
 lnM:Ms.length=MV.length
 nl:l∉Ms
 at_:∀(i:Nat) (b M:Addr) (th:Tho),bs[i]? =some b->Ms[i]? =some M->MV[i]? =some th->IsTh H b M th.t th.r th.z th.s th.ms
variable{l:Addr}{Ms:List Addr}{MV:List Tho}
def IsBk.same{bs:List Addr}(x:IsBk H l bs Ms MV)(s:Same H H'):IsBk H' l bs Ms MV:=⟨s _ _ x.top,x.len,x.lnM,x.nl,λi b M a h1 h2 h3=>(x.at_ i b M a h1 h2 h3).same s⟩
def IsBk.nil(h:H l=some (.lst [])):IsBk H l [] [] []:=⟨h,rfl,rfl,by simp,λi b M a e _ _=>by simp at e⟩
theorem IsBk.app{T M:Addr}{bs:List Addr}{th:Tho}(x:IsBk H l bs Ms MV)(s:Same H H')(y:IsTh H' T M th.t th.r th.z th.s th.ms)(d:M≠l):IsBk (upd H' l (.lst (bs.map V.ref++[V.ref T]))) l (bs++[T]) (Ms++[M]) (MV++[th]):=by
 have e:=s _ _ x.top;have f:∀{b N:Addr} {t:Tho},IsTh H' b N t.t t.r t.z t.s t.ms->N≠l->IsTh (upd H' l (.lst (bs.map V.ref++[V.ref T]))) b N t.t t.r t.z t.s t.ms:=λz h=>⟨by rw[aj (λc=>by have:=z.T;rw[c,e]at this;cases this)];exact z.T,by rw[aj h];exact z.M,z.n⟩;have k:=x.len;have g:=x.lnM;refine⟨by rw[ah];simp,by simp[k],by simp[g],λa=>?_,λi b N t h1 h2 h3=>?_⟩
 . rcases Ny.mp a with a | a
   . exact x.nl a
   . exact d (Nd.mp a).symm
 . by_cases m:i<MV.length
   . rw[NO #[4]]at h1;rw[NO #[4]]at h2;rw[NO m]at h3;exact f ((x.at_ i b N t h1 h2 h3).same s) λc=>x.nl (by rw[← c];exact M8 h2)
   . rw[NW #[4]]at h1 h2 h3;have j:i-MV.length=0:=by have:=(M6.mp h3).1;simp at this;lia
     rw[j]at h3;rw[show i-bs.length=0 by lia]at h1;rw[show i-Ms.length=0 by lia]at h2;cases h1;cases h2;cases h3;exact f y d
def BkP(Q:VK)(H:Hp)(MV:List Tho):Prop:=∀(l:Addr) (a Ms:List Addr) (H':Hp),Same H H'->H l=none->(∀ b∈a,H b=none)->(∀ M∈Ms,H M=none)->IsBk H' l a Ms MV->Q (.ref l) H'
def BkP.of(q:BkP Q H MV)(s:Same H H1):BkP Q H1 MV:=λl a Ms H' f d e c x=>q l a Ms H' (s.trans f) (s.free d) (λb h=>s.free (e b h)) (λb h=>s.free (c b h)) x
structure MkP(g:Int)(n:Nat)(ms:∅):Prop where
 len:ms.length=n
 mm:∀ m∈ms,0<=m/\m<2^g.toNat
theorem Hi:((List.range 64).all λm=>(List.range 6).all λs=>decide (0<=woI (m:Int) (1+(s:Int))/\woI (m:Int) (1+(s:Int))<=m)&&((List.range 6).all λx=>decide (x=s)||decide (stB (woI (m:Int) (1+(s:Int))) (1+(x:Int))=stB (m:Int) (1+(x:Int))))&&(!stB (m:Int) (1+(s:Int))||decide ((sgL (woI (m:Int) (1+(s:Int)))).length+1=(sgL (m:Int)).length)))=true:=by decide+kernel
theorem wg{m:Int}(e:0<=m)(c:m<64)(s0:1<=s)(b:s<=6):(0<=woI m s/\woI m s<=m)/\(∀ x,1<=x->x<=6->x≠s->stB (woI m s) x=stB m x)/\(stB m s=true->(sgL (woI m s)).length+1=(sgL m).length):=by
 have t:=Na.mp (Na.mp Hi m.toNat (Nj.mpr #[4])) (s-1).toNat (Nj.mpr #[4]);rw[show((m.toNat:Nat):Int)=m by lia,show 1+(((s-1).toNat:Nat):Int)=s by lia,M9,M9]at t;refine⟨Nb t.1.1,λx g f d=>?_,λa=>?_⟩
 . have:=Na.mp t.1.2 (x-1).toNat (Nj.mpr #[4]);rw[show 1+(((x-1).toNat:Nat):Int)=x by lia,M2 #[4],Of]at this;exact Nb this
 . have:=t.2;rw[a,OV,Of]at this;exact Nb this
theorem Hj:((List.range 7).all λg=>(List.range 64).all λm=>!decide ((m:Int)<2^g)||(sgL (m:Int)).all λx=>decide (1<=x/\x<=(g:Int)))=true:=by decide+kernel
theorem EW{m:Int}(d:1<=g)(b:g<=6)(e:0<=m)(a:m<2^g.toNat)(c:x∈sgL m):1<=x/\x<=g:=by
 have p:=jW d b;have t:=Na.mp (Na.mp Hj g.toNat (Nj.mpr #[4])) m.toNat (Nj.mpr #[4]);rw[show((m.toNat:Nat):Int)=m by lia,M3 a,OV,Of]at t;have:=Nb (Na.mp t x c);lia
variable{ms:∅}
theorem AD{k:Nat}(a:k<ms.length):(stL ms z s).getD k 0=if (k:Int)=z then woI (ms.getD k 0) s else ms.getD k 0:=by
 unfold stL;rw[List.getD,M7,N8 a];rfl
theorem Hk:(stL ms z s).length=ms.length:=by unfold stL;rw[MZ,Og]
theorem f8{k:Nat}(a:k<ms.length):ms.getD k 0∈ms:=by rw[List.getD,M0 a];exact NB _
variable{n:Nat}
theorem MkP.stL(X:MkP g n ms)(f:1<=g)(d:g<=6)(s0:1<=s)(c:s<=6):MkP g n (stL ms z s):=by
 have p:=jW f d;refine⟨by rw[Hk];exact X.len,λm a=>?_⟩;unfold L2.stL at a;obtain⟨i,e,rfl⟩:=Nl.mp a;have b:=X.mm _ (f8 (Nj.mp e))
 split
 . have:=(wg (s:=s) b.1 #[4] s0 c).1;lia
 . exact b
def Lk.mkp(x:Lk H c d P L G A h w g MP cl MN):MkP g (h*w).toNat MN:=⟨x.n,x.mm⟩
def RuOk(MP:List RR)(t:TK)(r:Int):Prop:=(t=.clue->r=0)/\(t≠.clue->0<=r/\∃ x,MP[r.toNat]? =some x/\goesB t x.k=true)
theorem Gw(h:r∈rnF MP t):RuOk MP t r:=by
 unfold rnF at h;by_cases a:t=.clue
 . rw[NA a]at h;exact⟨λ_=>Nd.mp h,λn=>absurd a n⟩
 . rw[Nt a]at h;obtain⟨i,b,rfl⟩:=Nl.mp h;obtain⟨b,c⟩:=Nf.mp b;have d:=Nj.mp b;have e:MP[i]? =some MP[i]:=M0 d;refine⟨λn=>absurd n a,λ_=>⟨by lia,MP[i],by rw[N1];exact e,?_⟩⟩;rw[e]at c;exact c
theorem AE(R:iw c h w g MP)(i:RuOk MP t r)(e:z∈celF h w MP t r)(s0:1<=s)(s1:s<=g):formB h w g MP t r z s=true:=by
 have a:(0<=z/\z<h*w)/\hitB t MP r z=true:=by
  unfold celF at e;unfold hitB;by_cases b:t=.clue
  . rw[NA b]at e;rw[i.1 b,Nt #[1],NA b];exact⟨o0 e,rfl⟩
  . obtain⟨r0,x,f,j⟩:=i.2 b;rw[Nt b,f]at e;have d:=srt_mem.mp e;have k:=(Qa (R.ok x (M8 f)) R.F).2 z d;rw[Nt #[4],Nt b,f];refine⟨by lia,?_⟩;dsimp only;rw[j,M3 d];rfl
 unfold formB;rw[M3 a.1.1,M3 a.1.2,M3 s0,M3 s1,a.2];rfl
noncomputable def fbS (h w g:Int) (MP:List RR) (cl:∅) (t:TK) (r z:Int) (nb:∅ × List Tho) (s:Int):∅ × List Tho:=match faF h w g MP cl nb.1 t r z s with
 | none=>nb
 | some ms=>(stL nb.1 z s,nb.2++[⟨t,r,z,s,ms⟩])
noncomputable def fbC (h w g:Int) (MP:List RR) (cl:∅) (t:TK) (r:Int) (nb:∅ × List Tho) (z:Int):∅ × List Tho:=(sgL (nb.1.getD z.toNat 0)).foldl (fbS h w g MP cl t r z) nb
noncomputable def fbL (h w g:Int) (MP:List RR) (cl:∅) (t:TK) (r:Int):∅->∅ × List Tho->List Tho
 | [],nb=>nb.2
 | z::zs,nb=>if 0∈(fbC h w g MP cl t r nb z).1 then(fbC h w g MP cl t r nb z).2 else fbL h w g MP cl t r zs (fbC h w g MP cl t r nb z)
noncomputable def fbF (h w g:Int) (MP:List RR) (cl MN:∅) (t:TK) (r:Int):List Tho:=fbL h w g MP cl t r (celF h w MP t r) (MN,[])
variable{nb:∅ × List Tho}
theorem IP(X:MkP g n nb.1)(c:1<=g)(b:g<=6)(s0:1<=s)(a:s<=6):MkP g n (fbS h w g MP cl t r z nb s).1:=by
 unfold fbS
 split
 . exact X
 . exact X.stL c b s0 a
def i8(K:Frag)(c:QZ)(d:Q0):Sp:=#[3,∃ P L G A h w g MP cl MN t r,vs=[.ref P,.ref A,.str (tx (tkC t)),.int r]/\Lk H c d P L G A h w g MP cl MN/\RuOk MP t r/\BkP Q H (fbF h w g MP cl MN t r)]
def fbin(K:Frag)(c:QZ)(d:Q0):TS:=#[":Ktb,]back46dh#7 gm,{^bira0a4a2a3a6a7dh#8 nlc}a8e~ugNDbER5a8dm,'nba4a6a7dh#4 o"]
def i9(K:Frag)(c:QZ)(d:Q0):TS:=#[":gmp~aa1dh#4 gmsdh#5 gKtb,}bbira0a2a3dh#6 g}cbirnA,~Lba4dj5oj5"]
structure Fb(H0 H:Hp)(c:QZ)(d:Q0)(P L G N B:Addr)(bs Ms:List Addr)(h w g:Int)(MP:List RR)(cl:∅)(nb:∅ × List Tho):Prop where
 sm:Same H0 H
 pz:IsPz H0 c d P L G h w g MP cl
 nw:H N=↥(nb.1.map V.int)
 mp:MkP g (h*w).toNat nb.1
 bk:IsBk H B bs Ms nb.2
 nB:N≠B
 fB:H0 B=none
 fb:∀ b∈bs,H0 b=none
 fM:∀ M∈Ms,H0 M=none
variable{H0:Hp}
def Fb.same{N B:Addr}{bs:List Addr}(X:Fb H0 H c d P L G N B bs Ms h w g MP cl nb)(t:Same H H'):Fb H0 H' c d P L G N B bs Ms h w g MP cl nb:=⟨X.sm.trans t,X.pz,t _ _ X.nw,X.mp,X.bk.same t,X.nB,X.fB,X.fb,X.fM⟩
def Fb.lk{N B:Addr}{bs:List Addr}(X:Fb H0 H c d P L G N B bs Ms h w g MP cl nb):Lk H c d P L G N h w g MP cl nb.1:=⟨X.pz.same X.sm,X.nw,X.mp.len,X.mp.mm⟩
theorem EX{α:Type}{f:α->Int->α}{x:α}{a:∅}{i:Nat}(e:a[i]? =some s):(a.take (i+1)).foldl f x=f ((a.take i).foldl f x) s:=by
 rw[Oq,e,O6];rfl
theorem Hl:(fbS h w g MP cl t r z nb s).2.length<=nb.2.length+1:=by
 unfold fbS
 split
 . lia
 . simp
theorem AF{m:Int}(a:0<=m)(b:m<64):(sgL m).length<=6:=by
 have t:=Nb (Na.mp Ay m.toNat (Nj.mpr #[4]));rw[show((m.toNat:Nat):Int)=m by lia]at t;unfold sgL;rw[MZ];refine Nk (Np _ _) ?_;rw[Og];exact t
variable{D:Ends}
theorem FX {N B:Addr} {bs:List Addr} {x y:Option V} (X:Fb H0 H c d P L G N B bs Ms h w g MP cl nb) (ok:RuOk MP t r) (hz:z∈celF h w MP t r) (bl:nb.2.length<=800) {C:Addr} {cs:∅} (eC:H C=↥(cs.map V.int)) (ab:C≠B)
  (k:∀(n:Addr) (a j:List Addr) (x y:Option V) (H':Hp),Fb H0 H' c d P L G n B a j h w g MP cl (fbC h w g MP cl t r nb z)->H' C=↥(cs.map V.int)->(fbC h w g MP cl t r nb z).2.length<=nb.2.length+6->D.nx [↑P,↑A,some (.str (tx (tkC t))),⇑r,↑n,↑B,⇑z,x,y] H'):
  fbin K c d D [↑P,↑A,some (.str (tx (tkC t))),⇑r,↑N,↑B,⇑z,x,y] H:=by
 have U:=X.pz.R.F.g0;have g6:=X.pz.R.F.g1;have ae:=jW U g6;have zf:=fK (AE (s:=1) X.pz.R ok hz #[1] U);have nl:=X.mp.len;have W:=X.mp.mm _ (f8 (k:=z.toNat) (ms:=nb.1) #[4]);have sb:∀ s∈sgL (nb.1.getD z.toNat 0),1<=s/\s<=g:=λs Q=>EW U g6 W.1 W.2 Q;have af:=AF W.1 #[4];unfold fbin;exists ixI X.nw zf.1 #[4] ?_;symm;unfold fbC at k;refine⟨_,rfl,bitsA W.1 #[4],λS H1 s1 hS eS=>?_⟩;generalize sgL (nb.1.getD z.toNat 0)=ss at*;refine⟨S,rfl,⟨_,Nm eS⟩,?_⟩
 refine bz (K:=K) (xs:=ss.map V.int) (λi σ H'=>∃(n:Addr) (a j:List Addr) (x y:Option V),σ=[↑P,↑A,some (.str (tx (tkC t))),⇑r,↑n,↑B,⇑z,x,y]/\Fb H0 H' c d P L G n B a j h w g MP cl ((ss.take i).foldl (fbS h w g MP cl t r z) nb)/\H' S=↥(ss.map V.int)/\H' C=↥(cs.map V.int)/\((ss.take i).foldl (fbS h w g MP cl t r z) nb).2.length<=nb.2.length+i)
  ⟨N,bs,Ms,_,_,rfl,X.same s1,eS,s1 _ _ eC,Nr _⟩ (λi σ H' _ ⟨_,_,_,_,_,_,_,e,_⟩=>Nm e) ?_ ?_
 . rintro i v σ H2 hv ⟨n,a,j,x,y,rfl,l,I,q,l2⟩;obtain⟨s,Q,rfl⟩:=aN hv;have hi:i<ss.length:=(M6.mp Q).1;have sm:=sb s (M8 Q);rw[EX Q];generalize (ss.take i).foldl (fbS h w g MP cl t r z) nb=n2 at*;have f:=AE (s:=s) X.pz.R ok hz sm.1 sm.2;have l3:=Hl (h:=h) (w:=w) (g:=g) (MP:=MP) (cl:=cl) (t:=t) (r:=r) (z:=z) (s:=s) (nb:=n2);have o3:=IP (h:=h) (w:=w) (MP:=MP) (cl:=cl) (t:=t) (r:=r) (z:=z) l.mp U g6 sm.1 #[4];exists⟨P,L,G,n,h,w,g,MP,cl,n2.1,t,r,z,s,rfl,l.lk,f,λe J u=>?_,λms T M J e u hT hM Th=>?_⟩
   . have e2:fbS h w g MP cl t r z n2 s=n2:=by unfold fbS;rw[e]
     rw[e2];symm;rw[aD];exists⟨n,a,j,_,_,rfl,l.same u,u _ _ I,u _ _ q,by lia⟩
   . have e2:fbS h w g MP cl t r z n2 s=(stL n2.1 z s,n2.2++[⟨t,r,z,s,ms⟩]):=by unfold fbS;rw[e]
     rw[e2]at l3 o3;rw[e2];have Y:=l.same u;have aa:M≠B:=λE=>by rw[E,l.bk.top]at hM;cases hM
     have b2:=l.bk.len;have ac:S≠B:=λE=>by rw[E,X.bk.top]at hS;cases hS
     symm;rw[aD];symm;rw[M2 (λE=>by cases E)];exists⟨aZ Y.bk.top,?_⟩;rw[cy Y.bk.top];refine⟨by rw[MZ];exact aC #[4],?_⟩;have Bk:=l.bk.app (th:=⟨t,r,z,s,ms⟩) u Th aa;have s4:=Y.sm.own (o:=.lst (a.map V.ref++[V.ref T])) X.fB;have n4:(upd J B (.lst (a.map V.ref++[V.ref T]))) n=↥(n2.1.map V.int):=by rw[aj l.nB];exact Y.nw
     have S4:(upd J B (.lst (a.map V.ref++[V.ref T]))) S=↥(ss.map V.int):=by rw[aj ac];exact u _ _ I
     have C4:(upd J B (.lst (a.map V.ref++[V.ref T]))) C=↥(cs.map V.int):=by rw[aj ab];exact u _ _ q
     generalize upd J B (.lst (a.map V.ref++[V.ref T]))=H4 at*;exists⟨n,n2.1,z,s,rfl,n4,by have:=l.mp.len;have:=X.pz.R.F.m;lia,by lia,λN3 H5 Z O ad=>?_⟩;refine⟨N3,a++[T],j++[M],_,_,rfl,⟨s4.trans Z,X.pz,ad,o3,Bk.same Z,λE=>?_,X.fB,λb p=>?_,λb p=>?_⟩,Z _ _ S4,Z _ _ C4,Nk l3 #[4]⟩
     . rw[E,Bk.top]at O;cases O
     . rcases Ny.mp p with p | p
       . exact l.fb b p
       . rw[Nd.mp p];exact l.sm.free hT
     . rcases Ny.mp p with p | p
       . exact l.fM b p
       . rw[Nd.mp p];exact l.sm.free hM
 . rintro σ H2 ⟨n,a,j,x,y,rfl,l,I,q,l2⟩;rw[MZ,N6]at l l2;exact k n a j x y H2 l q #[4]
theorem Hm(R:iw c h w g MP):(celF h w MP t r).length<=60:=by
 have:=R.F.m;unfold celF
 split
 . rw[gL];lia
 . split
   . simp
   . rename_i x e
     rw[tD];exact RR.len26 (R.ok x (M8 e)) R.F
theorem uQ(h:i8 K c d vs H Q E):i9 K c d (eD9 Q) (start ["puzzle","masks","kind","number","now","book","cell","sign","thought"] vs) H:=by
 obtain⟨P,L,G,A,h,w,g,MP,cl,MN,t,r,rfl,X,ok,q⟩:=h;ac_nf;have aa:=Hm (t:=t) (r:=r) X.P.R;unfold i9;exists mr X.A λN hN=>?_;obtain⟨H1,z9,s1,U⟩:=aW (.lst (MN.map V.int)) hN;rw[z9];exists⟨aP #[1],λB I=>?_⟩;have Z:Same H1 (upd H1 B (.lst [])):=(M5 H1).laid I;have eB:(upd H1 B (.lst [])) B=some (.lst []):=ah;have S:N≠B:=λe=>by rw[e]at U;rw[U]at I;cases I
 generalize upd H1 B (.lst [])=H2 at*;have n:=s1.trans Z;have X0:Fb H H2 c d P L G N B [] [] h w g MP cl (MN,[]):=⟨n,X.P,Z _ _ U,X.mkp,IsBk.nil eB,S,s1.free I,(λb J=>by cases J),(λb J=>by cases J)⟩;refine⟨P,L,G,h,w,g,MP,cl,t,r,rfl,X.P.same n,λhc=>?_,λC H3 s3 Y eC=>?_⟩
 . obtain⟨r0,x,ex,_⟩:=ok.2 hc;have:=(M6.mp ex).1;lia
 . have T:C≠B:=λe=>by rw[e,eB]at Y;cases Y
   unfold fbF at q;have ab:∀ z∈celF h w MP t r,z∈celF h w MP t r:=λz u=>u;generalize W:celF h w MP t r=cs at*;refine⟨C,rfl,⟨_,Nm eC⟩,?_⟩
   refine bz (K:=K) (xs:=cs.map V.int) (λi σ H'=>∃(F:Addr) (a j:List Addr) (O y D:Option V) (nb:∅ × List Tho),σ=[↑P,↑A,some (.str (tx (tkC t))),⇑r,↑F,↑B,O,y,D]/\Fb H H' c d P L G F B a j h w g MP cl nb/\H' C=↥(cs.map V.int)/\fbL h w g MP cl t r cs (MN,[])=fbL h w g MP cl t r (cs.drop i) nb/\nb.2.length<=6*i)
    ⟨N,[],[],none,none,none,(MN,[]),rfl,X0.same s3,eC,rfl,Nr _⟩ (λi σ H' _ ⟨_,_,_,_,_,_,_,_,_,e,_⟩=>Nm e) ?_ ?_
   . rintro i v σ H4 hv ⟨F,a,j,O,y,D,nb,rfl,k,p,m,bl⟩;obtain⟨z,u,rfl⟩:=aN hv;have hi:i<cs.length:=(M6.mp u).1;have zm:z∈celF h w MP t r:=by rw[W];exact M8 u
     have ed:cs.drop i=z::cs.drop (i+1):=by
      rw[OC hi]
      congr 1
      exact(M6.mp u).2
     rw[ed]at m;exists FX k ok zm #[4] p T λN3 o s y D H5 l M l5=>?_;have f:fbL h w g MP cl t r cs (MN,[])=if 0∈(fbC h w g MP cl t r nb z).1 then(fbC h w g MP cl t r nb z).2 else fbL h w g MP cl t r (cs.drop (i+1)) (fbC h w g MP cl t r nb z):=m;generalize fbC h w g MP cl t r nb z=n5 at*;symm;rw[aD];exists⟨N3,n5.1,rfl,l.nw,?_⟩;by_cases h0:(0:Int)∈n5.1
     . rw[NA h0]at f;rw[M3 h0];refine⟨true,rfl,iteT ?_⟩;symm;rw[f]at q;exact q B o s H5 l.sm l.fB l.fb l.fM l.bk
     . rw[Nt h0]at f;rw[M2 h0];refine⟨false,rfl,iteF ?_⟩;exact⟨N3,o,s,_,_,_,n5,rfl,l,M,f,by lia⟩
   . rintro σ H4 ⟨F,a,j,O,y,D,nb,rfl,k,p,m,bl⟩;rw[MZ,PD]at m;symm;rw[m]at q;exact q B a j H4 k.sm k.fB k.fb k.fM k.bk
theorem Same.sqt{xs:List V}(e:Same H H')(h:SqT K H a xs):SqT K H' a xs:=by
 rcases h with (h | ⟨o,h⟩) | h
 . exact .inl (.inl (e _ _ h))
 . exact .inl (.inr ⟨o,e _ _ h⟩)
 . exact .inr h
theorem EY {k:Nat} {q:TT} {te:TE} {g:Addr->Hp->Prop} {d:St} {xs:List Str} (b:Str->Bool) (E:xs.length<=900) (A:SqT K H1 a (xs.map V.str))
  (y:∀ x H R,x∈xs->Same H1 H->(∀ H',Same H H'->R (b x) H')->q (d.set k (some (.str x))) H R)
  (B:∀ x H Q,x∈xs->b x=true->Same H1 H->(∀ H',Same H H'->Q (.str x) H')->te (d.set k (some (.str x))) H Q)
  (w:∀ l H,H1 l=none->Same H1 H->H l=↥((xs.filter b).map V.str)->g l H):CompR (Itt K a) (gName k) q te g d H1:=by
 refine z6 (xs:=xs.map V.str) (λl i σ H=>(σ=d\/∃ t,σ=d.set k t)/\Same H1 H/\H l=↥(((xs.take i).filter b).map V.str)) (λl f=>⟨.inl rfl,(M5 H1).laid f,by rw[ah];rfl⟩) (λl i σ H _ _ p=>p.2.1.sqt A) ?_ (λl σ H f p=>w l H f p.2.1 (by have:=p.2.2;rw[MZ,N6]at this;exact this));rintro l i x σ H f r ⟨v,s1,u⟩;rw[M7]at r;obtain⟨z,j,rfl⟩:=Oy.mp r;have F:i<xs.length:=(M6.mp j).1;have o:xs.take (i+1)=xs.take i++[z]:=by rw[Oq,j];rfl
 rw[aY]
 have e:σ.set k (some (.str z))=d.set k (some (.str z)):=by
  rcases v with rfl | ⟨t,rfl⟩
  . rfl
  . exact OD ..
 rw[e];refine y z H _ (M8 j) s1 λC n=>?_;have h:=n _ _ u;have c:=s1.trans n
 cases m:b z with
 | false=>
  rw[Nt Nc];refine⟨.inr ⟨_,rfl⟩,c,?_⟩;rw[o,NP,NX,m]
  simpa using h
 | true=>
  rw[NA rfl];refine B z C _ (M8 j) m c λD s=>⟨_,s _ _ h,?_,.inr ⟨_,rfl⟩,(c.trans s).own f,?_⟩
  . rw[MZ];exact aC (Nk (Np _ _) (by rw[Oa];lia))
  . rw[ah,o,NP,NX,m];simp
def dBk(th:Tho):PyData:=dTh th.t th.r th.z th.s th.ms
theorem Gx{bs:List Addr}(x:IsBk H l bs Ms MV):DV K H (.ref l) (.list (MV.map dBk)):=by
 have g:=x.len;have f:=x.lnM;refine .lst (Nm x.top) (DVs.of_get (by simp[x.len]) λi y d h1 h2=>?_);obtain⟨a,e,rfl⟩:=b5 h1;rw[M7]at h2;obtain⟨c,b,rfl⟩:=Oy.mp h2;have h:i<MV.length:=(M6.mp b).1;exact Jy (x.at_ i a _ c e (M0 #[4]) b)
theorem Cl(t:TK)(r z s:Int)(ms:∅):PyData.canLay0 (dTh t r z s ms)=true/\PyData.depth (dTh t r z s ms)<=2:=by
 have a:PyData.strOk (tx (tkC t))=true:=Gp (by cases t <;> decide);unfold dTh;simp[PyData.canLay0,PyData.canLayAll0,a,qb,PyData.depth,PyData.depthAll,lW]
theorem nD(MV:List Tho):SeqAt.shaped (.list (MV.map dBk))=true:=by
 have h1:PyData.canLayAll0 (MV.map dBk)=true:=xh λd a=>by obtain⟨x,_,rfl⟩:=Nl.mp a;exact(Cl _ _ _ _ _).1
 have h2:PyData.depthAll (MV.map dBk)<=2:=rH λd a=>by obtain⟨x,_,rfl⟩:=Nl.mp a;exact(Cl _ _ _ _ _).2
 simp[SeqAt.shaped,PyData.canLay0,h1,PyData.depth];lia
theorem Cm(MV:List Tho):PyData.eqv (.list (MV.map dBk)) (.list [])=decide (MV.length=0):=by
 cases MV <;> simp[PyData.eqv,PyData.eqvAll]
theorem IQ{E:Addr}{bs:List Addr}(x:IsBk H l bs Ms MV)(e:H E=some (.lst []))(q:Q (.bl (!decide (MV.length=0))) H):cNe K (.ref l) (.ref E) H Q:=by
 show rNeD K (.ref l) (.ref E) H Q;refine⟨_,.list [],Gx x,.lst (Nm e) .nil,nD MV,nD [],?_⟩;rw[Cm];exact q
theorem IR{E:Addr}{bs:List Addr}(x:IsBk H l bs Ms MV)(e:H E=some (.lst []))(q:Q (.bl (decide (MV.length=0))) H):cEq K (.ref l) (.ref E) H Q:=by
 show rEqD K (.ref l) (.ref E) H Q;refine⟨_,.list [],Gx x,.lst (Nm e) .nil,nD MV,nD [],?_⟩;rw[Cm];exact q
abbrev txk(t:TK):Str:=tx (tkC t)
def allT:List TK:=[.clue,.only,.place,.count,.step,.sum,.square,.reach,.turn,.pair,.ways]
theorem wj:gt_KINDS=allT.map txk:=by decide+kernel
theorem Hn{a b:TK}:decide (txk a=txk b)=decide (a=b):=by cases a <;> cases b <;> decide+kernel
variable{ks:List TK}
theorem Ho:decide (txk t∈ks.map txk)=decide (t∈ks):=by
 rw[ND,M4,M4,Nl];constructor
 . rintro⟨a,c,e⟩;have:=Hn (a:=a) (b:=t);rw[M3 e]at this;exact(Nb this.symm) ▸ c
 . exact λh=>⟨t,h,rfl⟩
noncomputable def ffR (h w g:Int) (MP:List RR) (cl MN:∅) (t:TK):∅->List Tho
 | []=>[]
 | r::rs=>if (fbF h w g MP cl MN t r).length=0 then ffR h w g MP cl MN t rs else fbF h w g MP cl MN t r
noncomputable def ffT (h w g:Int) (MP:List RR) (cl MN:∅):List TK->List Tho
 | []=>[]
 | t::ts=>if (ffR h w g MP cl MN t (rnF MP t)).length=0 then ffT h w g MP cl MN ts else ffR h w g MP cl MN t (rnF MP t)
noncomputable def ffF (h w g:Int) (MP:List RR) (cl MN:∅) (ks:List TK):List Tho:=ffT h w g MP cl MN (allT.filter λt=>decide (t∈ks))
def KdL(H:Hp)(a:Addr)(ks:List TK):Prop:=H a=↥((ks.map txk).map V.str)
def KdK(K:Frag)(H:Hp)(a:Addr)(ks:List TK):Prop:=KdL H a ks\/SqT K H a ((ks.map txk).map V.str)
def KdK.same{b:Addr}(x:KdK K H b ks)(s:Same H H'):KdK K H' b ks:=x.elim (λa=>.inl (s _ _ a)) (λa=>.inr (s.sqt a))
theorem Jz{b:Addr}{x:Str}(h:KdK K H b ks)(q:Q (.bl (decide (x∈ks.map txk))) H):rIn K false (.str x) (.ref b) H Q:=by
 refine⟨b,(ks.map txk).map V.str,rfl,h.elim (λa=>.inl (Nm a)) .inr,rfl,jo _,?_⟩;rw[kt];exact q
def kJ(K:Frag)(c:QZ)(d:Q0):Sp:=#[3,∃ P L G A a h w g MP cl MN ks,vs=[.ref P,.ref A,.ref a]/\Lk H c d P L G A h w g MP cl MN/\KdK K H a ks/\BkP Q H (ffF h w g MP cl MN ks)]
def ffin(K:Frag)(c:QZ)(d:Q0):TS:=#[":Ktb,}dbira0a3dh#4 gm,}ebira0a1a3a4dh#5 nlcFb5sdj5o"]
def kK(K:Frag)(c:QZ)(d:Q0):TS:=#[":gKtbu&--2 ~Tb'ob'ph#1 lc}fbB121h#3 }gbirjsd"]
theorem Hq {j f:Option V} (X:Lk H c d P L G A h w g MP cl MN)
  (k1:(ffR h w g MP cl MN t (rnF MP t)).length=0->∀(j f:Option V) (H':Hp),Same H H'->D.nx [↑P,↑A,v2,some (.str (txk t)),j,f] H')
  (k2:¬ (ffR h w g MP cl MN t (rnF MP t)).length=0->BkP D.rt H (ffR h w g MP cl MN t (rnF MP t))):
  ffin K c d D [↑P,↑A,v2,some (.str (txk t)),j,f] H:=by
 unfold ffin;exists⟨P,L,G,h,w,g,MP,cl,t,rfl,X.P,λR H1 s1 U u=>?_⟩;have p:∀ r∈rnF MP t,RuOk MP t r:=λr m=>Gw m;generalize rnF MP t=rs at*;refine⟨R,rfl,⟨_,Nm u⟩,?_⟩;refine bz (K:=K) (xs:=rs.map V.int) (λi σ H'=>∃(j f:Option V),σ=[↑P,↑A,v2,some (.str (txk t)),j,f]/\Same H1 H'/\ffR h w g MP cl MN t rs=ffR h w g MP cl MN t (rs.drop i)) ⟨_,_,rfl,M5 H1,rfl⟩ (λi σ H' _ ⟨_,_,_,s,_⟩=>Nm (s _ _ u)) ?_ ?_
 . rintro i v σ x N ⟨j,f,rfl,n,k⟩;obtain⟨r,m,rfl⟩:=aN N;have J:i<rs.length:=(M6.mp m).1
   have M:rs.drop i=r::rs.drop (i+1):=by
    rw[OC J]
    congr 1
    exact(M6.mp m).2
   rw[M]at k;have e:ffR h w g MP cl MN t rs=if (fbF h w g MP cl MN t r).length=0 then ffR h w g MP cl MN t (rs.drop (i+1)) else fbF h w g MP cl MN t r:=k;have a:=s1.trans n;exists⟨P,L,G,A,h,w,g,MP,cl,MN,t,r,rfl,X.same a,p r (M8 m),λB O Ms W I T y Q q=>?_⟩;symm;rw[aD];exists⟨aP #[1],λE F=>?_⟩;obtain⟨S,C,o,z⟩:=aW (.lst []) F;rw[C];have l:=I.trans o;refine IQ (q.same o) z ?_;by_cases h0:(fbF h w g MP cl MN t r).length=0
   . rw[NA h0]at e;rw[M3 h0];refine⟨_,rfl,iteF ?_⟩;exact⟨_,_,rfl,n.trans l,e⟩
   . rw[Nt h0]at e;rw[M2 h0];refine⟨_,rfl,iteT ?_⟩;exists k2 (by rw[e];exact h0) B O Ms S (a.trans l) (a.free T) (λb h=>a.free (y b h)) (λb h=>a.free (Q b h)) ?_;rw[e];exact q.same o
 . rintro σ x ⟨j,f,rfl,n,k⟩;rw[MZ,PD]at k;exact k1 (by rw[k];rfl) j f x (s1.trans n)
theorem xG(h:kJ K c d vs H Q E):kK K c d (eD9 Q) (start ["puzzle","masks","kinds","kind","number","found"] vs) H:=by
 obtain⟨P,L,G,A,y,h,w,g,MP,cl,MN,ks,rfl,X,M,q⟩:=h;exists kK;rw[xk,IL];intro p r;refine⟨p,rfl,⟨_,r⟩,?_⟩;rw[wj]at r;refine EY (xs:=allT.map txk) (λx=>decide (x∈ks.map txk)) #[1] r ?_ ?_ ?_
 . intro x H1 R I s1 k1;show tTest _ [none,some (.str x),↑y] H1 R;exists Jz (M.same s1) ⟨_,rfl,k1 _ (M5 _)⟩
 . intro x H1 T I k s1 k1;show tVar 1 [none,some (.str x),↑y] H1 T;exists k1 _ (M5 _)
 . intro S H1 W s1 o
   have e:((allT.map txk).filter λx=>decide (x∈ks.map txk))=(allT.filter λt=>decide (t∈ks)).map txk:=by
    rw[OH];refine congrArg _ (Qj λt _=>?_);exact Ho
   rw[e]at o;unfold ffF at q;generalize (allT.filter λt=>decide (t∈ks))=ts at*;refine⟨S,rfl,⟨_,Nm o⟩,?_⟩;refine bz (K:=K) (xs:=(ts.map txk).map V.str) (λi σ H'=>∃(n m j:Option V),σ=[↑P,↑A,↑y,n,m,j]/\Same H1 H'/\ffT h w g MP cl MN ts=ffT h w g MP cl MN (ts.drop i)) ⟨_,_,_,rfl,M5 H1,rfl⟩ (λi σ H' _ ⟨_,_,_,_,s,_⟩=>Nm (s _ _ o)) ?_ ?_
   . rintro i v σ D C ⟨n,m,j,rfl,l,e⟩;rw[M7,M7]at C;obtain⟨u,F,rfl⟩:=Oy.mp C;obtain⟨t,B,rfl⟩:=Oy.mp F;have N:i<ts.length:=(M6.mp B).1
     have O:ts.drop i=t::ts.drop (i+1):=by
      rw[OC N]
      congr 1
      exact(M6.mp B).2
     rw[O]at e;have a:ffT h w g MP cl MN ts=if (ffR h w g MP cl MN t (rnF MP t)).length=0 then ffT h w g MP cl MN (ts.drop (i+1)) else ffR h w g MP cl MN t (rnF MP t):=e;have f:=s1.trans l;exists Hq (X.same f) (λh0 m j U J=>?_) (λh0=>?_)
     . rw[NA h0]at a;exact⟨_,_,_,rfl,l.trans J,a⟩
     . rw[Nt h0]at a;rw[a]at q;exact q.of f
   . rintro σ D ⟨n,m,j,rfl,l,e⟩;rw[MZ,MZ,PD]at e;rw[e]at q;exists⟨aP #[1],λE z=>?_⟩;exact(q.of (s1.trans l)) E [] [] _ ((M5 D).laid z) z (λb k=>by cases k) (λb k=>by cases k) (IsBk.nil ah)
def OkT(h w g:Int)(MP:List RR)(cl:∅)(ks:List TK)(m:∅)(th:Tho):Prop:=0∉m/\th.t∈ks/\(0<=th.z/\th.z<h*w)/\(1<=th.s/\th.s<=g)/\stB (m.getD th.z.toNat 0) th.s=true/\alwA h w g MP cl m th.t th.r th.z th.s th.ms=true
def Wlk(h w g:Int)(MP:List RR)(cl:∅)(ks:List TK):∅->List Tho->∅->Prop
 | m,[],m'=>m=m'
 | m,th::r,m'=>OkT h w g MP cl ks m th/\Wlk h w g MP cl ks (stL m th.z th.s) r m'
theorem Wlk.trans{h w g:Int}{MP:List RR}{cl:∅}{ks:List TK}:∀{a b:List Tho} {m d c:∅},Wlk h w g MP cl ks m a d->Wlk h w g MP cl ks d b c->Wlk h w g MP cl ks m (a++b) c
 | [],_,_,_,_,h1,h2=>by cases (show _=_ from h1);exact h2
 | _::_,_,_,_,_,h1,h2=>⟨h1.1,Wlk.trans h1.2 h2⟩
variable{m:∅}
def Wlk.snoc{a:List Tho}{b:∅}{th:Tho}(h1:Wlk h w g MP cl ks m a b)(h2:OkT h w g MP cl ks b th):Wlk h w g MP cl ks m (a++[th]) (stL b th.z th.s):=h1.trans ⟨h2,rfl⟩
theorem IS:stB 0 s=false:=by
 unfold stB;rw[show Builtin.Int.intBits 0=0 from rfl]
 cases h1:decide (1<=s) with
 | false=>rfl
 | true=>
  have:=Nb h1;rw[M2 (show ¬ s<=((0:Nat):Int) by lia)];rfl
theorem IT(f:formB h w g MP t r z s=true)(e:faF h w g MP cl MN t r z s=some ms):alwA h w g MP cl MN t r z s ms=true:=by
 unfold alwA;rw[f,Nv];unfold faF at e;exact List.find?_some e
theorem uR{h w g:Int}{MP:List RR}{cl:∅}{ks:List TK}{t:TK}{r z:Int}{n:Nat}{u:∅}(c:1<=g)(d:g<=6)(m:t∈ks)(p:n=(h*w).toNat)(f:∀ s,1<=s->s<=g->formB h w g MP t r z s=true):
  ∀(a:∅) (nb:∅ × List Tho),a.Nodup->(∀ s∈a,(1<=s/\s<=g)/\stB (nb.1.getD z.toNat 0) s=true)->MkP g n nb.1->(∀ k,k<n->(k:Int)≠z->nb.1.getD k 0≠0)->Wlk h w g MP cl ks u nb.2 nb.1->
  Wlk h w g MP cl ks u (a.foldl (fbS h w g MP cl t r z) nb).2 (a.foldl (fbS h w g MP cl t r z) nb).1/\MkP g n (a.foldl (fbS h w g MP cl t r z) nb).1
 | [],nb,_,_,M,_,W=>⟨W,M⟩
 | s::a,nb,nd,hs,M,nz,W=>by
  have A:=jW c d;have h1:=hs s Nh;have v:=fK (f 1 #[1] c);have C:=M.len;have B:=M.mm _ (f8 (k:=z.toNat) (ms:=nb.1) #[4]);rw[NY]at nd;rw[Op]
  have l:(0:Int)∉nb.1:=λh0=>by
   obtain⟨k,j,e⟩:=Ov.mp h0;have q:nb.1.getD k 0=0:=by rw[List.getD,M0 j,e];rfl
   by_cases kz:(k:Int)=z
   . have:z.toNat=k:=by lia
     rw[this,q,IS]at h1;cases h1.2
   . exact nz k #[4] kz q
  have o:=wg (s:=s) B.1 #[4] h1.1.1 #[4]
  cases e:faF h w g MP cl nb.1 t r z s with
  | none=>
   have e2:fbS h w g MP cl t r z nb s=nb:=by unfold fbS;rw[e]
   rw[e2];exact uR c d m p f a nb nd.2 (λx i=>hs x (Ni _ i)) M nz W
  | some ms=>
   have e2:fbS h w g MP cl t r z nb s=(stL nb.1 z s,nb.2++[⟨t,r,z,s,ms⟩]):=by unfold fbS;rw[e]
   rw[e2];refine uR c d m p f a _ nd.2 (λx i=>?_) (M.stL c d h1.1.1 #[4]) (λk j kz=>?_) ?_
   . have b:=hs x (Ni _ i);refine⟨b.1,?_⟩;show stB ((stL nb.1 z s).getD z.toNat 0) x=true;rw[AD #[4],NA #[4],o.2.1 x b.1.1 #[4] (λy=>nd.1 (y ▸ i))];exact b.2
   . show(stL nb.1 z s).getD k 0≠0;rw[AD #[4],Nt kz];exact nz k j kz
   . exact W.snoc (th:=⟨t,r,z,s,ms⟩) ⟨l,m,⟨v.1,v.2.1⟩,h1.1,h1.2,IT (f s h1.1.1 h1.1.2) e⟩
theorem AG{h w g:Int}{MP:List RR}{cl:∅}{ks:List TK}{t:TK}{r:Int}{n:Nat}{p:∅}(a:1<=g)(d:g<=6)(o:t∈ks)(l:n=(h*w).toNat):
  ∀(b:∅) (nb:∅ × List Tho),(∀ z∈b,∀ s,1<=s->s<=g->formB h w g MP t r z s=true)->0∉nb.1->MkP g n nb.1->Wlk h w g MP cl ks p nb.2 nb.1->∃ m',Wlk h w g MP cl ks p (fbL h w g MP cl t r b nb) m'
 | [],nb,_,_,_,W=>⟨_,W⟩
 | z::b,nb,f,h0,M,W=>by
  have y:=fK (f z Nh 1 #[1] a);have v:=M.len;have u:=jW a d;have j:=M.mm _ (f8 (k:=z.toNat) (ms:=nb.1) #[4]);have c:=uR (cl:=cl) a d o l (f z Nh) (sgL (nb.1.getD z.toNat 0)) nb (IK _) (λs m=>⟨EW a d j.1 j.2 m,(tz j.1 s).mp m⟩) M (λk x _ e=>h0 (by rw[← e];exact f8 #[4])) W;unfold fbL
  split
  . exact⟨_,c.1⟩
  . rename_i i
    exact AG a d o l b _ (λz q=>f z (Ni _ q)) i c.2 c.1
theorem AH{c:QZ}{h w g:Int}{MP:List RR}{cl:∅}{ks:List TK}{t:TK}{MN:∅}(R:iw c h w g MP)(a:t∈ks)(M:MkP g (h*w).toNat MN)(h0:0∉MN):∀ rs:∅,(∀ r∈rs,RuOk MP t r)->∃ m',Wlk h w g MP cl ks MN (ffR h w g MP cl MN t rs) m'
 | [],_=>⟨_,rfl⟩
 | r::rs,ok=>by
  unfold ffR
  split
  . exact AH R a M h0 rs λr d=>ok r (Ni _ d)
  . exact AG R.F.g0 R.F.g1 a rfl _ (MN,[]) (λz b s s0 s1=>AE R (ok r Nh) b s0 s1) h0 M rfl
theorem FY(R:iw c h w g MP)(M:MkP g (h*w).toNat MN)(h0:0∉MN):∃ m',Wlk h w g MP cl ks MN (ffF h w g MP cl MN ks) m':=by
 have f:∀ a:List TK,(∀ t∈a,t∈ks)->∃ m',Wlk h w g MP cl ks MN (ffT h w g MP cl MN a) m':=λa=>by
  induction a with
  | nil=>exact λ_=>⟨_,rfl⟩
  | cons t a d=>
   intro b;unfold ffT
   split
   . exact d λt h=>b t (Ni _ h)
   . exact AH R (b t Nh) M h0 _ λr e=>Gw e
 exact f _ λt b=>Nb (Nf.mp b).2
def btA(ms:∅):Nat:=(ms.map λm=>(sgL m).length).sum
theorem AI(f:Int->Nat):∀(ms:∅) (k:Nat) (x:Int),k<ms.length->((ms.set k x).map f).sum+f (ms.getD k 0)=(ms.map f).sum+f x
 | [],_,_,h=>by simp at h
 | m::r,0,x,_=>by simp;lia
 | m::r,k+1,x,h=>by
  have a:=AI f r k x (by simpa using h);simp only[List.set_cons_succ,NK,OM,List.getD_cons_succ];lia
theorem Hr(b:0<=z):stL ms z s=ms.set z.toNat (woI (ms.getD z.toNat 0) s):=by
 refine OA λi=>?_;unfold stL;rw[M7,List.getElem?_set];by_cases a:i<ms.length
 . rw[N8 a];show some (if (i:Int)=z then woI (ms.getD i 0) s else ms.getD i 0)=_;by_cases e:z.toNat=i
   . rw[NA #[4],NA e,NA #[4],e]
   . rw[Nt #[4],Nt e,List.getD,M0 a];rfl
 . rw[NI (by rw[Og];lia)]
   split
   . rw[Nt #[4]];rfl
   . rw[NI #[4]];rfl
theorem OkT.bits{th:Tho}(X:OkT h w g MP cl ks m th)(M:MkP g (h*w).toNat m)(d:1<=g)(c:g<=6):btA (stL m th.z th.s)+1=btA m:=by
 obtain⟨_,_,z,s,f,_⟩:=X;have e:=jW d c;have j:=M.len;have i:=M.mm _ (f8 (k:=th.z.toNat) (ms:=m) #[4]);have a:=(wg (s:=th.s) i.1 #[4] s.1 #[4]).2.2 f;have b:=AI (λm=>(sgL m).length) m th.z.toNat (woI (m.getD th.z.toNat 0) th.s) #[4];unfold btA;rw[Hr z.1]
 try dsimp only at b
 lia
abbrev runA(m:∅)(MV:List Tho):∅:=MV.foldl (λm a=>stL m a.z a.s) m
theorem Wlk.run{h w g:Int}{MP:List RR}{cl:∅}{ks:List TK}:∀{a:List Tho} {m m':∅},Wlk h w g MP cl ks m a m'->m'=runA m a
 | [],_,_,h=>(show _=_ from h).symm
 | th::r,m,m',h=>Wlk.run (a:=r) h.2
theorem Wlk.pre{h w g:Int}{MP:List RR}{cl:∅}{ks:List TK}:∀{a b:List Tho} {m m':∅},Wlk h w g MP cl ks m (a++b) m'->Wlk h w g MP cl ks m a (runA m a)/\Wlk h w g MP cl ks (runA m a) b m'
 | [],_,_,_,h=>⟨rfl,h⟩
 | th::r,b,m,m',h=>⟨⟨h.1,(Wlk.pre (a:=r) h.2).1⟩,(Wlk.pre (a:=r) h.2).2⟩
theorem Wlk.okM{h w g:Int}{MP:List RR}{cl:∅}{ks:List TK}(d:1<=g)(c:g<=6):∀{a:List Tho} {m m':∅},Wlk h w g MP cl ks m a m'->MkP g (h*w).toNat m->MkP g (h*w).toNat m'/\btA m'+a.length=btA m
 | [],_,_,h,M=>by cases (show _=_ from h);exact⟨M,by simp⟩
 | th::r,m,m',h,M=>by
  have s:=h.1.2.2.2.1;have b:=h.1.bits M d c;have:=Wlk.okM d c (a:=r) h.2 (M.stL d c s.1 #[4]);refine⟨this.1,?_⟩;rw[NJ];lia
theorem IU(i:1<=g)(h:g<=6)(M:MkP g n ms)(l:n<=16):btA ms<=96:=by
 have j:=jW i h
 have k:∀ xs:∅,(∀ m∈xs,0<=m/\m<64)->btA xs<=6*xs.length:=λxs=>by
  induction xs with
  | nil=>exact λ_=>Nr _
  | cons x r f=>
   intro e;have a:=f λm d=>e m (Ni _ d);have b:=e x Nh;have c:=AF b.1 b.2;unfold btA at a ⊢;rw[NK,OM,NJ];lia
 have:=k ms λm d=>by have:=M.mm m d;lia
 have:=M.len;lia
inductive Go(h w g:Int)(MP:List RR)(cl:∅)(ks:List TK)(m0:∅):List Tho->∅->Prop
 | nil:Go h w g MP cl ks m0 [] m0
 | step {b:List Tho} {m:∅}:Go h w g MP cl ks m0 b m->0∉m->ffF h w g MP cl m ks≠[]->Go h w g MP cl ks m0 (b++ffF h w g MP cl m ks) (runA m (ffF h w g MP cl m ks))
inductive ThR(h w g:Int)(MP:List RR)(cl:∅)(ks:List TK):∅->List Tho->∅->Prop
 | stop {m:∅}:(0∈m\/ffF h w g MP cl m ks=[])->ThR h w g MP cl ks m [] m
 | go {m:∅} {r:List Tho} {x:∅}:0∉m->ffF h w g MP cl m ks≠[]->ThR h w g MP cl ks (runA m (ffF h w g MP cl m ks)) r x->ThR h w g MP cl ks m (ffF h w g MP cl m ks++r) x
variable{b:List Tho}{m0:∅}
theorem Go.th(a:Go h w g MP cl ks m0 b m):∀{r:List Tho} {x:∅},ThR h w g MP cl ks m r x->ThR h w g MP cl ks m0 (b++r) x:=by
 induction a with
 | nil=>exact λt=>t
 | step a n f c=>
  intro r x t;rw[Om];exact c (.go n f t)
abbrev End(h w g:Int)(MP:List RR)(cl:∅)(ks:List TK)(m:∅):Prop:=0∈m\/ffF h w g MP cl m ks=[]
theorem Go.full(a:Go h w g MP cl ks m0 b m)(e:End h w g MP cl ks m):ThR h w g MP cl ks m0 b m:=by
 have:=a.th (.stop e);rw[O3]at this;exact this
def IsBk.keep{x:Addr}{bs:List Addr}{xs ys:List V}(X:IsBk H l bs Ms MV)(f:H x=↥xs)(d:l≠x)(g:x∉Ms):IsBk (upd H x (.lst ys)) l bs Ms MV:=
 ⟨by rw[aj d];exact X.top,X.len,X.lnM,X.nl,λi b M c h1 h2 h3=>by
  have z:=X.at_ i b M c h1 h2 h3;have a:M≠x:=λe=>g (by rw[← e];exact M8 h2);exact⟨by rw[aj (λe=>by have:=z.T;rw[e,f]at this;cases this)];exact z.T,by rw[aj a];exact z.M,z.n⟩⟩
def ThkP(Q:VK)(H:Hp)(h w g:Int)(MP:List RR)(cl MN:∅)(ks:List TK):Prop:=∀(T N B:Addr) (c Ms:List Addr) (a:∅) (MV:List Tho) (H':Hp),Same H H'->H T=none->H N=none->H B=none->(∀ b∈c,H b=none)->(∀ M∈Ms,H M=none)->H' T=some (.tup [.ref N,.ref B])->H' N=↥(a.map V.int)->IsBk H' B c Ms MV->N≠B->Wlk h w g MP cl ks MN MV a->(0∈a\/ffF h w g MP cl a ks=[])->ThR h w g MP cl ks MN MV a->Q (.ref T) H'
def uS(K:Frag)(c:QZ)(d:Q0):Sp:=#[3,∃ P L G A a h w g MP cl MN ks,vs=[.ref P,.ref A,.ref a]/\Lk H c d P L G A h w g MP cl MN/\KdK K H a ks/\ThkP Q H h w g MP cl MN ks]
def thin(K:Frag)(c:QZ)(d:Q0):TS:=#[":Ktb5h#6 gNDbER4a6dm,'nba3ack6ef#2 ack6ef#3 dh#3 "]
def uT(K:Frag)(c:QZ)(d:Q0):TS:=#[":gmp~aa1dh#3 gmsdh#4 g'hSA,~Lba3dgm,}hbira0a3a2dh#5 gnlcqb5sdjXa3a4do}ibirjXa3a4d"]
theorem Hs {N B F:Addr} {bs f a:List Addr} {MV m':_} {v1 p:Option V} (X:Fb H0 H c d P L G N B bs Ms h w g MP cl nb) (fN:H0 N=none) (Y:IsBk H F f a MV) (nF:F≠B) (nM:B∉a) (U:∀ b∈f,H0 b=none) (E:∀ M∈a,H0 M=none) (W:Wlk h w g MP cl ks nb.1 MV m') (bl:nb.2.length+MV.length<=96)
  (k:∀(n:Addr) (p:Option V) (H':Hp),Fb H0 H' c d P L G n B (bs++f) (Ms++a) h w g MP cl (m',nb.2++MV)->H0 n=none->D.nx [↑P,v1,v2,↑n,↑B,↑F,p] H'):
  thin K c d D [↑P,v1,v2,↑N,↑B,↑F,p] H:=by
 have g0:=X.pz.R.F.g0;have g6:=X.pz.R.F.g1;have ab:=X.pz.R.F.m;have l1:=Y.len;have l2:=Y.lnM;unfold thin;exists⟨⟨_,Nm Y.top⟩,?_⟩
 refine bz (K:=K) (xs:=f.map V.ref) (λi σ H'=>∃(n:Addr) (p:Option V),σ=[↑P,v1,v2,↑n,↑B,↑F,p]/\Fb H0 H' c d P L G n B (bs++f.take i) (Ms++a.take i) h w g MP cl (runA nb.1 (MV.take i),nb.2++MV.take i)/\H0 n=none/\IsBk H' F f a MV)
  ⟨N,_,rfl,by simpa using X,fN,Y⟩ (λi σ H' _ ⟨_,_,_,_,_,y⟩=>Nm y.top) ?_ ?_
 . rintro i v σ H1 hv ⟨n,p,rfl,j,t,Z⟩;obtain⟨b,r,rfl⟩:=b5 hv;have hi:i<f.length:=(M6.mp r).1;have O:a[i]? =some a[i]:=M0 #[4];have I:MV[i]? =some MV[i]:=M0 #[4];have Th:=Z.at_ i b _ _ r O I;have A:a[i]∈a:=NB _;have tb:f.take (i+1)=f.take i++[b]:=by rw[Oq,r];rfl
   have tM:a.take (i+1)=a.take i++[a[i]]:=by rw[Oq,O];rfl
   have tt:MV.take (i+1)=MV.take i++[MV[i]]:=by rw[Oq,I];rfl
   have W1:Wlk h w g MP cl ks nb.1 (MV.take i++MV.drop i) m':=by rw[QK];exact W
   have W2:=W1.pre.2;rw[OC (show i<MV.length by lia)]at W2;have ok:=W2.1;have C:=j.mp;dsimp only at C;have tl:(MV.take i).length<=MV.length:=by rw[Oa];lia
   generalize hM:a[i]=M at*;generalize aa:MV[i]=th at*;rw[tb,tM,tt];have er:runA nb.1 (MV.take i++[th])=stL (runA nb.1 (MV.take i)) th.z th.s:=by unfold runA;rw[O6];rfl
   rw[er];generalize runA nb.1 (MV.take i)=nw at*;have MB:M≠B:=λe=>nM (e ▸ A);have J:=j.bk.len;rw[NG]at J;exists⟨aZ j.bk.top,?_⟩;rw[cy j.bk.top];refine⟨by rw[MZ,j.bk.len,NG];exact aC #[4],?_⟩;have Bk:=j.bk.app (th:=th) (M5 H1) Th MB;have s4:=j.sm.own (o:=.lst ((bs++f.take i).map V.ref++[V.ref b])) X.fB;have n4:(upd H1 B (.lst ((bs++f.take i).map V.ref++[V.ref b]))) n=↥(nw.map V.int):=by rw[aj j.nB];exact j.nw
   have Y4:=Z.keep (ys:=(bs++f.take i).map V.ref++[V.ref b]) j.bk.top nF nM;have u:=Y4.at_ i b M th r (by rw[O]) (by rw[I]);generalize upd H1 B (.lst ((bs++f.take i).map V.ref++[V.ref b]))=H4 at*;exists ixT u.T (v:=V.int th.z) rfl ?_;exists ixT u.T (v:=V.int th.s) rfl ?_;symm;have sb:=ok.2.2.2.1;refine⟨n,nw,th.z,th.s,rfl,n4,by have:=C.len;lia,by lia,λN3 H5 Q q S=>?_⟩;refine⟨N3,_,rfl,⟨s4.trans Q,X.pz,S,C.stL g0 g6 sb.1 #[4],?_,λe'=>?_,X.fB,λx l=>?_,λx l=>?_⟩,s4.free q,Y4.same Q⟩
   . have:=Bk.same Q;rw[Om,Om,Om]at this;exact this
   . rw[e',Bk.top]at q;cases q
   . rw[← Om]at l;rcases Ny.mp l with l | l
     . exact j.fb x l
     . rw[Nd.mp l];exact U b (M8 r)
   . rw[← Om]at l;rcases Ny.mp l with l | l
     . exact j.fM x l
     . rw[Nd.mp l];exact E M A
 . rintro σ H1 ⟨n,p,rfl,j,t,Z⟩;rw[MZ,N6,show f.length=a.length by lia,N6,show a.length=MV.length by lia,N6]at j;rw[← W.run]at j;exact k n p H1 j t
theorem FZ(h:uS K c d vs H Q E):uT K c d (eD9 Q) (start ["puzzle","masks","kinds","now","book","found","thought"] vs) H:=by
 obtain⟨P,L,G,A,Kd,h,w,g,MP,cl,MN,ks,rfl,X,hK,q⟩:=h;have O:=X.P.R.F.g0;have g6:=X.P.R.F.g1;have am:=X.P.R.F.m;have al:=IU O g6 X.mkp #[4];exists uT;refine mr X.A λN hN=>?_;obtain⟨H1,U,s1,eN⟩:=aW (.lst (MN.map V.int)) hN;rw[U];exists⟨aP #[1],λB C=>?_⟩;have s2:Same H1 (upd H1 B (.lst [])):=(M5 H1).laid C;have eB:(upd H1 B (.lst [])) B=some (.lst []):=ah;have J:N≠B:=λe=>by rw[e]at eN;rw[eN]at C;cases C
 generalize upd H1 B (.lst [])=H2 at*;have aa:=s1.trans s2;have X0:Fb H H2 c d P L G N B [] [] h w g MP cl (MN,[]):=⟨aa,X.P,s2 _ _ eN,X.mkp,IsBk.nil eB,J,s1.free C,(λb o=>by cases o),(λb o=>by cases o)⟩
 refine⟨λm σ H'=>∃(N:Addr) (t Ms:List Addr) (v r:Option V) (nb:∅ × List Tho),σ=[↑P,↑A,↑Kd,↑N,↑B,v,r]/\Fb H H' c d P L G N B t Ms h w g MP cl nb/\H N=none/\Wlk h w g MP cl ks MN nb.2 nb.1/\Go h w g MP cl ks MN nb.2 nb.1/\m=btA nb.1,
  ⟨_,N,[],[],none,none,(MN,[]),rfl,X0,hN,rfl,.nil,rfl⟩,?_⟩
 rintro m σ H3 ⟨l,t,Ms,v,r,nb,rfl,a,fN,W,Gg,rfl⟩
 have n:∀(j:Hp),Same H3 j->(0∈nb.1\/ffF h w g MP cl nb.1 ks=[])->([V.ref l,V.ref B]:List V).length<=sizeLine/\∀ p,j p=none->Q (.ref p) (upd j p (.tup [V.ref l,V.ref B])):=λj Z i=>by
  have z:=a.same Z;refine⟨lnR rfl,λT hT=>?_⟩;have k:Same j (upd j T (.tup [V.ref l,V.ref B])):=(M5 j).laid hT;exact q T l B t Ms nb.1 nb.2 _ (z.sm.trans k) (z.sm.free hT) fN a.fB a.fb a.fM ah (k _ _ z.nw) (z.bk.same k) a.nB W i (Gg.full i)
 have ob:=W.okM O g6 X.mkp;exists⟨l,nb.1,rfl,a.nw,?_⟩;by_cases h0:(0:Int)∈nb.1
 . rw[M3 h0];refine⟨true,rfl,iteF ?_⟩;exists n H3 (M5 _) (.inl h0)
 . rw[M2 h0];refine⟨false,rfl,iteT ?_⟩
   refine⟨λσ H'=>∃(N:Addr) (t Ms:List Addr) (v r:Option V) (f:∅ × List Tho),σ=[↑P,↑A,↑Kd,↑N,↑B,v,r]/\Fb H H' c d P L G N B t Ms h w g MP cl f/\H N=none/\Wlk h w g MP cl ks MN f.2 f.1/\Go h w g MP cl ks MN f.2 f.1/\btA f.1<btA nb.1,
    λσ' H' ⟨N',S,ab,ad,ag,D,e,X',I,W',G',lt⟩=>⟨_,lt,N',S,ab,ad,ag,D,e,X',I,W',G',rfl⟩,?_⟩
   exists⟨P,L,G,l,Kd,h,w,g,MP,cl,nb.1,ks,rfl,a.lk,hK.same a.sm,λF ak af j Z hF ae s Y=>?_⟩;obtain⟨m',x⟩:=FY (cl:=cl) (ks:=ks) X.P.R a.mp h0;symm;rw[aD];exists⟨aP #[1],λE hE=>?_⟩;obtain⟨H5,U,k,eE⟩:=aW (.lst []) hE;rw[U];have u:=Z.trans k;refine IR (Y.same k) eE ?_;by_cases y:(ffF h w g MP cl nb.1 ks).length=0
   . rw[M3 y];refine⟨_,rfl,iteT ?_⟩;exists n H5 u (.inr (Pp.mp y))
   . rw[M2 y];refine⟨_,rfl,iteF ?_⟩;have ai:=x.okM O g6 a.mp;have X5:=a.same u;have nF:F≠B:=λe=>by rw[e,a.bk.top]at hF;cases hF
     have nM:B∉af:=λhm=>by have:=s B hm;rw[a.bk.top]at this;cases this
     refine Hs X5 fN (Y.same k) nF nM (λb o=>a.sm.free (ae b o)) (λM hM=>a.sm.free (s M hM)) x #[4] λN3 r H6 X6 ac=>?_;exact⟨N3,_,_,_,_,_,rfl,X6,ac,W.trans x,(by have:=Go.step Gg h0 (λe=>y (by rw[e];rfl));rw[← x.run]at this;exact this),by show btA m'<btA nb.1;lia⟩
abbrev iN(cs:List Nat):∅:=cs.map λ(n:Nat)=>(n:Int)
variable{cs:List Nat}
theorem AJ{c:Int}(h:c∈iN cs):0<=c/\c.toNat∈cs:=by
 obtain⟨n,a,rfl⟩:=Nl.mp h;exact⟨by lia,by rw[N1];exact a⟩
theorem EZ(fl:∅)(a:List Nat)(n:Nat):sgAt fl (iN (a++[n]))=sgAt fl (iN a)++[fl.getD n 0]:=by
 unfold sgAt iN;simp
def f9(h w g:Int)(fl:∅)(r:RR):Prop:=r.Ok h w g/\hoB r.k h w r.cs r.n r.m fl=true
structure Cs58(h w:Int)(cs:List Nat):Prop where
 ne:cs≠[]
 nd:cs.Nodup
 lt:∀ c∈cs,(c:Int)<h*w
 len:cs.length<=16
def Cs58.sub{a:List Nat}(X:Cs58 h w cs)(s:a.Sublist cs)(b:a≠[]):Cs58 h w a:=⟨b,X.nd.sublist s,λc d=>X.lt c (s.subset d),Nk s.length_le X.len⟩
def Cs58.lt100(X:Cs58 h w cs)(F:FlOk h w g):∀ c∈cs,c<100:=λc a=>by
 have:=X.lt c a;have:=F.m;omega
variable{fl:∅}
theorem F0(Y:Cs58 h w cs)(a:fl.length=(h*w).toNat)(c:∀ x∈fl,1<=x/\x<=g){x:Int}(b:x∈iN cs):0<=x/\x<fl.length/\1<=fl.getD x.toNat 0/\fl.getD x.toNat 0<=g:=by
 have m:=AJ b;have l:=Y.lt _ m.2;have:x.toNat<fl.length:=by lia
 have e:fl.getD x.toNat 0=fl[x.toNat]:=by rw[List.getD,M0 this];rfl
 have:=c _ (NB this);rw[e];lia
def JA{k:RK}{m:Nat}(F:FlOk h w g)(Y:Cs58 h w cs)(d:allK k=false)(k0:k≠.Rule)(b:n<=99)(a:numK k=false->n=0)(m0:sgnK k=true->1<=(m:Int)/\(m:Int)<=g)(e:sgnK k=false->m=0)(c:hoB k h w (iN cs) n m fl=true):f9 h w g fl ⟨k,n,m,cs,iN cs⟩:=⟨Df F Y.ne Y.lt Y.nd Y.len d k0 b a m0 e,c⟩
theorem AK:∀(xs:∅),(∀ x∈xs,0<=x/\x<=6)->0<=xs.sum/\xs.sum<=6*xs.length
 | [],_=>by simp
 | x::r,h=>by
  have a:=h x Nh;have b:=AK r λy c=>h y (Ni _ c);rw[OM,NJ];lia
theorem E2(xs:∅):0<=(seenN xs).2/\(seenN xs).2<=xs.length:=by
 have c:∀(xs:∅) (a:Int × Int),a.2<=(xs.foldl (λa x=>if a.1<x then(x,a.2+1) else a) a).2/\(xs.foldl (λa x=>if a.1<x then(x,a.2+1) else a) a).2<=a.2+xs.length:=λxs=>by
  induction xs with
  | nil=>intro a;simp
  | cons x r b=>
   intro a;rw[Op,NJ];have:=b (if a.1<x then(x,a.2+1) else a);by_cases h:a.1<x
   . rw[if_pos h]at this ⊢;dsimp only at this;lia
   . rw[Nt h]at this ⊢;lia
 have:=c xs (0,0);unfold seenN;dsimp only at this;lia
def AL(ns:∅)(k:Int):Int:=if k < (ns.length:Int) then ns.getD k.toNat 0 else 0
def fH(K:Frag):Sp:=#[3,∃ a ns k,vs=[.ref a,.int k]/\SqL K H a (ns.map V.int)/\ns.length<=63/\0<=k/\k<=1000/\Q (.int (AL ns k)) H]
def mR(K:Frag):TS:=#[":gnlc<1p}jba0djc}kb01ojef#0 "]
theorem AM(h:fH K vs H Q E):mR K (eD9 Q) (start ["_law_script","_law_k"] vs) H:=by
 obtain⟨a,ns,k,rfl,c,d,k0,k1,q⟩:=h;ac_nf;unfold mR;rw[aG,aD];exists⟨a,_,rfl,.inl c,?_⟩;symm;rw[MZ];unfold AL at q;by_cases b:k < (ns.length:Int)
 . rw[NA b]at q;rw[NA (M3 b)];exact⟨a,_,k,_,rfl,rfl,c,uy k0 b,q⟩
 . rw[Nt b]at q;rw[Nt (by simpa using b)];symm;exact q
def Dg:List (Int × Int)->(St->Hp->(List V->Hp->Prop)->Prop)
 | []=>tNil
 | p::r=>tCons (tTup (tCons (tC (.int p.1)) (tCons (tC (.int p.2)) tNil))) (Dg r)
theorem AN{σ:St}:∀(b:List (Int × Int)) (H:Hp) (Q:List V->Hp->Prop),(∀(as:List Addr) (H':Hp),Same H H'->as.length=b.length->(∀(j:Nat) (a:Addr) (p:Int × Int),as[j]? =some a->b[j]? =some p->H' a=some (.tup [.int p.1,.int p.2]))->Q (as.map V.ref) H')->Dg b σ H Q
 | [],H,Q,h=>h [] H (M5 H) rfl λj a p e _=>by simp at e
 | p::r,H,Q,h=>by
  unfold Dg;exists⟨lnR rfl,λt f=>?_⟩;obtain⟨H1,l,s1,g⟩:=aW (.tup [V.int p.1,V.int p.2]) f;rw[l];refine AN r H1 _ λas i c d k=>?_;refine h (t::as) i (s1.trans c) (by simp[d]) λj a q e1 e2=>?_
  match j,e1,e2 with
  | 0,e1,e2=>
   simp at e1 e2;subst e1 e2;exact c _ _ g
  | j+1,e1,e2=>exact k j a q (by simpa using e1) (by simpa using e2)
theorem wk{n:Nat}:∀{names:List (Str × NameKind)} {cl:List (Str × Addr)},(∀ y∈names,y.2≠.cell)->cellsFrom n names cl=cl
 | [],_,_=>rfl
 | (x,k)::r,cl,h=>by
  have c:(k==NameKind.cell)=false:=by
   have:=h _ (.head _);cases k <;> first | rfl | exact absurd rfl this
  have b:=wk (n:=n) (names:=r) (cl:=cl) λy a=>h y (.tail _ a);unfold cellsFrom;simp only[c];exact b
theorem yu:∀{names:List (Str × NameKind)} {h:Heap},(∀ y∈names,y.2≠.cell)->pushCells h names=h
 | [],_,_=>rfl
 | (x,k)::r,h,hn=>by
  have c:(k==NameKind.cell)=false:=by
   have:=hn _ (.head _);cases k <;> first | rfl | exact absurd rfl this
  have b:=yu (names:=r) (h:=h) λy a=>hn y (.tail _ a);unfold pushCells;simp only[c];exact b
theorem y4:StrKeys #[]:=by
 intro e a;exact absurd a (by simp)
variable{A:Around}{E:Value->Shared->Prop}{s:Shared}{sc:Scope}{cl:List (Str × Addr)}
theorem Ht {M:Model} {v q:Str} {u a:Value} {f:Addr} {Q:Env->Shared->Prop} (j:sc.kind=.function) (i:∀ y∈sc.names,y.2≠.cell) (r:sc.names.lookup v=some .local)
  (p:∀ h',(h'.Ns s.heap.objs.size λx=>if x=v then some u else none)->(∀ b o,s.heap.get? b=some o->h'.get? b=some o)->Q (newEnv sc s.heap.objs.size mainGlobals cl q (some f) a none builtinsNs) {s with heap:=h',toks:=s.toks+1}):
  wpAny M A (newFunctionEnv sc mainGlobals cl [(v,u)] q (some f) a none builtinsNs) Q E s:=by
 simp only[newFunctionEnv,Option.isSome_none];refine NV (wpAny_alloc ?_);refine NV (wpAny_layCells _ (λc d g=>by cases h:d==NameKind.cell <;> simp[h]) _ _ _ _ ?_);rw[wk i,yu i];refine NV ?_;rw[List.forIn_cons];have l:(s.heap.push {cls:=.type "frame",data:=.dict #[]}).Ns s.heap.objs.size λ_=>none:=⟨_,#[],_,NN _ rfl,rfl,y4,λc=>rfl⟩;refine NV (NV (QF (m:=λ_=>none) ?_ ?_ (λh' k n=>?_) ?_))
 . exact r
 . exact l
 . refine N9 ?_;show wpAny M A (forIn [] PUnit.unit _) _ _ _;rw[List.forIn_nil];refine N9 (N9 (p h' ?_ λb o e=>?_))
   . exact k
   . rw[n.2 b (NS (NC e))];exact Nq _ e
 . show(sc.kind==_||_)=false;rw[j];rfl
theorem Hu {prog:Program} {w:World} {f p m c':Addr} {q F v:Str} {N:Arguments} {I K M:Pos} {J i u:Value} {MS:Array Value} {x:Int} {t:Tok} {Q:Value->Shared->Prop}
  (X:A.depth<recursionLimit) (O:s.heap.get? f=some (PySem.W.kla_obj "<lambda>" q N (.Subscript (.Name F I) (.Name v K) M) sc cl J c' i)) (j:cl.lookup F=some p) (H:s.heap.CodeRec (.ref c') q) (g:s.heap.IsCell p ↑m) (R:s.heap.IsList m MS) (P:0<=x) (x1:x<2^63) (U:MS[x.toNat]? =some u) (l:s.heap.NoLimit)
  (n:bindArgs (PySem.W.kla_fn "<lambda>" q N (.Subscript (.Name F I) (.Name v K) M) sc cl J (.ref c') i) ⟨[.int x t],[]⟩=pure [(v,.int x t)])
  (z:sc.kind=.function) (C:sc.isCoroutine=false) (G:sc.isGenerator=false) (hf:∀ y∈sc.names,y.2≠.cell) (L:sc.names.lookup v=some .local) (Z:sc.names.lookup F=some .free)
  (r:(F==("__debug__":Str))=false) (D:(F==("__classdict__":Str))=false) (B:(v==("__debug__":Str))=false)
  (h:∀(h':Heap) (Y:Nat),(∀ b o,s.heap.get? b=some o->h'.get? b=some o)->Q u {s with heap:=h',toks:=Y}):
  wpAny (model prog w) A (call (.ref f) [.int x t]) Q E s:=by
 refine wpAny_call (PySem.W.kla_callFunE X O rfl C G rfl H ?_);rw[n];refine N9 ?_;refine Ht z hf L λh' S a=>⟨l.keeps a,?_⟩;refine PySem.W.kla_codeExpr ?_;refine wpAny_Subscript_Name (T:="list") (id:="list.__getitem__") rfl ?_ ?_
 . refine Qt (wpAny_loadName_free (v:=.ref m) z Z (c:=p) ?_ ?_ ?_ D) r
   . exact j
   . obtain⟨o,e,d⟩:=g;exact⟨o,a _ _ e,d⟩
   . refine Qt (wpAny_loadName_local z L S (NA rfl) ?_) B
     have k:h'.IsList m MS:=by
      obtain⟨o,e,d⟩:=R;exact⟨o,a _ _ e,d⟩
     refine⟨?_,wpAny_getItem_list k P x1 U (h h' _ a)⟩;exact k.typeIs
 . exact λ_ _=>rfl
def tbE(l c:Nat)(a:Addr):Array Value:=#[rawInt l,rawInt c,.ref a]
def TbOk(l c:Nat)(q:Str)(H:Hp)(P:Addr):Prop:=H P=some (.tbl #[])\/∃ a,H P=some (.tbl (tbE l c a))/\H a=some (.ext λh=>h.CodeRec (.ref a) q)
def SameX(P:Addr)(H H':Hp):Prop:=∀ a o,a≠P->H a=some o->H' a=some o
section
variable{X:Cx}{MO:List (Addr × Obj)}{σ:St}{H:Hp}{s:Shared}
theorem iD{c:Addr}{q:Str}{h1 h2:Heap}(x:h1.CodeRec (.ref c) q)(k:∀ o,h1.get? c=some o->h2.get? c=some o):h2.CodeRec (.ref c) q:=by
 obtain⟨a,o,vs,t,e,g,d,v⟩:=x;cases e;exact⟨c,o,vs,t,rfl,k _ g,d,v⟩
def Inv.grow{h':Heap}{t':Nat}{P c':Addr}{j more:Array Value}{q:Str}(I:Inv X MO σ H s)(i:H P=some (.tbl j))(ext:Heap.ExtBut P s.heap h')(c0:s.heap.objs.size<=c')(C:h'.CodeRec (.ref c') q)(B:h'.get? P=some {cls:=.none,data:=.fields (j++more)}):
  Inv X MO σ (upd (upd H P (.tbl (j++more))) c' (.ext λh=>h.CodeRec (.ref c') q)) {s with heap:=h',toks:=t'}:=by
 have A:H c'=none:=I.hok.fresh c0;have t:P≠c':=λe=>by rw[e,A]at i;cases i
 have a:∀ b,b≠P->b≠c'->upd (upd H P (.tbl (j++more))) c' (.ext λh=>h.CodeRec (.ref c') q) b=H b:=λb h1 h2=>by rw[aj h2,aj h1]
 have l:upd (upd H P (.tbl (j++more))) c' (.ext λh=>h.CodeRec (.ref c') q) P=some (.tbl (j++more)):=by rw[aj t,ah]
 have E:∀ b o,s.heap.get? b=some o->b≠c':=λb o e z=>by rw[z]at e;exact absurd (NM (NC e) c0) (Oj _)
 have p:∀ b,H b=none->b≠P:=λb n z=>by rw[z,i]at n;cases n
 have F:=p _ I.free;have f:∀ b u,H b=some u->b≠c':=λb u e z=>by rw[z,A]at e;cases e
 refine I.step (g':=s.gens) (d':=s.drawn) (ch:=[]) (λ_ z=>nomatch z) (λb o _ _ _ e n=>ext b o (p b n) e) (λb o _ _ _ e n=>⟨o.slots,ext b o (p b n) e⟩) (λb o _ e n=>by rw[a b (p b n) (E b o e)];exact n)
  (λb o _ e=>?_) (λb xs e=>?_) (λb o u e=>?_) (λb J e=>?_) (λm ⟨o,D,G,e,r⟩=>⟨o,D,G,ext _ _ F e,r⟩) (λb u e=>?_) I.bare
 . by_cases z:b=P
   . rw[z];exact⟨_,B⟩
   . exact⟨o,ext b o z e⟩
 . rw[a b (λz=>by rw[z,i]at e;cases e) (f b _ e)];exact e
 . rw[a b (λz=>by rw[z,i]at e;cases e) (f b _ e)];exact e
 . by_cases z:b=P
   . rw[z,i]at e;cases e;rw[z];exact⟨more,l⟩
   . rw[a b z (f b _ e)];exact⟨#[],by rw[e];simp⟩
 . by_cases z:b=c'
   . rw[z,ah]at e;cases e;rw[z];refine⟨C,?_,λh1 h2 x k=>iD x k⟩;obtain⟨_,o,_,_,e,g,_⟩:=C;cases e;exact⟨o,g⟩
   . by_cases y:b=P
     . rw[y,l]at e;cases e;rw[y];exact B
     . rw[a b y z]at e;refine(I.hok b u e).stay (λd v c g=>ext d v ?_ g) (λd c=>?_) λd xs c=>?_
       . rcases c with rfl | c
         . exact y
         . intro w;rw[w,i]at c;cases c
       . rw[a d (λw=>by rw[w,i]at c;cases c) (f d _ c)];exact c
       . rw[a d (λw=>by rw[w,i]at c;cases c) (f d _ c)];exact c
theorem Inv.pin1{o:Obj}(I:Inv X MO σ H s)(d:∀ v,o.data≠.cell v)(f:o.isFreed=false:=by rfl):Inv X ((s.heap.objs.size,o)::MO) σ H {s with heap:=s.heap.push o}:=by
 have c:Inv X MO σ H {s with heap:=s.heap.push o}:=I.kept (t':=s.toks) λb u e=>Nq _ e;refine c.pins_of λp a=>?_;rcases Ng.mp a with rfl | a
 . exact⟨NN _ f,I.hok.fresh (Nr _),(NS I.lt).symm,I.nofs (Nr _),d⟩
 . exact c.pin p (NT _ a)
theorem BH{l c:Nat}{a:Addr}:TriplesOk (tbE l c a).toList:=by
 simp[tbE,TriplesOk,rawInt]
theorem E3{pos:Pos}{a:Addr}:codeAmong pos (tbE pos.line pos.col a).toList=↑a:=by
 simp[tbE,codeAmong,rawInt]
theorem F1 {E:Value->Shared->Prop} {Q:Value->Shared->Prop} {K:Arguments} {i:Expr} {sc:Scope} {pos:Pos} {c P:Addr} (I:Inv X MO σ H s) (g:X.env.code=.ref c) (C:PySem.W.CodeHd X.base c P) (L:X.base.BuiltinsAt X.mg P) (B:mainGlobals≠P) (Y:TbOk pos.line pos.col (X.env.qual++"<lambda>") H P) (J:defaultsOf K X.env=([],[])) (M:∀ x,(x,NameKind.free)∈sc.names->∃ c,X.env.cells.lookup x=some c)
  (h:∀(f c':Addr) (cl:List (Str × Addr)) (pm d:Value) (H':Hp) (s':Shared),Inv X ((f,PySem.W.kla_obj "<lambda>" (X.env.qual++"<lambda>") K i sc cl pm c' d)::MO) σ H' s'->(∀ x c,cl.lookup x=some c->X.env.cells.lookup x=some c)->(∀ x,(x,NameKind.free)∈sc.names->∃ c,cl.lookup x=some c)->s'.heap.CodeRec (.ref c') (X.env.qual++"<lambda>")->SameX P H H'->TbOk pos.line pos.col (X.env.qual++"<lambda>") H' P->(∀ a,H' a=none->H a=none)->Q (.ref f) s'):
  wpAny (model X.prog X.w) X.A (eval (.Lambda K i sc pos) X.env) Q E s:=by
 obtain⟨cl,j,R,T⟩:=vk M
 have k:s.heap.Ns mainGlobals X.mg:=by
  obtain⟨o,es,Z,e,r⟩:=I.mod.glob;exact⟨o,es,Z,I.bk _ _ e,r⟩
 have l:s.heap.BuiltinsAt X.mg P:=by
  obtain⟨bm,o,h1,h2,h3,h4,h5,h6⟩:=L;exact⟨bm,o,h1,h2,h3,h4,I.bk _ _ h5,h6⟩
 have m:=C.keeps I.bk;refine PySem.W.kla_eval J ?_;rcases Y with e | ⟨a,e,U⟩
 . have N:s.heap.get? P=some (PySem.W.tabObj #[]):=I.hok P _ e;refine PySem.W.kla_makeFunction j I.ok.glob k g m N ?_ ?_ B l λc' d O F ext S aa q t=>?_
   . simp[TriplesOk]
   . rfl
   . have G:=I.grow (t':=F) (more:=tbE pos.line pos.col c') e ext S q (by simpa [tbE] using t);have D:H c'=none:=I.hok.fresh S;have u:P≠c':=λz=>by rw[z,D]at e;cases e
     refine h _ c' cl _ d _ _ (G.pin1 (λv z=>by cases z)) R T (iD q λo e=>Nq _ e) (λb o nb n=>?_) (.inr ⟨c',?_,?_⟩) (λb nb=>?_)
     . rw[aj (λz=>by rw[z,D]at n;cases n),aj nb];exact n
     . rw[aj u,ah];simp[tbE]
     . rw[ah]
     . by_cases z:b=c'
       . rw[z];exact D
       . rw[aj z]at nb;by_cases y:b=P
         . rw[y,ah]at nb;cases nb
         . rw[aj y]at nb;exact nb
 . have N:s.heap.get? P=some (PySem.W.tabObj (tbE pos.line pos.col a)):=I.hok P _ e;refine PySem.W.kla_makeFunctionHit j I.ok.glob k g m N ?_ (cv:=.ref a) ?_ l λd O F p sz=>?_
   . exact BH
   . exact E3
   . have G:Inv X MO σ H {s with heap:=O,toks:=F}:=I.kept p;have q:O.CodeRec (.ref a) (X.env.qual++"<lambda>"):=iD (I.hok a _ U).1 λo e=>p _ _ e;exact h _ a cl _ d H _ (G.pin1 (λv z=>by cases z)) R T (iD q λo e=>Nq _ e) (λb o _ n=>n) (.inr ⟨a,e,U⟩) (λb nb=>nb)
def intOf:Value->Int
 | .int x _=>x
 | _=>0
theorem xH:∀{xs:∅} {MS:List Value},Vals (xs.map V.int) MS->MS.map intOf=xs/\∀ v∈MS,∃ t,v=.int (intOf v) t
 | [],_,r=>by cases r;exact⟨rfl,λ_ h=>nomatch h⟩
 | x::xs,_,r=>by
  cases r with
  | cons h t=>
   obtain⟨c,rfl⟩:=h;have b:=xH t;refine⟨by rw[NK,b.1];rfl,λv a=>?_⟩;rcases Ng.mp a with rfl | a
   . exact⟨c,rfl⟩
   . exact b.2 v a
theorem Cn:∀{MS:List Value},(∀ v∈MS,∃ t,v=.int (intOf v) t)->Vals ((MS.map intOf).map V.int) MS
 | [],_=>.nil
 | v::MS,h=>.cons (h v (.head _)) (Cn λy a=>h y (.tail _ a))
theorem Co{g:Int->Int}:∀{MS:List Value} {p:Int × Value},p∈((MS.map intOf).map g).zip MS->p.1=g (intOf p.2)/\p.2∈MS
 | [],_,h=>nomatch h
 | v::MS,p,h=>by
  rcases Ng.mp (show p∈(g (intOf v),v)::((MS.map intOf).map g).zip MS from h) with rfl | h
  . exact⟨rfl,.head _⟩
  . have:=Co (MS:=MS) h;exact⟨this.1,.tail _ this.2⟩
theorem Cp{g:Int->Int}:∀{MS:List Value},(((MS.map intOf).map g).zip MS).map (λp=>intOf p.2)=MS.map intOf
 | []=>rfl
 | v::MS=>by
  show intOf v::(((MS.map intOf).map g).zip MS).map (λp=>intOf p.2)=intOf v::MS.map intOf;rw[Cp (MS:=MS)]
theorem IV{h:Heap}{L:Addr}{m m':Str->Option Value}(a:h.Ns L m)(b:h.Ns L m'):m=m':=by
 obtain⟨o,k,n,e,d,_,r⟩:=a;obtain⟨l,g,i,c,f,_,j⟩:=b;rw[e]at c;cases c;rw[d]at f;cases f
 funext x
 rw[← r x,← j x]
theorem JN{n:Nat}{x:Int}(h:n<=sizeLine)(a:x<n):x<2^63:=by
 have:(sizeLine:Int)<2^63:=by decide
 lia
theorem ObjOk.obj{P:Program}{w:World}{H:Hp}{h:Heap}{a:Addr}{o:HO}(x:ObjOk P w H h a o):∃ u,h.get? a=some u:=by
 cases o with
 | lst xs=>obtain⟨_,_,_,_,e⟩:=x;exact⟨_,e⟩
 | tup xs=>obtain⟨_,_,_,_,e,_⟩:=x;exact⟨_,e⟩
 | dK c=>obtain⟨_,_,_,_,o,_,_,e,_⟩:=x;exact⟨_,e⟩
 | dT c=>obtain⟨_,_,_,_,o,_,_,e,_⟩:=x;exact⟨_,e⟩
 | set S n=>obtain⟨o,_,_,_,e,_⟩:=x;exact⟨_,e⟩
 | ins C j b=>obtain⟨_,_,_,e,_⟩:=x;exact⟨_,e⟩
 | own y=>exact x
 | xd b=>obtain⟨_,⟨_,_,_,e,_⟩,_⟩:=x;exact⟨_,e⟩
 | rng g i=>obtain⟨_,_,_,e⟩:=x;exact⟨_,e⟩
 | frz d u=>obtain⟨e,_⟩:=x;exact⟨_,e⟩
 | tbl k=>exact⟨_,x⟩
 | met f y=>exact⟨_,x⟩
 | ext φ=>exact x.2.1
theorem F2 {E:Value->Shared->Prop} {Q:Value->Shared->Prop} {l f c' cc Fl:Addr} {cl:List (Str × Addr)} {ps:Arguments} {sc:Scope} {F v q:Str} {p1 p2 p3:Pos} {pm ag:Value} {xs fs:∅} (I:Inv X MO σ H s) (hr:X.A.depth<recursionLimit)
  (pf:(f,PySem.W.kla_obj "<lambda>" q ps (.Subscript (.Name F p1) (.Name v p2) p3) sc cl pm c' ag)∈MO) (ae:s.heap.CodeRec (.ref c') q) (aa:cl.lookup F=some cc) (P:s.heap.IsCell cc ↑Fl) (ax:cc≠X.env.locals) (hl:H l=↥(xs.map V.int)) (hF:H Fl=↥(fs.map V.int)) (hb:∀ x∈xs,0<=x/\x<fs.length) (as:xs.length<64)
  (ay:∀ x t,bindArgs (PySem.W.kla_fn "<lambda>" q ps (.Subscript (.Name F p1) (.Name v p2) p3) sc cl pm (.ref c') ag) ⟨[.int x t],[]⟩=pure [(v,.int x t)])
  (hk:sc.kind=.function) (ap:sc.isCoroutine=false) (aD:sc.isGenerator=false) (hf:∀ y∈sc.names,y.2≠.cell) (hv:sc.names.lookup v=some .local) (aw:sc.names.lookup F=some .free)
  (av:(F==("__debug__":Str))=false) (aC:(F==("__classdict__":Str))=false) (ao:(v==("__debug__":Str))=false)
  (h:∀(zs:∅) (D:Addr) (s':Shared),Inv X MO σ (upd H D (.lst (zs.map V.int))) s'->H D=none->zs.Perm xs->zs.Pairwise (λx y=>fs.getD x.toNat 0<=fs.getD y.toNat 0)->Q (.ref D) s'):
  wpAny (model X.prog X.w) X.A (call (.builtin "sorted") [.ref l] [("key",.ref f)]) Q E s:=by
 obtain⟨m,fr⟩:=I.fr;obtain⟨MS,n,rv,ho,hz⟩:=I.lst hl;obtain⟨C,nf,rf,aA,ac⟩:=I.lst hF;have iv:=xH rv;have M:=xH rf;have xl:MS.length=xs.length:=by rw[← iv.1,MZ]
 have aE:C.length=fs.length:=by rw[← M.1,MZ]
 obtain⟨pg,pn,pL,_⟩:=I.pin _ (NT _ pf)
 have c:∀{h:Heap} {ak:List (Addr × Obj)},Fr X.base X.env.locals h m->News X.base X.env.locals h (oR X.base s.heap X.env.locals++ak)->∀ b o,b≠X.env.locals->s.heap.get? b=some o->h.get? b=some o:=λF N b o nb e=>by
  cases q:X.base.get? b with
  | some o'=>
   have:=I.bk b o' q;rw[e]at this;cases this;exact F.keep b o q
  | none=>exact(N _ (OU _ (tU nb q e))).1
 have R:∀ b u,H b=some u->b≠X.env.locals:=λb u e z=>by rw[z,I.free]at e;cases e
 refine ksk_sorted (b:=false) (kz:=(MS.map intOf).map λx=>fs.getD x.toNat 0) fr Fw ⟨_,ho,rfl,n,rfl⟩ (by simp) #[4] (by ksk_a1) (λx=>by ksk_a2) (λx=>by ksk_a3) (λi u k hu ai h tk ak F N=>?_) (λD h' tk B cn F N lt ko=>?_)
 . have ad:=M8 hu;obtain⟨t,ht⟩:=iv.2 u ad;have xm:intOf u∈xs:=by rw[← iv.1];exact List.mem_map_of_mem ad
   have xb:=hb _ xm
   have ek:k=fs.getD (intOf u).toNat 0:=by
    rw[M7,M7,hu]at ai;exact(OB ai).symm
   have Y:(intOf u).toNat<C.length:=by lia
   have wf:C[(intOf u).toNat]? =some (C[(intOf u).toNat]'Y):=M0 Y;obtain⟨t',af⟩:=M.2 _ (M8 wf)
   have ew:intOf (C[(intOf u).toNat]'Y)=k:=by
    rw[ek,← M.1,List.getD,M7,wf];rfl
   rw[ew]at af
   have cL:c'≠X.env.locals:=λz=>by
    obtain⟨_,o,vs,_,e1,g1,d1,_⟩:=ae;cases e1;obtain⟨o2,es,ep,g2,d2,_⟩:=fr.ns;rw[z,g2]at g1;cases g1;rw[d2]at d1;cases d1
   have T:h.IsCell cc ↑Fl:=by
    obtain⟨o,e,d⟩:=P;exact⟨o,c F N _ _ ax e,d⟩
   rw[ht];refine Hu (MS:=C.toArray) (u:=.int k t') (s:={heap:=h,gens:=s.gens,drawn:=s.drawn,toks:=tk,os:=s.os}) hr (c F N _ _ pL pg) aa (iD ae λo e=>c F N _ _ cL e) T ⟨_,c F N _ _ (R _ _ hF) aA,rfl,nf,rfl⟩ xb.1 (JN (by rw[MZ]at ac;exact ac) xb.2) (by rw[← af];simpa using wf) (I.mod.nolimit.keeps F.keep) (ay _ _) hk ap aD hf hv aw av aC ao λh2 aq U=>?_;obtain⟨o,es,ep,g,r⟩:=F.ns;exact⟨h2,aq,t',rfl,rfl,⟨⟨o,es,ep,U _ _ g,r⟩,λb o e=>U _ _ (F.keep b o e),F.above⟩,λp L=>⟨U _ _ (N p L).1,(N p L).2⟩⟩
 . obtain⟨S,Z,eo,pw⟩:=ko;have N2:News X.base X.env.locals h' (oR X.base s.heap X.env.locals++[]):=λp L=>N p (Ni _ (by simpa using L));have kp:=c F N2;have nd:=N _ (.head _);have ab:∀ b o,b≠X.env.locals->X.base.get? b=none->s.heap.get? b=some o->b<D:=λb o nb q e=>lt _ (tU nb q e)
   have hD:H D=none:=by
    cases q:H D with
    | none=>rfl
    | some u=>
     obtain⟨o,e⟩:=(I.hok D u q).obj;exact absurd (ab D o nd.2.1 nd.2.2 e) (Oj _)
   have ar:∀ b o,s.heap.get? b=some o->b≠D:=λb o e z=>by
    rw[z]at e;exact absurd (ab D o nd.2.1 nd.2.2 e) (Oj _)
   have J:∀ b u,H b=some u->b≠D:=λb u e z=>by rw[z,hD]at e;cases e
   have j:∀{o:HO} b,b≠D->upd H D o b=H b:=λb z=>aj z
   have al:∀ m',s.heap.Ns X.env.locals m'->h'.Ns X.env.locals m':=λm' hm=>by
    rw[IV hm fr.ns];exact F.ns
   have G:(S.map λp=>intOf p.2).Perm xs:=by
    have:=Z.map λp=>intOf p.2;rw[Cp,iv.1]at this;exact this
   have O:∀ p∈S,p.1=fs.getD (intOf p.2).toNat 0/\p.2∈MS:=λp L=>Co (g:=λx=>fs.getD x.toNat 0) (Z.mem_iff.mp L);have eq:B.toList.map intOf=S.map λp=>intOf p.2:=by rw[eo,NH];rfl
   have am:Vals ((B.toList.map intOf).map V.int) B.toList:=Cn λy hy=>by
    rw[eo]at hy;obtain⟨p,L,rfl⟩:=Nl.mp hy;exact iv.2 _ (O p L).2
   have MW:((B.toList.map intOf).map V.int).length<=sizeLine:=by
    rw[MZ,eq,G.length_eq];exact NU (Nat.lt_trans as #[1])
   refine h (B.toList.map intOf) D _ (I.step (g':=s.gens) (d':=s.drawn) (t':=tk) (ch:=[]) (λ_ z=>nomatch z) (λb o nL _ _ e _=>kp b o nL e) (λb o nL _ _ e _=>⟨o.slots,kp b o nL e⟩) (λb o _ e n=>by rw[j b (ar b o e)];exact n) (λb o _ e=>?_) (λb ys e=>by rw[j b (J b _ e)];exact e) (λb o u e=>by rw[j b (J b _ e)];exact e) (λb qs e=>⟨#[],by rw[j b (J b _ e),e];simp⟩) al (λb u e=>?_) I.bare) hD ?_ ?_
   . by_cases z:b=X.env.locals
     . obtain⟨o2,_,_,g,_⟩:=F.ns;rw[z];exact⟨o2,g⟩
     . exact⟨o,kp b o z e⟩
   . by_cases z:b=D
     . rw[z,ah]at e;cases e;rw[z];exact⟨MW,B.toList,cn,am,nd.1⟩
     . rw[j b z]at e;refine(I.hok b u e).stay (λd w K g=>kp d w ?_ g) (λd K=>by rw[j d (J d _ K)];exact K) λd ys K=>by rw[j d (J d _ K)];exact K
       rcases K with rfl | K
       . exact R _ _ e
       . exact R _ _ K
   . rw[eq];exact G
   . rw[eq,Qk];refine List.Pairwise.imp_of_mem (λ{a b} ha az r=>?_) pw;rw[← (O a ha).1,← (O b az).1]
     simpa using r
theorem TbOk.put{l c:Nat}{q:Str}{P D:Addr}{o:HO}(x:TbOk l c q H P)(d:H D=none):TbOk l c q (upd H D o) P:=by
 rcases x with e | ⟨a,e,b⟩
 . exact .inl (by rw[aj (λz=>by rw[z,d]at e;cases e)];exact e)
 . exact .inr ⟨a,by rw[aj (λz=>by rw[z,d]at e;cases e)];exact e,by rw[aj (λz=>by rw[z,d]at b;cases b)];exact b⟩
def qA(P:Addr)(l c:Nat)(q:Str)(te:TE)(i:Nat):TE:=λσ H Q=>te σ H λv H1=>∃(a F:Addr) (xs b:∅),v=.ref a/\H1 a=↥(xs.map V.int)/\σ[i]? =some ↑F/\H1 F=↥(b.map V.int)/\(∀ x∈xs,0<=x/\x<b.length)/\xs.length<64/\TbOk l c q H1 P/\
 ∀(e:∅) (r:Addr) (d:Hp),H1 r=none->e.Perm xs->e.Pairwise (λx y=>b.getD x.toNat 0<=b.getD y.toNat 0)->SameX P H1 d->TbOk l c q d P->d r=↥(e.map V.int)->Q (.ref r) d
theorem Dh {e:Expr} {te:TE} {p pos E kp S p2 p3:Pos} {F v q:Str} {i:Nat} {G:Arguments} {sc:Scope} {c P:Addr} (J:Gl X "sorted") (hl:X.mg "sorted"=none) (hr:X.A.depth<recursionLimit) (k:X.env.code=.ref c) (ag:PySem.W.CodeHd X.base c P) (am:X.base.BuiltinsAt X.mg P) (ac:mainGlobals≠P) (he:PE X e te) (hN:X.N[i]? =some F) (j:X.env.scope.names.lookup F=some .cell) (hq:X.env.qual++"<lambda>"=q)
  (al:defaultsOf G X.env=([],[])) (ao:∀ x,(x,NameKind.free)∈sc.names->x=F) (ak:(F,NameKind.free)∈sc.names)
  (L:∀ cl pm c' d x t,bindArgs (PySem.W.kla_fn "<lambda>" q G (.Subscript (.Name F S) (.Name v p2) p3) sc cl pm (.ref c') d) ⟨[.int x t],[]⟩=pure [(v,.int x t)])
  (hk:sc.kind=.function) (ad:sc.isCoroutine=false) (ai:sc.isGenerator=false) (hf:∀ y∈sc.names,y.2≠.cell) (hv:sc.names.lookup v=some .local) (Z:sc.names.lookup F=some .free)
  (O:(F==("__debug__":Str))=false:=by decide) (ae:(F==("__classdict__":Str))=false:=by decide) (ab:(v==("__debug__":Str))=false:=by decide)
  (g:starEach [e] X.env=[(false,eval e X.env)]:=by rfl):
  PE X (.Call (.Name "sorted" p) [e] [⟨some "key",.Lambda G (.Subscript (.Name F S) (.Name v p2) p3) sc E,kp⟩] pos) (qA P E.line E.col q te i):=by
 subst hq;intro MO s σ H Q I h;refine Os (gj I J hl ld ?_ #[1] #[1]);refine callWith_builtin_kwB (by rw[g];rfl) rfl ?_;refine evalArgs_kw2 rfl ?_ g;rw[g];show wpAny _ _ (spliced [(false,eval e X.env)]) _ _ s;refine O0 (thn (he MO s σ H _ I h) λu s1 ⟨x,H1,I1,r1,q1⟩=>?_);refine O5 ?_;obtain⟨a,Fl,xs,fs,rfl,ea,eσ,eF,hb,K,tb,q⟩:=q1;cases r1;show wpAny _ _ (evalAll [eval (.Lambda G (.Subscript (.Name F S) (.Name v p2) p3) sc E) X.env >>= λv=>standAt pos >>= λ_=>pure v]) _ _ s1;refine wpAny_evalAll_cons ?_;refine NV ?_;obtain⟨cc,M⟩:=I.ok.has F (.inl j);refine F1 I1 k ag am ac tb al (λx hx=>by rw[ao x hx];exact⟨cc,M⟩) λf c' cl pm d H2 s2 R c1 c2 cr C U aa=>?_;refine NV (QP ?_);refine N9 ?_;refine wpAny_evalAll_nil ?_;show wpAny _ _ (call (.builtin "sorted") [.ref a] [("key",.ref f)]) _ _ s2;obtain⟨Y,l⟩:=c2 F ak;have n:=c1 F Y l
 have w:s2.heap.IsCell Y ↑Fl:=by
  obtain⟨m,_,af⟩:=R.loc;obtain⟨u,r,lk⟩:=af i F (.ref Fl) hN eσ (.inr (.inl j));cases r;rcases lk with ⟨k1,_⟩ | ⟨_,c3,e3,z⟩
  . have k2:X.env.scope.names.lookup F=some .local:=k1;rw[j]at k2;cases k2
  . rw[n]at e3;cases e3;exact z
 have nP:∀{b:Addr} {ys:List V},H1 b=↥ys->b≠P:=λB z=>by
  rcases tb with e | ⟨_,e,_⟩ <;> (rw[z,e]at B;cases B)
 refine F2 R hr (.head _) cr l w (R.cne F Y n) (C _ _ (nP ea) ea) (C _ _ (nP eF) eF) hb K (L cl pm c' d) hk ad ai hf hv Z O ae ab λzs D s' I3 hD T pw=>?_;refine⟨.ref D,_,I3.pins_of λp hp=>I3.pin p (NT _ (.tail _ hp)),rfl,q zs D _ (aa D hD) T pw (λb o nb B=>?_) (U.put hD) ah⟩;rw[aj (λz=>by have:=C b o nb B;rw[z,hD]at this;cases this)];exact C b o nb B
end
theorem E4 {P:Program} {w:World} {K:Frag} {A mb:Str->Option Value} {CX:CXT} {k:Nat} {fa a:Addr} {fd:FuncData} {x:Str} {sp:Sp} {c:Shared} {vs:List Value} {ns:∅}
  {j:Addr} (KX:K.In c.heap) (J:c.heap.get? j=some (PySem.W.tabObj #[])) (N:K.lookup j=none) (ad:isCodeTable c.heap j) (ag:c.heap.BuiltinsAt A j) (M:c.heap.Ns mainGlobals A) (f:c.heap.Ns builtinsNs mb) (Y:∀ x:Str,x≠"__name__"->mb x=bootBuiltins x) (Q:c.heap.NoLimit) (hg:c.gens=#[])
  (I:c.heap.get? a=some {cls:=.type "list",data:=.seq vs.toArray}) (hi:IntsAre vs ns) (hl:ns.length<=sizeLine) (hr:Room k callerA)
  (F:∀ l:Heap,K.In l->l.Ns mainGlobals A->l.BuiltinsAt A j->FnOk P w K A l CX k fa fd [x] sp) (D:∀(s:Shared) (u:Value),BindsTo s fd ⟨[u],[]⟩ [(x,u)])
  (af:∀ H:Hp,H j=some (.tbl #[])->SqL K H a (ns.map V.int)->sp [.ref a] H (λv _=>v=.bl true) λ_ _ _=>False)
  (ac:∀ H e s',CX [] H c (λ_ _ _=>False) e s'->False):
  codeAny (model P w) callerA (.call (.ref fa) ⟨[.ref a],[]⟩) (λr s'=>r=.ok (.ret (.bool true))/\OldK c.heap s'.heap/\s'.os=c.os/\AllBare s'.gens) c:=by
 have rv:=rD hi;have S:=hi.length
 have C:∀ H:Hp,(∀ b,H b=none\/(∃ o xs,H b=some (.frz o (.lst xs)))\/b=j)->H j=some (.tbl #[])->SqL K H a (ns.map V.int)->HOk P w H c.heap->(∀ b,H b≠none->b=a\/b=j)->(H a≠none->K.lookup a=none)->
   codeAny (model P w) callerA (.call (.ref fa) ⟨[.ref a],[]⟩) (λr s'=>r=.ok (.ret (.bool true))/\OldK c.heap s'.heap/\s'.os=c.os/\AllBare s'.gens) c:=by
  intro H hO hT hS R hA hK;have i:∀{b:Addr} {o:Obj},c.heap.get? b=some o->H b=none->(hidT c.heap H).get? b=some o:=λe n=>Fv e n
  have aa:∀{b:Addr} {o:Obj} {G:Array DictEntry} {E:Nat},c.heap.get? b=some o->o.data=.dict G E->H b=none:=λ{b o G E} e d=>by
   cases q:H b with
   | none=>rfl
   | some u=>
    rcases hA b (by rw[q];simp) with e' | e'
    . subst e';rw[I]at e;cases e;have Z:Data.seq vs.toArray _=Data.dict G E:=d;cases Z
    . subst e';rw[J]at e;cases e;have Z:Data.fields #[]=Data.dict G E:=d;cases Z
  have t:∀{b:Addr} {m:Str->Option Value},c.heap.Ns b m->(hidT c.heap H).Ns b m:=λ{b m} ⟨o,G,E,e,d,r⟩=>⟨o,G,E,i e (aa e d),d,r⟩
  have U:K.In (hidT c.heap H):=λb o e=>i (KX b o e) (by
   cases q:H b with
   | none=>rfl
   | some u=>
    rcases hA b (by rw[q];simp) with e' | e'
    . subst e';rw[hK (by rw[q];simp)]at e;cases e
    . subst e';rw[N]at e;cases e)
  have ae:(hidT c.heap H).BuiltinsAt A j:=by
   obtain⟨bm,o,h1,h2,h3,h4,h5,h6,h7,h8⟩:=ag;refine⟨bm,o,h1,h2,h3,h4,i h5 ?_,h6,h7,h8⟩
   cases q:H bm with
   | none=>rfl
   | some u=>
    rcases hA bm (by rw[q];simp) with e' | e'
    . subst e';rw[I]at h5;cases h5;cases h8
    . exact absurd e' h4
  have hM:Mod K A (hidT c.heap H):=⟨U,t M,⟨mb,t f,Y⟩,let ⟨mc,h1,h2⟩:=Q;⟨mc,t h1,h2⟩⟩;have e0:Env0 P w K A (hidT c.heap H) callerA [] c H:=⟨rfl,hM,λb o e=>GD e,Nat.le_of_eq (DF _ _),trivial,λb f=>absurd (show b∈([]:List Addr) from f) (by simp),R,.of_eq hg⟩;refine QS ((F _ U (t M) ae).run callerA [] c H ⟨[.ref a],[]⟩ [.ref a] [.ref a] _ _ hr e0 (D c (.ref a)) (.cons rfl .nil) (af H hT hS)) λr s' h=>?_
  cases r with
  | error e=>exact(ac H e s' h).elim
  | ok fl=>
   cases fl with
   | next=>exact False.elim h
   | brk=>exact False.elim h
   | cont=>exact False.elim h
   | ret u=>
    obtain⟨v,H',os,T,X,B,r',q⟩:=h;have q':v=.bl true:=q;subst q';obtain rfl:u=Value.bool true:=r'
    have ab:∀ b o,c.heap.get? b=some o->asItWas c.heap s'.heap b o:=λb o e=>by
     cases q:H b with
     | none=>exact .inl (X.keep b o e q (by intro z;exact absurd (show b∈([]:List Addr) from z) (by simp)) (by simp))
     | some u=>
      rcases hO b with z | ⟨ob,xs,z⟩ | z
      . rw[q]at z;cases z
      . have z2:=X.frzs b ob _ z;obtain⟨e1,_⟩:=R b _ z;obtain⟨e2,_⟩:=B b _ z2;rw[e]at e1;cases e1;exact .inl e2
      . subst z;obtain⟨L,em⟩:=X.tbls b _ hT;have g:=B b _ em;rw[J]at e;cases e;exact .inr (.inl ⟨ad,rfl,#[],L,rfl,g⟩)
    exact⟨rfl,⟨ab,λb o e=>X.there b o e (by simp)⟩,os,T⟩
 cases O:K.lookup a with
 | some o=>
  have e:=KX a o O;rw[I]at e;cases e;refine C (λb=>if b=j then some (.tbl #[]) else none) (λb=>?_) (NA rfl) (.inr ⟨_,vs.toArray,_,O,rfl,rfl,rfl,by rw[Nz,S];exact hl,by simpa using rv⟩) (λb u z=>?_) (λb z=>?_) (λz=>?_)
  . by_cases f:b=j
    . exact .inr (.inr f)
    . exact .inl (Nt f)
  . by_cases f:b=j
    . have p:=(NA f).symm.trans z;cases p;rw[f];exact J
    . have p:=(Nt f).symm.trans z;cases p
  . by_cases f:b=j
    . exact .inr f
    . exact absurd (Nt f) z
  . have na:a≠j:=λe=>by rw[e,N]at O;cases O
    exact absurd (Nt na) z
 | none=>
  refine C (λb=>if b=a then some (.frz {cls:=.type "list",data:=.seq vs.toArray} (.lst (ns.map V.int))) else if b=j then some (.tbl #[]) else none) (λb=>?_) ?_ (.inl (.inr ⟨{cls:=.type "list",data:=.seq vs.toArray},NA rfl⟩)) (λb u z=>?_) (λb z=>?_) λ_=>O
  . by_cases f:b=a
    . exact .inr (.inl ⟨_,_,NA f⟩)
    . by_cases y:b=j
      . exact .inr (.inr y)
      . exact .inl ((Nt f).trans (Nt y))
  . have na:j≠a:=λe=>by rw[e,I]at J;cases J
    exact(Nt na).trans (NA rfl)
  . by_cases f:b=a
    . have p:=(NA f).symm.trans z;cases p;subst f;exact⟨I,by rw[MZ];exact hl,vs,_,rv,I⟩
    . by_cases y:b=j
      . have p:=((Nt f).trans (NA y)).symm.trans z;cases p;rw[y];exact J
      . have p:=((Nt f).trans (Nt y)).symm.trans z;cases p
  . by_cases f:b=a
    . exact .inl f
    . by_cases y:b=j
      . exact .inr y
      . exact absurd ((Nt f).trans (Nt y)) z
def F3 {l:PySem.W.OpenLaw} {n k:Nat} {q:Program} {j:List Str} {XP:(Str->Option Value)->Heap->Prop} {M:World->Heap->Prop} {d:DefRec} {K:Params->Frag} {CX:World->CXT} {sp:World->Sp} {x:Str}
  (Z:l.most=some n) (I:n<=sizeLine) (E:d.params.defaults=[]) (S:Room k callerA)
  {p c':Addr} (P:∀(w:World) (h:Heap),M w h->(K w.params).In h/\h.get? p=some (PySem.W.tabObj #[])) (y:∀ w:World,(K w.params).lookup p=none) (B:∀(w:World) (h:Heap),(K w.params).In h->isCodeTable h p)
  (F:∀(w:World) (i:Str->Option Value) (t:Addr) (h:Heap),(K w.params).In h->h.Ns mainGlobals i->i d.name=↑t->
   ∃ C:FuncData,(∀(s:Shared) (u:Value),BindsTo s C ⟨[u],[]⟩ [(x,u)])/\
    ∀ c:Heap,(K w.params).In c->c.Ns mainGlobals i->c.BuiltinsAt i p->FnOk l.prog w (K w.params) i c (CX w) k t C [x] (sp w))
  (J:∀(w:World) (H:Hp) (a:Addr) (ns:∅),ns.length<=n->H p=some (.tbl #[])->SqL (K w.params) H a (ns.map V.int)->sp w [.ref a] H (λv _=>v=.bl true) λ_ _ _=>False)
  (A:∀(w:World) (H:Hp) (s:Shared) (e:Value) (s':Shared),CX w [] H s (λ_ _ _=>False) e s'->False):
  PySem.W.WalkO q j XP M l.row.toRowW d [] (λf vs=>PySem.call f vs):=by
 refine Att.attach_call Z E λw s₀ N i mb t o pm cd U a vs ns G Y ho hd aa D r m O hg=>?_;have z:=(P w _ Y).1;have Q:=(P w _ Y).2;obtain⟨C,R,hF⟩:=F w i t _ z G.T.g D
 have L:N.heap.BuiltinsAt i p:=by
  obtain⟨bm,ob,h1,h2,h3,h4,h5,h6⟩:=G.T.bmain;refine⟨bm,ob,h1,h2,λe=>?_,λe=>?_,h3,h4,h5,h6⟩
  . obtain⟨o,es,ep,g,d,_⟩:=G.T.g;rw[e,g]at h3;cases h3;rw[h6]at d;cases d
  . rw[e,Q]at h3;cases h3;cases h6
 exact E4 z Q (y w) (B w _ z) L G.T.g G.T.b G.T.builtins G.T.nolimit hg r m (Nk O I) S hF R (λH hO X=>J w H a ns O hO X) λH e s'=>A w H N e s'
structure Z5 where
 P:Program
 w:World
 K:Frag
 mg:Str->Option Value
 base:Heap
structure Bt3(Z:Z5):Prop extends Bt2 Z.mg where
 ns:∀{x:Str} {v:Value},nsIn Z.K mainGlobals x=some (some v)->Z.mg x=some v
def Nn(K:Frag)(b:Str):Prop:=nsIn K mainGlobals b=some none
def Zn(K:Frag):Prop:=Nn K "len"/\Nn K "abs"/\Nn K "min"/\Nn K "max"/\Nn K "sorted"/\Nn K "any"/\Nn K "isinstance"/\Nn K "list"/\Nn K "int"/\Nn K "bool"/\Nn K "str"/\Nn K "tuple"/\Nn K "reversed"/\Nn K "set"/\Nn K "range"/\Nn K "zip"/\Nn K "all"/\Nn K "sum"/\Nn K "enumerate"
theorem IW{Z:Z5}{h:Heap}(X:Z.K.In h)(G:h.Ns mainGlobals Z.mg)(z:Zn Z.K):Bt3 Z:=by
 obtain⟨a,b,c,d,e,f,g,i,j,k,l,m,n,o,p,q,r,s,t⟩:=z;have N:∀{b:Str},Nn Z.K b->Z.mg b=none:=λh=>PySem.W.mg_none_of X G h;exact⟨⟨⟨N a,N b,N c,N d,N e,N f,N g,N i,N j,N k,N l,N m,N n,N o,N p,N q⟩,N r,N s,N t⟩,λh=>PySem.W.mg_of X G h⟩
structure De(K:Frag)(x:Str)(st:Stmt):Prop where
 ex:∃(f:Addr) (fd:FuncData),nsIn K mainGlobals x=some ↑f/\Fun K x x st f fd
structure Me(K:Frag)(x qual:Str)(st:Stmt)(f:Addr):Prop where
 ex:∃ fd:FuncData,Fun K x qual st f fd/\isFn K (.ref f)=true
structure ClsP(K:Frag)(x:Str)(A f:Addr):Prop where
 q:nsIn K mainGlobals x=some ↑A
 m1:PySem.W.makesIn K A=true
 m2:findIn K (.ref A) "__init__"=some ↑f
 m4:keepIn K (.ref A)=true
 cl:Cls K A
def mkC(a b c e d f h g:Addr):QZ:=⟨λk=>match k with | .Rule=>a | .Unlike=>a | .Sum=>b | .Rising=>c | .Seen=>e | .Count=>d | .Joined=>f | .NoSquare=>h | .Ring=>g,λk=>match k with | .Rule=>false | _=>true⟩
def mk1(c:QZ)(k:RK):QZ:=⟨c.A,match k with | .Joined=>(λi=>match i with | .Joined=>true | _=>false) | .Ring=>(λi=>match i with | .Ring=>true | _=>false) | _=>λ_=>false⟩
def mkD(y:Addr):Q0:=⟨λ_=>y,λ_=>true⟩
theorem o8{c:QZ}{k i:RK}(h:(mk1 c k).ok i=true):i=k:=by cases k <;> cases i <;> first | rfl | cases h
def At8(K:Frag)(m:Str)(v:Option Value)(c a b e d f h g:Addr):Prop:=findIn K (.ref c) m=some v/\findIn K (.ref a) m=some v/\findIn K (.ref b) m=some v/\findIn K (.ref e) m=some v/\findIn K (.ref d) m=some v/\findIn K (.ref f) m=some v/\findIn K (.ref h) m=some v/\findIn K (.ref g) m=some v
def C8(K:Frag)(c a b e d f h g:Addr):Prop:=Cls K c/\Cls K a/\Cls K b/\Cls K e/\Cls K d/\Cls K f/\Cls K h/\Cls K g
section
variable{Z:Z5}{K:Frag}{x1 x2 x3 x4 x5 x6 x7 x8 f:Addr}{m:Str}{v:Option Value}
theorem at8(h:At8 K m v x1 x2 x3 x4 x5 x6 x7 x8)(k:RK):findIn K (.ref ((mkC x1 x2 x3 x4 x5 x6 x7 x8).A k)) m=some v:=by
 obtain⟨a,b,c,d,e,f,g,i⟩:=h;cases k <;> assumption
theorem c8(h:C8 K x1 x2 x3 x4 x5 x6 x7 x8)(k:RK):Cls K ((mkC x1 x2 x3 x4 x5 x6 x7 x8).A k):=by
 obtain⟨a,b,c,d,e,f,g,i⟩:=h;cases k <;> assumption
def fk8(C:C8 K x1 x2 x3 x4 x5 x6 x7 x8)(h:At8 K m none x1 x2 x3 x4 x5 x6 x7 x8):FldK K (mkC x1 x2 x3 x4 x5 x6 x7 x8) m:=⟨λk _=>⟨c8 C k,at8 h k⟩⟩
def fk1{c:QZ}{k:RK}(b:c.ok k=true)(F:FldK K c m):FldK K (mk1 c k) m:=⟨λi a=>by cases o8 a;exact F.ex k b⟩
variable{N ps:List Str}{k k':Nat}{sp sp':Sp}{t:TS}{x qual:Str}{st:Stmt}
abbrev Hb(Z:Z5)(N:List Str)(qual:Str)(st:Stmt)(f:Addr)(k:Nat)(t:TS):Prop:=∀{b:Value} {A:Around} {a:List Env} {s:Shared} {H:Hp} {E:XK},Room k (A.deeper (envOfC qual (aQ st) s.heap.objs.size f b))->(A.deeper (envOfC qual (aQ st) s.heap.objs.size f b)).units+64<cLine->N.Nodup->PSs (cxOf CX0 Z.P Z.w Z.K Z.mg Z.base N qual (aQ st) f b A a s H E).nox (cI st) t
abbrev Rk(N:List Str)(sp:Sp)(t:TS):Prop:=∀{vs H Q E},sp vs H Q E->t (eD9 Q) (start N vs) H
abbrev Ln(ps:List Str)(sp:Sp):Prop:=∀{vs H Q E},sp vs H Q E->vs.length=ps.length
abbrev Bd(x qual:Str)(st:Stmt)(ps:List Str):Prop:=∀(g a c:Value) (e:Option Addr) (f d:Value) (b:List Value),b.length=ps.length->bindArgs (fnOf x qual (dR st) (cI st) (aQ st) .none g a c e f d) ⟨b,[]⟩=pure (ps.zip b)
def okf{f:Addr}{d:FuncData}(F:Fun Z.K x qual st f d)(S:jk N ps (aQ st))(g:Rk N sp t)(e:Hb Z N qual st f k t)(a:Ln ps sp):FnOk Z.P Z.w Z.K Z.mg Z.base CX0 (k+1) f d ps sp:=F.ok S (λ_ _ _ _ h=>a h) λi A b s H vs Q E c h=>⟨t,e c c.units S.nd,g h⟩
local macro_rules | `(tactic| walk_at "l")=>`(tactic| (intro vs H Q E h; (repeat obtain ⟨_,h⟩:=h); subst_vars; rfl))
theorem xI{α:Type}{us:List α}{n:Nat}(e:us.length=n+1):∃ u t,t.length=n/\us=u::t:=by
 cases us with
 | nil=>cases e
 | cons u t=>exact⟨u,t,Nat.succ.inj e,rfl⟩
theorem bd1{c:Str}(h:∀ j a d g i ct b,bindArgs (fnOf x qual (dR st) (cI st) (aQ st) .none j a d g i ct) ⟨[b],[]⟩=pure ([c].zip [b]):=by intros;rfl):Bd x qual st [c]:=by
 intro _ _ _ _ _ _ _ e;(iterate 1 (obtain⟨_,_,f,rfl⟩:=xI e;clear e;have e:=f;clear f));cases Oh e;exact h ..
theorem bd2{g b:Str}(h:∀ l a i j k ct c d,bindArgs (fnOf x qual (dR st) (cI st) (aQ st) .none l a i j k ct) ⟨[c,d],[]⟩=pure ([g,b].zip [c,d]):=by intros;rfl):Bd x qual st [g,b]:=by
 intro _ _ _ _ _ _ _ e;(iterate 2 (obtain⟨_,_,f,rfl⟩:=xI e;clear e;have e:=f;clear f));cases Oh e;exact h ..
theorem bd3{j d b:Str}(h:∀ n a k l m ct g i c,bindArgs (fnOf x qual (dR st) (cI st) (aQ st) .none n a k l m ct) ⟨[g,i,c],[]⟩=pure ([j,d,b].zip [g,i,c]):=by intros;rfl):Bd x qual st [j,d,b]:=by
 intro _ _ _ _ _ _ _ e;(iterate 3 (obtain⟨_,_,f,rfl⟩:=xI e;clear e;have e:=f;clear f));cases Oh e;exact h ..
theorem bd4{l i c d:Str}(h:∀ p a m n o ct j k g b,bindArgs (fnOf x qual (dR st) (cI st) (aQ st) .none p a m n o ct) ⟨[j,k,g,b],[]⟩=pure ([l,i,c,d].zip [j,k,g,b]):=by intros;rfl):Bd x qual st [l,i,c,d]:=by
 intro _ _ _ _ _ _ _ e;(iterate 4 (obtain⟨_,_,f,rfl⟩:=xI e;clear e;have e:=f;clear f));cases Oh e;exact h ..
theorem bd5{n k g i b:Str}(h:∀ r a o p q ct l m j d c,bindArgs (fnOf x qual (dR st) (cI st) (aQ st) .none r a o p q ct) ⟨[l,m,j,d,c],[]⟩=pure ([n,k,g,i,b].zip [l,m,j,d,c]):=by intros;rfl):Bd x qual st [n,k,g,i,b]:=by
 intro _ _ _ _ _ _ _ e;(iterate 5 (obtain⟨_,_,f,rfl⟩:=xI e;clear e;have e:=f;clear f));cases Oh e;exact h ..
theorem bd6{p m i j b d:Str}(h:∀ t a q r s ct n o k g c l,bindArgs (fnOf x qual (dR st) (cI st) (aQ st) .none t a q r s ct) ⟨[n,o,k,g,c,l],[]⟩=pure ([p,m,i,j,b,d].zip [n,o,k,g,c,l]):=by intros;rfl):Bd x qual st [p,m,i,j,b,d]:=by
 intro _ _ _ _ _ _ _ e;(iterate 6 (obtain⟨_,_,f,rfl⟩:=xI e;clear e;have e:=f;clear f));cases Oh e;exact h ..
local macro_rules | `(tactic| ac_rfl)=>`(tactic| exact ⟨rfl,rfl,rfl,by decide+kernel,rfl,by decide+kernel,by decide+kernel⟩)
def okc(B:Bt3 Z)(D:De Z.K x st)(e:Rk N sp t)(b:Bd x x st ps)(g:∀{f},Hb Z N x st f k t)(S:jk N ps (aQ st):=by ac_rfl)(c:Ln ps sp:=by walk_at "l"):Cal Z.P Z.w Z.K Z.mg Z.base (k+1) x ps sp:=
 let ⟨f,d,a,F⟩:=D.ex
 ⟨f,d,okf F S e g c,B.ns a,F.kp,F.binds b⟩
structure Mo(Z:Z5)(k:Nat)(f:Addr)(ps:List Str)(sp:Sp):Prop where
 ex:∃ fd:FuncData,FnOk Z.P Z.w Z.K Z.mg Z.base CX0 k f fd ps sp/\Binds Z.K fd ps []/\isFn Z.K (.ref f)=true/\keepIn Z.K (.ref f)=true
def okm(D:Me Z.K x qual st f)(d:Rk N sp t)(b:Bd x qual st ps)(e:Hb Z N qual st f k t)(S:jk N ps (aQ st):=by ac_rfl)(a:Ln ps sp:=by walk_at "l"):Mo Z (k+1) f ps sp:=
 let ⟨c,F,n⟩:=D.ex
 ⟨c,okf F S d e a,F.binds b,n,F.kp⟩
theorem Mo.at{C:Addr}(T:Mo Z k f ps sp)(cl:Cls Z.K C)(a:findIn Z.K (.ref C) m=some ↑f)(d:∀ vs H Q E,sp' vs H Q E->sp vs H Q E)(g:k<=k':=by decide):∃(f:Addr) (c:FuncData),Cls Z.K C/\Meth Z.K C m f/\FnOk Z.P Z.w Z.K Z.mg Z.base CX0 k' f c ps sp'/\Binds Z.K c ps []:=
 let ⟨c,F,b,n,e⟩:=T.ex
 ⟨f,c,cl,⟨a,n,e⟩,(F.mono g).imp d,b⟩
def Mo.mke{C:Addr}(T:Mo Z k f ps sp)(B:Bt3 Z)(c:ClsP Z.K x C f):KCal Z.P Z.w Z.K Z.mg Z.base k x C ps sp:=
 let ⟨a,F,b,n,_⟩:=T.ex
 ⟨f,a,⟨c.m1,c.m2,n,c.m4⟩,F,B.ns c.q,b⟩
def De.of{K:Frag}{f:Addr}{b:FuncData}(a:nsIn K mainGlobals x=some ↑f)(F:Fun K x x st f b):De K x st:=⟨f,b,a,F⟩
def Me.of{K:Frag}{f:Addr}{a:FuncData}(F:Fun K x qual st f a)(n:isFn K (.ref f)=true):Me K x qual st f:=⟨a,F,n⟩
structure GT0(K:Frag)(x:Str)(ws:List Str):Prop where
 ex:∃(p:Addr) (o:Obj) (MS:Array Value) (n:Nat),nsIn K mainGlobals x=some ↑p/\K.lookup p=some o/\o.cls=.type "tuple"/\o.data=.seq MS n/\MS.size<=sizeLine/\Vals (ws.map V.str) MS.toList
def GT0.mk'{K:Frag}{f:List Str}{p:Addr}{o:Obj}{MS:Array Value}{n:Nat}(a:nsIn K mainGlobals x=some ↑p)(b:K.lookup p=some o)(c:o.cls=.type "tuple")(d:o.data=.seq MS n)(e:MS.size<=sizeLine)(v:Vals (f.map V.str) MS.toList):GT0 K x f:=⟨p,o,MS,n,a,b,c,d,e,v⟩
def GT0.of{b:List Str}(g:GT0 Z.K x b)(B:Bt3 Z):GTup Z.K Z.mg x b:=let ⟨p,o,i,n,a,r⟩:=g.ex;⟨p,o,i,n,B.ns a,r⟩
structure GD0(w:World)(K:Frag)(x:Str)(D:List (Str × List Str)):Prop where
 ex:∃(p:Addr) (o:Obj) (es:Array DictEntry) (ep:Nat),nsIn K mainGlobals x=some ↑p/\K.lookup p=some o/\o.ExactDict/\o.data=.dict es ep/\DRows w K es.toList D/\(D.map λx=>x.1).Nodup
def GD0.of{D:List (Str × List Str)}(g:GD0 Z.w Z.K x D)(B:Bt3 Z):GDict Z.w Z.K Z.mg x D:=let ⟨p,o,i,n,a,r⟩:=g.ex;⟨p,o,i,n,B.ns a,r⟩
end
section
variable{X:Cx}{a b e:Expr}{ta tb te:TE}{pos pos' p:Pos}{x:Str}{es:List Expr}{t:TA}{ps:List Str}{sp:Sp}{k n:Nat}
theorem kcal(C:Cal X.prog X.w X.K X.mg X.base k x ps sp)(h:Room n X.A)(c:PA X (e::es) t)(d:k<=n:=by decide)(f:Gl X x:=by exact rfl)(b:(x==("__debug__":Str))=false:=by decide)(g:starEach (e::es) X.env=(false,eval e X.env)::starEach es X.env:=by rfl)(a:(backTo pos (starEach es X.env)).any (·.1)=false:=by rfl):PE X (.Call (.Name x p) (e::es) [] pos) (tCall sp [] E0 t):=Ic C h d f c b g a
theorem kix(f:X.A.units+64<cLine)(d:PE X a ta)(c:PE X b tb)(e:xc b:=by exact λ_ _=>rfl):PE X (.Subscript a b pos) (tOp cIx ta tb):=vh (Ia f) d c e
theorem kset(i:Nat)(d:X.N.Nodup)(c:PE X e te)(b:X.N[i]? =some x:=by exact rfl)(f:Loc X.env.scope x:=by exact Or.inl rfl)(g:swapsWith e (some (.Name x pos')) pos.line X.env=pure false:=by rfl)(a:X.fn x=true\/X.env.scope.names.lookup x=some .local:=by first | exact .inl rfl | exact .inr rfl | assumption):PS X (.Assign [.Name x pos'] e pos) (tAsg te (gName i)):=e6 d b f c g a
end
def tabP(K:Frag)(x:Str):Addr:=match PySem.W.tabIn K x with | some (_,P)=>P | none=>0
variable{K:Frag}{c P:Addr}
theorem Cq{x:Str}(h:PySem.W.tabIn K x=some (c,P)):tabP K x=P:=by unfold tabP;rw[h]
structure CdP(K:Frag)(c P:Addr):Prop where
 ex:∃(o:Obj) (vs:Array Value) (file:Str) (tf:Tok) (flags:Int) (tg:Tok) (inF:Bool) (text:Int) (tt:Tok),K.lookup c=some o/\o.cls=.type "code"/\o.data=.fields vs/\vs[11]? =↑P/\vs.getD 11 .none=.ref P/\vs.getD 18 .none=.str file tf/\vs.getD 7 .none=.int flags tg/\vs.getD 9 .none=.bool inF/\vs.getD 10 .none=.int text tt/\c≠P
variable{vs:Array Value}
def CdP.mk'{o:Obj}{n:Str}{q s r:Tok}{h m:Int}{p:Bool}(a:K.lookup c=some o)(b:o.cls=.type "code")(d:o.data=.fields vs)(e:vs[11]? =↑P)(f:vs.getD 11 .none=.ref P)(g:vs.getD 18 .none=.str n q)(i:vs.getD 7 .none=.int h s)(j:vs.getD 9 .none=.bool p)(k:vs.getD 10 .none=.int m r)(l:c≠P):CdP K c P:=⟨o,vs,n,q,h,s,p,m,r,a,b,d,e,f,g,i,j,k,l⟩
theorem CdP.hd{h:Heap}(x:CdP K c P)(X:K.In h):PySem.W.CodeHd h c P:=by
 obtain⟨o,vs,e,g,b,j,f,d,i,a,r⟩:=x.ex;exact⟨o,vs,e,g,b,j,f,d,i,X _ _ a,r⟩
theorem CdP.tab{h:Heap}(x:CdP K c P)(X:K.In h):isCodeTable h P:=by
 obtain⟨o,vs,i,k,f,m,j,g,l,a,b,d,e,_⟩:=x.ex;exact⟨c,o,vs,X _ _ a,b,d,e⟩
theorem AO{x:Str}{f:Addr}{cl g:Value}{j d:Option Addr}{i:FuncData}{k h:Array (Option Value)}(a:nsIn K mainGlobals x=some ↑f)(b:K.lookup f=some ⟨cl,j,.func i,k⟩)(e:i.code=.ref c)(l:K.lookup c=some ⟨g,d,.fields vs,h⟩)(v:vs[11]? =↑P):PySem.W.tabIn K x=some (c,P):=by
 have m:List.lookup f K=some ⟨cl,j,.func i,k⟩:=b;have n:List.lookup c K=some ⟨g,d,.fields vs,h⟩:=l;unfold PySem.W.tabIn;rw[a];simp only[m,e,n,v]
section
variable{Z:Z5}{N ps:List Str}{k:Nat}{sp:Sp}{t:TS}{x qual:Str}{st:Stmt}{c P:Addr}
abbrev Ca9(Z:Z5)(k:Nat)(x:Str)(ps:List Str)(sp:Sp):Prop:=Cal Z.P Z.w Z.K Z.mg Z.base k x ps sp
abbrev HbT(Z:Z5)(N:List Str)(qual:Str)(st:Stmt)(f c:Addr)(k:Nat)(t:TS):Prop:=∀{A:Around} {a:List Env} {s:Shared} {H:Hp} {E:XK},Room k (A.deeper (envOfC qual (aQ st) s.heap.objs.size f (.ref c)))->(A.deeper (envOfC qual (aQ st) s.heap.objs.size f (.ref c))).units+64<cLine->N.Nodup->PSs (cxOf CX0 Z.P Z.w Z.K Z.mg Z.base N qual (aQ st) f (.ref c) A a s H E).nox (cI st) t
theorem sr:∀{l:List (Str × NameKind)} {x:Str} {k:NameKind},l.lookup x=some k->(x,k)∈l
 | (y,j)::l,x,k,h=>by
  rw[N5]at h
  split at h
  . rename_i e
    have a:x=y:=by simpa using e
    cases h;rw[a];exact .head _
  . exact .tail _ (sr h)
theorem okfT{f:Addr}{r:FuncData}(F:Fun Z.K x x st f r)(a:nsIn Z.K mainGlobals x=some ↑f)(S:jk N ps (aQ st))(I:Rk N sp t)(T:PySem.W.tabIn Z.K x=some (c,P))(u:HbT Z N x st f c k t)(i:Ln ps sp):FnOk Z.P Z.w Z.K Z.mg Z.base CX0 (k+1) f r ps sp:=by
 obtain⟨C,v,J,d,z,D,l,B,n,rfl,g,b⟩:=F.ex;have m:List.lookup f Z.K=some ⟨C,v,.func (fnOf x x (dR st) (cI st) (aQ st) .none J d z D l B),n⟩:=g
 have e:l=.ref c:=by
  unfold PySem.W.tabIn at T;rw[a]at T;simp only[m]at T
  clear g b
  cases l with
  | ref y=>
   dsimp only[fnOf]at T
   cases q:List.lookup y Z.K with
   | none=>rw[q]at T;cases T
   | some o=>
    rw[q]at T;obtain⟨cl,L,G,M⟩:=o
    cases G with
    | fields vs=>
     dsimp only at T
     split at T
     . cases T;rfl
     . cases T
    | _=>cases T
  | _=>cases T
 subst e;refine Gj g b S (λ_ _ _ _ h=>i h) λA j s H vs Q E p h=>⟨t,(u p p.units S.nd).nox,I h⟩
local macro_rules | `(tactic| walk_at "l")=>`(tactic| (intro vs H Q E h; (repeat obtain ⟨_,h⟩:=h); subst_vars; rfl))
local macro_rules | `(tactic| ac_rfl)=>`(tactic| exact ⟨rfl,rfl,rfl,by decide+kernel,rfl,by decide+kernel,by decide+kernel⟩)
def okcT(B:Bt3 Z)(D:De Z.K x st)(g:Rk N sp t)(b:Bd x x st ps)(T:PySem.W.tabIn Z.K x=some (c,P))(h:∀{f},HbT Z N x st f c k t)(S:jk N ps (aQ st):=by ac_rfl)(d:Ln ps sp:=by walk_at "l"):Ca9 Z (k+1) x ps sp:=
 let ⟨f,e,a,F⟩:=D.ex
 ⟨f,e,okfT F a S g T h d,B.ns a,F.kp,F.binds b⟩
theorem BK {X:Cx} {e:Expr} {te:TE} {p pos z S D E H:Pos} {F v q:Str} {i:Nat} {ps:Arguments} {sc:Scope} (U:PySem.W.tabIn X.K x=some (c,P)) (f:Gl X "sorted") (J:X.mg "sorted"=none) (I:X.A.depth<recursionLimit) (a:X.env.code=.ref c) (u:PySem.W.CodeHd X.base c P) (C:X.base.BuiltinsAt X.mg P) (o:mainGlobals≠P) (T:PE X e te) (Q:X.N[i]? =some F) (l:X.env.scope.names.lookup F=some .cell) (O:X.env.qual++"<lambda>"=q)
  (B:defaultsOf ps X.env=([],[])) (d:(sc.names.all λy=>!(y.2==.free)||y.1==F)=true) (G:(sc.names.all λy=>!(y.2==.cell))=true)
  (g:∀ cl M c' h x t,bindArgs (PySem.W.kla_fn "<lambda>" q ps (.Subscript (.Name F D) (.Name v E) H) sc cl M (.ref c') h) ⟨[.int x t],[]⟩=pure [(v,.int x t)])
  (L:sc.kind=.function) (r:sc.isCoroutine=false) (w:sc.isGenerator=false) (R:sc.names.lookup v=some .local) (b:sc.names.lookup F=some .free)
  (m:(F==("__debug__":Str))=false:=by decide) (s:(F==("__classdict__":Str))=false:=by decide) (n:(v==("__debug__":Str))=false:=by decide)
  (j:starEach [e] X.env=[(false,eval e X.env)]:=by rfl):
  PE X (.Call (.Name "sorted" p) [e] [⟨some "key",.Lambda ps (.Subscript (.Name F D) (.Name v E) H) sc z,S⟩] pos) (qA (tabP X.K x) z.line z.col q te i):=by
 rw[Cq U];rw[Na]at d G;refine Dh f J I a u C o T Q l O B (λy k=>?_) (sr b) g L r w (λy k e=>?_) R b m s n j
 . have:=d _ k
   simpa using this
 . have:=G _ k;rw[e]at this;cases this
end
def kY(h w m:Int)(fl:∅):∅:=(rngL 0 (h*w)).filter λc=>decide (fl.getD c.toNat 0=m)
theorem rng29{n x:Int}:x∈rngL 0 n↔0<=x/\x<n:=by
 unfold rngL;rw[Nl];constructor
 . rintro⟨k,c,rfl⟩;have:=Nj.mp c;lia
 . rintro⟨a,b⟩;exact⟨x.toNat,Nj.mpr #[4],by lia⟩
variable{h w m:Int}{fl:∅}
theorem sgC29_mem{c:Int}:c∈kY h w m fl↔(0<=c/\c<h*w)/\fl.getD c.toNat 0=m:=by
 unfold kY;rw[Nf,rng29,M4]
abbrev o9(h w m:Int)(fl:∅):Prop:=∀ a∈kY h w m fl,∀ b∈kY h w m fl,RC h w (kY h w m fl) a b
abbrev zy(h w m:Int)(fl:∅):Prop:=∀ a∈kY h w m fl,((besL h w a).filter λc=>decide (fl.getD c.toNat 0=m)).length=2
abbrev wl(h w m:Int)(fl:∅):Prop:=∀ i:Nat,i < (h*w).toNat->cornB h w i=true->∃ c∈sqL w i,fl.getD c.toNat 0≠m
def Di(h w m:Int)(k:RK)(fl:∅):Prop:=match k with
 | .Joined=>o9 h w m fl
 | .Ring=>o9 h w m fl/\zy h w m fl
 | .NoSquare=>wl h w m fl
 | _=>False
structure Ans29(h w g m:Int)(k:RK)(MN fl:∅):Prop where
 F:FlOk h w g
 fll:fl.length=(h*w).toNat
 ml:MN.length=(h*w).toNat
 mm:∀ x∈MN,0<=x/\x<64
 sg:∀ x∈fl,1<=x/\x<=g
 st:∀ k,k<fl.length->stB (MN.getD k 0) (fl.getD k 0)=true
 m0:1<=m
 m1:m<=g
 R:Di h w m k fl
variable{MN:∅}
theorem Ans29.at_{g:Int}{k:RK}(A:Ans29 h w g m k MN fl){c:Int}(c0:0<=c)(b:c<h*w):(0<=MN.getD c.toNat 0/\MN.getD c.toNat 0<64)/\(1<=fl.getD c.toNat 0/\fl.getD c.toNat 0<=g)/\stB (MN.getD c.toNat 0) (fl.getD c.toNat 0)=true:=by
 have d:=A.fll;have a:=A.ml;have h1:c.toNat<fl.length:=by lia
 have h2:c.toNat<MN.length:=by lia
 refine⟨?_,?_,A.st _ h1⟩
 . rw[List.getD,M0 h2];exact A.mm _ (NB h2)
 . rw[List.getD,M0 h1];exact A.sg _ (NB h1)
theorem Ans29.one{g:Int}{k:RK}(A:Ans29 h w g m k MN fl){c:Int}(c0:0<=c)(b:c<h*w)(hw:woI (MN.getD c.toNat 0) m=0):fl.getD c.toNat 0=m:=by
 have a:=A.at_ c0 b;have d:=A.F.g1;have e:=A.m1;exact As a.1.1 a.1.2 A.m0 #[4] a.2.1.1 #[4] hw a.2.2
theorem Cr{cs f:∅}{a b:Int}(d:∀ c∈cs,c∈f)(r:RC h w cs a b)(e:(!rcB h w f a b)=true):False:=by
 unfold rcB at e;rw[Od]at e;exact(@of_decide_eq_false _ (Classical.propDecidable _) e) (r.less d)
variable{ms:∅}
theorem JB{g:Int}{k:RK}{z s:Int}(A:Ans29 h w g m k MN fl)(J:o9 h w m fl)(t:0<=z)(u:z<h*w)(l:reaB h w (rngL 0 (h*w)) m MN z s ms=true):fl.getD z.toNat 0≠s:=by
 intro e;unfold reaB at l;rw[M9]at l
 have q:∀ o∈ms,(0<=o/\o<h*w)/\o≠z/\fl.getD o.toNat 0=m:=λo r=>by
  have:=Na.mp l.1 o r;unfold anoB at this;simp only[M9,M4,Od,Oe]at this;exact⟨this.1,this.2.1,A.one this.1.1 this.1.2 this.2.2⟩
 have h2:=l.2;by_cases j:s=m
 . rw[NA j]at h2;rw[M9]at h2;have p:=Nb h2.1
   match ms,p with
   | [o],_=>
    have a:=q o Nh;refine Cr (λc n=>?_) (J z (sgC29_mem.mpr ⟨⟨t,u⟩,e.trans j⟩) o (sgC29_mem.mpr ⟨a.1,a.2.2⟩)) h2.2;obtain⟨d,i⟩:=sgC29_mem.mp n;by_cases f:c=z
    . rw[f];exact Ny.mpr (.inr Nh)
    . refine Ny.mpr (.inl ?_);unfold thrL;refine Nf.mpr ⟨Nf.mpr ⟨rng29.mpr d,by simp[f]⟩,?_⟩;have:=(A.at_ d.1 d.2).2.2;rw[i]at this;exact this
 . rw[Nt j]at h2;rw[M9,M9]at h2;have p:=Nb h2.1
   match ms,p with
   | [o,o2],_=>
    have a:=q o Nh;have b:=q o2 (Ni _ Nh);refine Cr (λc n=>?_) (J o (sgC29_mem.mpr ⟨a.1,a.2.2⟩) o2 (sgC29_mem.mpr ⟨b.1,b.2.2⟩)) h2.2.2;obtain⟨d,i⟩:=sgC29_mem.mp n;have f:c≠z:=λf=>j (by rw[f]at i;exact e.symm.trans i);unfold thrL;refine Nf.mpr ⟨Nf.mpr ⟨rng29.mpr d,by simp[f]⟩,?_⟩;have:=(A.at_ d.1 d.2).2.2;rw[i]at this;exact this
theorem JC{g:Int}{k:RK}{z s:Int}(A:Ans29 h w g m k MN fl)(J:wl h w m fl)(p:squB h w m MN z s ms=true):fl.getD z.toNat 0≠s:=by
 intro e;unfold squB at p;simp only[M9,M4,Od,Oe]at p;obtain⟨v,_,f,y⟩:=p;generalize ms.getD 0 0=c at*;have D:=A.F.w0
 have b:∀ x∈rosL h w c z,0<=x/\x<h*w:=λx j=>by
  have:=(EF (n:=(h*w).toNat) (c:=c) (z:=z) A.F rfl).2 x j;lia
 have d:∀ x∈rosL h w c z,woI (MN.getD x.toNat 0) s=0:=λx j=>by
  have t:((sgAt MN (rosL h w c z)).filter λk=>decide (woI k s=0)).length=(sgAt MN (rosL h w c z)).length:=by rw[y];unfold sgAt;rw[MZ]
  have:=List.length_filter_eq_length_iff.mp t (MN.getD x.toNat 0) (by unfold sgAt;exact Nl.mpr ⟨x,j,rfl⟩);exact Nb this
 unfold rosL at f d b
 cases o:(squL h w).find? (rosP c z) with
 | none=>rw[o]at f;exact f rfl
 | some q=>
  rw[o]at d b;dsimp only at d b;obtain⟨i,C,B,rfl⟩:=o5 (Qe o);obtain⟨x,j,nx⟩:=J i C B;by_cases u:x=z
  . rw[u]at nx;exact nx (e.trans v)
  . have l:x∈(sqL w i).filter λx=>!decide (x=z):=Nf.mpr ⟨j,by simp[u]⟩;have r:=b x l;have a:=d x l;rw[v]at a;exact nx (A.one r.1 r.2 a)
theorem Dj{p:Int->Bool}{z:Int}:∀{l:∅},z∈l->p z=true->((l.filter λx=>!decide (x=z)).filter p).length+1<=(l.filter p).length
 | [],h,_=>by cases h
 | x::r,h,hp=>by
  have le:((r.filter λx=>!decide (x=z)).filter p).length<=(r.filter p).length:=by
   rw[Qb,← OI,← OI];exact QL λa _ c=>(by rw[M9]at c;exact c.1)
  by_cases e:x=z
  . subst e;rw[OZ (by simp),OG (p:=p) hp,NJ];lia
  . have d:=Dj (l:=r) (p:=p) ((Ng.mp h).resolve_left (P1 e)) hp;rw[OG (by simp[e])];by_cases b:p x=true
    . rw[OG b,OG b,NJ,NJ];lia
    . rw[OZ b,OZ b];exact d
theorem pb{f g:Int->Bool}{l:∅}(h:∀ x∈l,f x=true->g x=true):(l.filter f).length<=(l.filter g).length:=by
 rw[← OI,← OI];exact QL h
theorem E5(cs:∅):mayN MN m cs=(cs.filter λc=>stB (MN.getD c.toNat 0) m).length:=by
 unfold mayN sgAt;rw[OH,MZ];rfl
theorem E6(cs:∅):onlN MN m cs=(cs.filter λc=>decide (woI (MN.getD c.toNat 0) m=0)).length:=by
 unfold onlN sgAt;rw[OH,MZ];rfl
theorem IX{g:Int}{k:RK}{z s:Int}(A:Ans29 h w g m k MN fl)(J:zy h w m fl)(v:0<=z)(y:z<h*w)(d:turnB h w m MN z s ms=true):fl.getD z.toNat 0≠s:=by
 intro e;have f:∀ a,0<=a->a<h*w->∀ x∈besL h w a,0<=x/\x<h*w:=λa G I=>(se A.F G I).2
 have n:∀ cs:∅,(∀ x∈cs,0<=x/\x<h*w)->(cs.filter λc=>decide (fl.getD c.toNat 0=m)).length<=mayN MN m cs:=λcs u=>by
  rw[E5];refine pb λx j i=>?_;have:=(A.at_ (u x j).1 (u x j).2).2.2;rw[Nb i]at this;exact this
 have B:∀ cs:∅,(∀ x∈cs,0<=x/\x<h*w)->onlN MN m cs<=(cs.filter λc=>decide (fl.getD c.toNat 0=m)).length:=λcs u=>by
  rw[E6];refine pb λx j i=>M3 ?_;exact A.one (u x j).1 (u x j).2 (Nb i)
 unfold turnB at d;by_cases D:ms=[]
 . rw[NA D]at d;simp only[M9,OS,M4]at d;obtain⟨l,d⟩:=d;have t:=J z (sgC29_mem.mpr ⟨⟨v,y⟩,e.trans l⟩);have a:=n _ (f z v y);have b:=B _ (f z v y);lia
 . rw[Nt D]at d;simp only[M9,M4]at d;obtain⟨_,C,hw,d⟩:=d;generalize ms.getD 0 0=o at*;have r:=f z v y o C;have H:=A.one r.1 r.2 hw;have E:z∈besL h w o:=zX (by have:=A.F.w0;lia) v y C;have t:=J o (sgC29_mem.mpr ⟨r,H⟩);have q:∀ x∈arL h w o z,0<=x/\x<h*w:=λx j=>f o r.1 r.2 x (Nf.mp j).1;by_cases l:s=m
   . rw[NA l,M4]at d;have b:=B _ q;have c:=Dj (p:=λc=>decide (fl.getD c.toNat 0=m)) E (M3 (e.trans l));unfold arL at b d;lia
   . rw[Nt l,M4]at d;have a:=n _ q
     have c:((besL h w o).filter λc=>decide (fl.getD c.toNat 0=m)).length<=((arL h w o z).filter λc=>decide (fl.getD c.toNat 0=m)).length:=by
      unfold arL;rw[Qb];refine pb λx _ i=>?_;have:x≠z:=λK=>l (by rw[K]at i;exact e.symm.trans (Nb i));simp only[i,this,QW,OO,PH]
     lia
structure AnsA(h w g:Int)(MP:List RR)(cl MN fl:∅):Prop where
 F:FlOk h w g
 fll:fl.length=(h*w).toNat
 ml:MN.length=(h*w).toNat
 mm:∀ m∈MN,0<=m/\m<64
 sg:∀ x∈fl,1<=x/\x<=g
 st:∀ k,k<fl.length->stB (MN.getD k 0) (fl.getD k 0)=true
 cu:∀ k,k<fl.length->cl.getD k 0=0\/cl.getD k 0=fl.getD k 0
 ok:∀ x∈MP,x.Ok h w g
 ho:∀ x∈MP,hoB x.k h w x.cs x.n x.m fl=true
variable{h w g:Int}{MP:List RR}{MN fl:∅}
theorem AnsA.at_{cl:∅}(A:AnsA h w g MP cl MN fl)(c:Int)(c0:0<=c)(b:c<h*w):(0<=MN.getD c.toNat 0/\MN.getD c.toNat 0<64)/\(1<=fl.getD c.toNat 0/\fl.getD c.toNat 0<=g)/\stB (MN.getD c.toNat 0) (fl.getD c.toNat 0)=true:=by
 have d:=A.fll;have a:=A.ml;have h1:c.toNat<fl.length:=by lia
 have h2:c.toNat<MN.length:=by lia
 refine⟨?_,?_,A.st _ h1⟩
 . rw[List.getD,M0 h2];exact A.mm _ (NB h2)
 . rw[List.getD,M0 h1];exact A.sg _ (NB h1)
abbrev AtA(m g:Int)(MN fl:∅):Prop:=∀ c:Int,0<=c->c<m->(0<=MN.getD c.toNat 0/\MN.getD c.toNat 0<64)/\(1<=fl.getD c.toNat 0/\fl.getD c.toNat 0<=g)/\stB (MN.getD c.toNat 0) (fl.getD c.toNat 0)=true
variable{m z s:Int}{ms:∅}
theorem oO{y:RR}{t:TK}(Y:g<=6)(s0:1<=s)(s1:s<=g)(d:AtA m g MN fl)(i:∀ c∈y.cs,0<=c/\c<m)(u:(y.cs.map λc=>fl.getD c.toNat 0).Nodup)(G:z∈y.cs)(R:t=.only\/t=.place\/t=.pair)(h:li g t y MN z s ms=true):fl.getD z.toNat 0≠s:=by
 intro e;rcases R with rfl | rfl | rfl
 . unfold li onlyB at h;simp only[M9,M4,Nf,Od,Oe]at h;obtain⟨_,⟨f,j⟩,hw⟩:=h;generalize ms.getD 0 0=o at*;have K:=i o f;have a:=d _ K.1 K.2;have P:=As a.1.1 a.1.2 s0 #[4] a.2.1.1 #[4] hw a.2.2;exact zx u f G j (P.trans e.symm)
 . unfold li vP at h;simp only[M9,M4,Od,Oe]at h;obtain⟨C,_,j,⟨Q,U⟩,D⟩:=h;generalize ms.getD 0 0=x at*
   have O:=II (x:=x) u (λv S=>by
    obtain⟨c,q,rfl⟩:=Nl.mp S;exact(d _ (i c q).1 (i c q).2).2.1) (by rw[MZ];exact C) Q U
   obtain⟨o,f,H⟩:=Nl.mp O;have a:=d _ (i o f).1 (i o f).2;by_cases w:o=z
   . rw[w]at H;exact j (H.symm.trans e)
   . have A:MN.getD o.toNat 0∈(sgAt MN (y.cs.filter λx=>!decide (x=z))).filter λm=>stB m x:=by
      refine Nf.mpr ⟨?_,?_⟩
      . unfold sgAt;exact Nl.mpr ⟨o,Nf.mpr ⟨f,by simp[w]⟩,rfl⟩
      . have:=a.2.2;rw[H]at this;exact this
     rw[Pp.mp D]at A;cases A
 . unfold li pairB at h;rw[M9]at h;obtain⟨f,C⟩:=h;unfold ordB at f;simp only[M9,M4]at f C;obtain⟨_,m0,T,p⟩:=f;unfold orM at C;generalize ms.getD 0 0=a at*;generalize ms.getD 1 0=b at*;have r:=Nf.mp m0;have B:=Nf.mp T;simp only[Od,Oe]at r B;have E:a≠b:=λn=>by rw[n]at p;exact absurd p (Oj _)
   have I:=i a r.1;have J:=i b B.1;have k:=d _ I.1 I.2;have l:=d _ J.1 J.2;have X:=zx u r.1 G r.2;have nb:=zx u B.1 G B.2;have F:=zx u r.1 B.1 E;have M:=Cj k.1.1 k.1.2 l.1.1 l.1.2 k.2.1.1 #[4] (.inl k.2.2);have N:=Cj k.1.1 k.1.2 l.1.1 l.1.2 l.2.1.1 #[4] (.inr l.2.2);have L:fl.getD a.toNat 0∈(sgL (Builtin.bitOr (MN.getD a.toNat 0) (MN.getD b.toNat 0))).filter λx=>!decide (x=s):=Nf.mpr ⟨M,by rw[M2 (λn=>X (n.trans e.symm))];rfl⟩;have W:fl.getD b.toNat 0∈(sgL (Builtin.bitOr (MN.getD a.toNat 0) (MN.getD b.toNat 0))).filter λx=>!decide (x=s):=Nf.mpr ⟨N,by rw[M2 (λn=>nb (n.trans e.symm))];rfl⟩;have:=Hf L W F;lia
theorem RR.ndA{r:RR}(O:r.Ok h w g):r.cs.Nodup:=by
 cases c:allK r.k with
 | false=>
  obtain⟨i,j,f,d,e⟩:=O.cl.told c;rw[e];exact List.Pairwise.map _ (λa b (h:a≠b)=>by show((a:Nat):Int)≠_;lia) d
 | true=>
  rw[(O.cl.all c).2];unfold rngL;exact List.Pairwise.map _ (λa b (h:a≠b)=>by show(0:Int)+(a:Int)≠0+(b:Int);lia) Qp
theorem AQ(f:Int->Int){z:Int}:∀{cs:∅},cs.Nodup->z∈cs->(cs.map f).sum=f z+((othL cs z).map f).sum
 | [],_,h=>by cases h
 | x::r,nd,h=>by
  rw[NY]at nd;unfold othL;by_cases e:x=z
  . subst e
    have c:(r.filter λy=>!decide (y=x))=r:=OX.mpr λy b=>by
     have:y≠x:=λe=>nd.1 (e ▸ b);simp[this]
    rw[OZ (by simp),c,NK,OM]
  . have a:=AQ f nd.2 ((Ng.mp h).resolve_left (P1 e));unfold othL at a;rw[OG (by simp[e]),NK,OM,NK,OM,a];lia
theorem F4:((List.range 64).all λm=>(List.range 6).all λj=>!stB (m:Int) (1+(j:Int))||decide (loM (m:Int)<=1+(j:Int)/\1+(j:Int)<=hiM (m:Int)))=true:=by decide+kernel
theorem Cs{x:Int}(m0:0<=m)(c:m<64)(d:1<=x)(b:x<=6)(h:stB m x=true):loM m<=x/\x<=hiM m:=by
 have t:=Na.mp (Na.mp F4 m.toNat (Nj.mpr #[4])) (x-1).toNat (Nj.mpr #[4]);have e1:((m.toNat:Nat):Int)=m:=by lia
 have a:1+(((x-1).toNat:Nat):Int)=x:=by lia
 rw[e1,a,h]at t
 simpa using t
theorem xJ{α:Type}(f g:α->Int):∀{cs:List α},(∀ c∈cs,f c<=g c)->(cs.map f).sum<=(cs.map g).sum
 | [],_=>Int.le_refl _
 | x::r,h=>by
  have:=xJ f g (cs:=r) λc a=>h c (Ni _ a);have:=h x Nh;rw[NK,NK,OM,OM];lia
variable{cs:∅}
theorem oth_memA{c:Int}:c∈othL cs z↔c∈cs/\c≠z:=by
 unfold othL;rw[Nf];simp
def IY(b:AtA m g MN fl)(d:∀ c∈cs,0<=c/\c<m):(0:Int)∉sgAt MN cs:=λh=>by
 unfold sgAt at h;obtain⟨c,f,e⟩:=Nl.mp h;have a:=b c (d c f).1 (d c f).2;rw[e,IS]at a;exact absurd a.2.2 #[1]
theorem Dk{n:Int}(t:g<=6)(f:AtA m g MN fl)(j:∀ c∈cs,0<=c/\c<m)(i:cs.Nodup)(o:z∈cs)(l:(sgAt fl cs).sum=n)(q:sumB cs n MN z s ms=true):fl.getD z.toNat 0≠s:=by
 intro e;have b:∀ c∈othL cs z,0<=c/\c<m:=λc d=>j c (oth_memA.mp d).1
 have u:=xJ (λc=>loM (MN.getD c.toNat 0)) (λc=>fl.getD c.toNat 0) (cs:=othL cs z) λc d=>by
  have a:=f c (b c d).1 (b c d).2;exact(Cs a.1.1 a.1.2 a.2.1.1 #[4] a.2.2).1
 have v:=xJ (λc=>fl.getD c.toNat 0) (λc=>hiM (MN.getD c.toNat 0)) (cs:=othL cs z) λc d=>by
  have a:=f c (b c d).1 (b c d).2;exact(Cs a.1.1 a.1.2 a.2.1.1 #[4] a.2.2).2
 have p:=AQ (λc=>fl.getD c.toNat 0) i o;unfold sumB smB at q;rw[M2 (IY f b),Of,M9,OS]at q;simp only[M4]at q;unfold sgAt at q l;rw[NH,NH]at q;have k:((othL cs z).map (loM ∘ λc=>MN.getD c.toNat 0)).sum=((othL cs z).map λc=>loM (MN.getD c.toNat 0)).sum:=rfl;have h:((othL cs z).map (hiM ∘ λc=>MN.getD c.toNat 0)).sum=((othL cs z).map λc=>hiM (MN.getD c.toNat 0)).sum:=rfl;rw[k,h]at q;have r:=q.2;lia
theorem Dl{n k:Int}(B:g<=6)(k0:1<=k)(k6:k<=6)(r:AtA m g MN fl)(y:∀ c∈cs,0<=c/\c<m)(A:z∈cs)(t:((mkAt fl cs k).length:Int)=n)(q:cntB cs n k MN z s ms=true):fl.getD z.toNat 0≠s:=by
 intro e;have b:∀ c∈othL cs z,0<=c/\c<m:=λc w=>y c (oth_memA.mp w).1;unfold cntB at q;rw[M9]at q;have h:=q.2;by_cases i:s=k
 . rw[NA i,M4]at h;have o:=E6 (MN:=MN) (m:=s) (othL cs z);unfold onlN at o;rw[o]at h
   have u:=pb (f:=λc=>decide (woI (MN.getD c.toNat 0) s=0)) (g:=λc=>decide (fl.getD c.toNat 0=k)) (l:=othL cs z) λx j d=>by
    have a:=r x (b x j).1 (b x j).2;exact M3 ((As a.1.1 a.1.2 #[4] #[4] a.2.1.1 #[4] (Nb d) a.2.2).trans i)
   have c:=Dj (p:=λc=>decide (fl.getD c.toNat 0=k)) A (M3 (e.trans i));unfold mkAt at t;unfold othL at u h;lia
 . rw[Nt i,M4]at h;have o:=E5 (MN:=MN) (m:=k) (othL cs z);unfold mayN at o;rw[o]at h
   have u:=pb (f:=λc=>decide (fl.getD c.toNat 0=k)) (g:=λc=>stB (MN.getD c.toNat 0) k) (l:=othL cs z) λx j d=>by
    have a:=r x (b x j).1 (b x j).2;rw[Nb d]at a;exact a.2.2
   have c:((cs.filter λc=>decide (fl.getD c.toNat 0=k)).length)<=((othL cs z).filter λc=>decide (fl.getD c.toNat 0=k)).length:=by
    unfold othL;rw[Qb];refine pb λx _ d=>?_;have:x≠z:=λv=>i (by rw[v]at d;exact e.symm.trans (Nb d));simp only[d,this,QW,OO,PH]
   unfold mkAt at t;lia
theorem xK:∀{xs:∅} {j:Nat},risB xs=true->j+1<xs.length->xs.getD j 0<xs.getD (j+1) 0
 | [],j,_,h=>by simp at h
 | [x],j,_,h=>by simp at h
 | x::y::r,0,hb,_=>by
  unfold risB at hb;rw[M9,M4]at hb;exact hb.1
 | x::y::r,j+1,hb,h=>by
  unfold risB at hb;rw[M9]at hb;exact xK (xs:=y::r) (j:=j) hb.2 (by simpa using h)
theorem IZ(h:z∈cs):cs.getD (fg cs z) 0=z:=by
 have a:=zv h;rw[List.getD,M0 a];have:=List.findIdx_getElem (w:=a);exact eq_of_beq this
theorem nE{j:Nat}(a:j<cs.length):(sgAt fl cs).getD j 0=fl.getD (cs.getD j 0).toNat 0:=by
 unfold sgAt;rw[List.getD,M7,M0 a];show fl.getD (cs[j]).toNat 0=_;rw[show cs.getD j 0=cs[j] by rw[List.getD,M0 a];rfl]
theorem BL(u:g<=6)(h:AtA m g MN fl)(l:∀ c∈cs,0<=c/\c<m)(i:z∈cs)(p:risB (sgAt fl cs)=true)(q:stepB cs MN z s ms=true):fl.getD z.toNat 0≠s:=by
 intro e;unfold stepB stpB at q;rw[M9,OS]at q;have t:=zv i;have n:=IZ i;have v:(sgAt fl cs).length=cs.length:=by unfold sgAt;rw[MZ]
 rcases q.2 with q | q
 . obtain⟨o,b,d⟩:=Ou.mp q;have f:=l o (Ce i b);have a:=h o f.1 f.2;unfold ahdL at b;by_cases h0:0<fg cs z
   . rw[NA h0]at b;have k:=Nd.mp b;have r:=xK (j:=fg cs z-1) p #[4];rw[show fg cs z-1+1=fg cs z by lia,nE #[4],nE t,n,← k,e]at r;unfold nogB at d;have:=Nb (Na.mp d _ ((tz a.1.1 _).mpr a.2.2));lia
   . rw[Nt h0]at b;cases b
 . obtain⟨o,b,d⟩:=Ou.mp q;have f:=l o (Cf b);have a:=h o f.1 f.2;unfold behL at b;by_cases h0:fg cs z+1<cs.length
   . rw[NA h0]at b;have k:=Nd.mp b;have r:=xK (j:=fg cs z) p #[4];rw[nE t,nE h0,n,← k,e]at r;unfold nolB at d;have:=Nb (Na.mp d _ ((tz a.1.1 _).mpr a.2.2));lia
   . rw[Nt h0]at b;cases b
theorem F5{k:RK}{n:Int}{xs ys:∅}(e:∀ c∈cs,xs.getD c.toNat 0=ys.getD c.toNat 0):hoB k h w cs n m xs=hoB k h w cs n m ys:=by
 have e1:sgAt xs cs=sgAt ys cs:=by unfold sgAt;exact OK e
 have e2:∀ m,mkAt xs cs m=mkAt ys cs m:=λm=>by
  unfold mkAt;exact Qj λc a=>by rw[e c a]
 unfold hoB;cases k <;> simp only[e1,e2]
theorem yw{f:∅}{c:Nat}(a:c<f.length):(setL f z s).getD c 0=if (c:Int)=z then s else f.getD c 0:=by
 unfold setL;rw[List.getD,M7,N8 a];rfl
theorem AR{MN fl:∅}:∀{rest:∅} {fs:List ∅} {f:∅},f∈fs->(∀ o∈rest,fl.getD o.toNat 0∈sgL (MN.getD o.toNat 0))->rest.foldl (λf o=>setL f o (fl.getD o.toNat 0)) f∈wfold MN rest fs
 | [],_,_,hf,_=>hf
 | o::r,fs,f,hf,h=>by
  unfold wfold;rw[Op,Op];refine AR (fs:=extS fs o (sgL (MN.getD o.toNat 0))) ?_ λb a=>h b (Ni _ a);unfold extS;exact Qr.mpr ⟨f,hf,Nl.mpr ⟨_,h o Nh,rfl⟩⟩
theorem Ct{fl:∅}{c:Int}(c0:0<=c):∀{rest f:∅},c.toNat<f.length->((rest.foldl (λf o=>setL f o (fl.getD o.toNat 0)) f).getD c.toNat 0=if c∈rest then fl.getD c.toNat 0 else f.getD c.toNat 0)
 | [],f,_=>by simp
 | o::r,f,h=>by
  rw[Op,Ct c0 (rest:=r) (by rw[qy];exact h),yw h];by_cases a:c∈r
  . rw[NA a,NA (Ni _ a)]
  . rw[Nt a];have b:((c.toNat:Nat):Int)=c:=by lia
    rw[b];by_cases e:c=o
    . rw[NA e,NA (by rw[e];exact Nh),e]
    . rw[Nt e,Nt (by simp[e,a])]
theorem BM{k:RK}{n:Int}(B:MN.length=(h*w).toNat)(j:AtA (h*w) g MN fl)(t:∀ c∈cs,0<=c/\c<h*w)(x:hoB k h w cs n m fl=true)(q:waysB k h w cs n m MN z s ms=true):fl.getD z.toNat 0≠s:=by
 intro e;have d:∀ c∈othL cs z,0<=c/\c<h*w:=λc l=>t c (oth_memA.mp l).1;unfold waysB at q;rw[M2 (IY j d),Of,M9,M9,Od]at q;have r:=q.2.2
 have p:=AR (MN:=MN) (fl:=fl) (rest:=othL cs z) (fs:=[setL (List.replicate MN.length 0) z s]) Nh λo i=>by
  have a:=j o (d o i).1 (d o i).2;exact(tz a.1.1 _).mpr a.2.2
 have y:hoB k h w cs n m (List.foldl (λf o=>setL f o (fl.getD o.toNat 0)) (setL (List.replicate MN.length 0) z s) (othL cs z))=hoB k h w cs n m fl:=F5 λc l=>by
  have A:=t c l;have v:c.toNat < (setL (List.replicate MN.length 0) z s).length:=by rw[qy,Pu];lia
  rw[Ct A.1 v];by_cases b:c=z
  . rw[Nt (λu=>(oth_memA.mp u).2 b),yw (by rw[Pu];lia),NA #[4],b,e]
  . rw[NA (oth_memA.mpr ⟨l,b⟩)]
 rw[Pr]at r;have:=r _ p;rw[y,x]at this;exact this rfl
theorem AS(g:0<w)(c:joinB h w (mkAt fl (rngL 0 (h*w)) m)=true):o9 h w m fl:=by
 intro a f b i;have c:=@Nb _ (Classical.propDecidable _) c;have e:mkAt fl (rngL 0 (h*w)) m=kY h w m fl:=rfl;rw[e]at c;rcases c with c | ⟨_,c⟩
 . rw[c]at f;cases f
 . have d:∀ x∈kY h w m fl,0<=x/\x<h*w:=λx j=>(sgC29_mem.mp j).1;exact(RC.symm g d (c a f)).trans (c b i)
theorem Gy(F:FlOk h w g)(f:(mkAt fl (rngL 0 (h*w)) m).all (twoB h w (mkAt fl (rngL 0 (h*w)) m))=true):zy h w m fl:=by
 intro a i;have e:mkAt fl (rngL 0 (h*w)) m=kY h w m fl:=rfl;rw[e]at f;have t:=Nb (Na.mp f a i);have d:=(sgC29_mem.mp i).1;rw[← t]
 congr 1
 refine Qj λx j=>?_;have c:=(se F d.1 d.2).2 x j;rw[ND,M4,M4,sgC29_mem];exact⟨λb=>⟨c,b⟩,λb=>b.2⟩
theorem I0(g:(!((squL h w).any λn=>n.all λc=>decide (c∈mkAt fl (rngL 0 (h*w)) m)))=true)(d:∀ q∈squL h w,∀ c∈q,0<=c/\c<h*w):wl h w m fl:=by
 intro i l j;have e:mkAt fl (rngL 0 (h*w)) m=kY h w m fl:=rfl;rw[e,Od,Pr]at g
 have f:sqL w i∈squL h w:=by
  unfold squL;exact Nl.mpr ⟨i,Nf.mpr ⟨Nj.mpr l,j⟩,rfl⟩
 have:=g _ f;refine Qf λk=>this (Na.mpr λc a=>M3 (sgC29_mem.mpr ⟨d _ f c a,?_⟩));exact Qf λb=>k ⟨c,a,b⟩
def Hv(F:FlOk h w g):∀ q∈squL h w,∀ c∈q,0<=c/\c<h*w:=λq f c d=>by
 obtain⟨i,j,a,rfl⟩:=o5 f;have e:=F.w0;have b:=Cc e (by omega:(0:Int)<=i) a;unfold sqL at d;simp only[Ng,NR,OJ]at d;omega
theorem Ja{cl:∅}{t:TK}{r:Int}(A:AnsA h w g MP cl MN fl)(G:alwA h w g MP cl MN t r z s ms=true):fl.getD z.toNat 0≠s:=by
 unfold alwA at G;rw[M9]at G;obtain⟨f,q⟩:=G;obtain⟨M,N,s0,s1,Q⟩:=fK f;have U:=A.fll;have x:=A.F.g1;have W:=A.F.w0;by_cases D:t=.clue
 . subst D;intro e;unfold strA at q;change iC g MP cl MN .clue r z s ms=true at q;unfold iC clueB at q;simp only[M9,M4,Od,Oe]at q;rcases A.cu z.toNat #[4] with c | c
   . exact q.2.1 c
   . exact q.2.2 (c.trans e)
 . obtain⟨r0,y,C,a,B⟩:=o4 D Q;have L:=M8 C;have O:=A.ok y L;have d:=A.ho y L;have H:=Qa O A.F;have n:∀ c∈y.cs,0<=c/\c<h*w:=λc E=>by have:=H.2 c E;lia
   have T:=RR.ndA O;have l:gZ h w MP MN t r z s ms=Az h w y MN t z s ms:=by unfold gZ;rw[C]
   have v:lj h w MP MN t r z s ms=Aw h w t y MN z s ms:=by unfold lj;rw[C]
   have o:iC g MP cl MN t r z s ms=li g t y MN z s ms:=by
    unfold iC;cases t <;> first | exact absurd rfl D | (dsimp only;rw[C])
   have I:y.k=.Unlike->(y.cs.map λc=>fl.getD c.toNat 0).Nodup:=λb=>by
    rw[b]at d;exact(qi _).mp (Nb d)
   have p:sgnK y.k=true->allK y.k=true->Di h w y.m y.k fl->Ans29 h w g y.m y.k MN fl:=λP _ R=>⟨A.F,U,A.ml,A.mm,A.sg,A.st,(O.m0 P).1,(O.m0 P).2,R⟩;have j:allK y.k=true->y.cs=rngL 0 (h*w):=λS=>(O.cl.all S).2;unfold strA at q;have i:=A.at_
   cases t with
   | clue=>exact absurd rfl D
   | only=>
    have b:y.k=.Unlike:=by revert a;cases y.k <;> intro a <;> first | rfl | (cases a;done)
    change iC g MP cl MN .only r z s ms=true at q;rw[o]at q;exact oO x s0 s1 i n (I b) B (.inl rfl) q
   | place=>
    have b:y.k=.Unlike:=by revert a;cases y.k <;> intro a <;> first | rfl | (cases a;done)
    change iC g MP cl MN .place r z s ms=true at q;rw[o]at q;exact oO x s0 s1 i n (I b) B (.inr (.inl rfl)) q
   | pair=>
    have b:y.k=.Unlike:=by revert a;cases y.k <;> intro a <;> first | rfl | (cases a;done)
    change iC g MP cl MN .pair r z s ms=true at q;rw[o]at q;exact oO x s0 s1 i n (I b) B (.inr (.inr rfl)) q
   | count=>
    have b:y.k=.Count:=by revert a;cases y.k <;> intro a <;> first | rfl | (cases a;done)
    change gZ h w MP MN .count r z s ms=true at q;rw[l]at q;rw[b]at d;have m0:=O.m0 (by rw[b];rfl);exact Dl x m0.1 #[4] i n B (Nb d) q
   | step=>
    have b:y.k=.Rising:=by revert a;cases y.k <;> intro a <;> first | rfl | (cases a;done)
    change gZ h w MP MN .step r z s ms=true at q;rw[l]at q;rw[b]at d;exact BL x i n B d q
   | sum=>
    have b:y.k=.Sum:=by revert a;cases y.k <;> intro a <;> first | rfl | (cases a;done)
    change gZ h w MP MN .sum r z s ms=true at q;rw[l]at q;rw[b]at d;exact Dk x i n T B (Nb d) q
   | square=>
    have b:y.k=.NoSquare:=by revert a;cases y.k <;> intro a <;> first | rfl | (cases a;done)
    change lj h w MP MN .square r z s ms=true at q;rw[v]at q;have u:=j (by rw[b];rfl)
    have R:wl h w y.m fl:=by
     rw[b,u]at d;exact I0 d (Hv A.F)
    exact JC (p (by rw[b];rfl) (by rw[b];rfl) (by rw[b];exact R)) R q
   | reach=>
    have b:y.k=.Joined\/y.k=.Ring:=by revert a;cases y.k <;> intro a <;> first | exact .inl rfl | exact .inr rfl | (cases a;done)
    change lj h w MP MN .reach r z s ms=true at q;rw[v]at q;change reaB h w y.cs y.m MN z s ms=true at q;have K:allK y.k=true/\sgnK y.k=true:=by rcases b with e | e <;> rw[e] <;> exact⟨rfl,rfl⟩
    have u:=j K.1;rw[u]at q
    have J:o9 h w y.m fl:=by
     rw[u]at d;rcases b with e | e
     . rw[e]at d;exact AS #[4] d
     . rw[e]at d;exact AS #[4] ((M9 _ _).mp d).1
    have R:Di h w y.m y.k fl:=by
     rw[u]at d;rcases b with e | e
     . rw[e];exact J
     . rw[e]at d ⊢;exact⟨J,Gy A.F ((M9 _ _).mp d).2⟩
    exact JB (p K.2 K.1 R) J M N q
   | turn=>
    have b:y.k=.Ring:=by revert a;cases y.k <;> intro a <;> first | rfl | (cases a;done)
    change lj h w MP MN .turn r z s ms=true at q;rw[v]at q;have u:=j (by rw[b];rfl)
    have R:o9 h w y.m fl/\zy h w y.m fl:=by
     rw[b,u]at d;have d:=(M9 _ _).mp d;exact⟨AS #[4] d.1,Gy A.F d.2⟩
    exact IX (p (by rw[b];rfl) (by rw[b];rfl) (by rw[b];exact R)) R.2 M N q
   | ways=>
    change gZ h w MP MN .ways r z s ms=true at q;rw[l]at q;exact BM A.ml i n d q
theorem Jb{K:Frag}{H:Hp}{Q:VK}{p:Addr}{s:Str}{a:List Str}(h:H p=some (.tup (a.map V.str))):cIn K false (.str s) (.ref p) H Q=Q (.bl (decide (s∈a))) H:=by
 unfold cIn;dsimp only;rw[h];dsimp only[unD,unS,bnd];rw[kt,jo];simp[flatV]
def unrK(k:RK):Bool:=decide (k=.Unlike)||decide (k=.Rising)
theorem JD(k:RK):decide (tx (nmC k)∈[tx s!"unlike",tx s!"rising"])=unrK k:=by cases k <;> decide+kernel
theorem JE(k:RK):decide (tx (nmC k)=tx s!"sum")=decide (k=.Sum):=by cases k <;> decide+kernel
theorem AT(k:RK):decide (tx (nmC k)=tx s!"seen")=decide (k=.Seen):=by cases k <;> decide+kernel
theorem Gz(k:RK):decide (tx (nmC k)=tx s!"count")=decide (k=.Count):=by cases k <;> decide+kernel
theorem Cu(k:RK):(nmC k).length<=20:=by cases k <;> decide
theorem toSA{i:Int}(h0:0<=i)(h1:i<100):Str.ofString (toString i)=tx (numC i.toNat)/\i.natAbs.log2<1920:=by
 have e:i=((i.toNat:Nat):Int):=by lia
 have a:=B8 (n:=i.toNat) #[4];have b:=Ca (n:=i.toNat) #[4];rw[← e]at a b;exact⟨a,b⟩
theorem AU(cs:List Nat)(k:Nat):(nsV cs).take k=nsV (cs.take k):=by unfold nsV;rw[Pj,Pj]
section
variable{c:QZ}{h w g:Int}{MP:List RR}{cl cl':∅}{ks:List TK}
theorem AV{fl:∅}(A:∀{m:∅},MkP g (h*w).toNat m->(∀ k,k<fl.length->stB (m.getD k 0) (fl.getD k 0)=true)->AnsA h w g MP cl m fl)(i:1<=g)(f:g<=6)(c:fl.length=(h*w).toNat)(j:∀ x∈fl,1<=x/\x<=g):∀{MV:List Tho} {m m':∅},MkP g (h*w).toNat m->(∀ k,k<fl.length->stB (m.getD k 0) (fl.getD k 0)=true)->Wlk h w g MP cl ks m MV m'->∀ k,k<fl.length->stB (m'.getD k 0) (fl.getD k 0)=true
 | [],m,m',X,st,W=>by cases (show m=m' from W);exact st
 | th::r,m,m',X,st,W=>by
  obtain⟨_,_,t,o,_,a⟩:=W.1;have q:=jW i f;refine AV A i f c j (X.stL i f o.1 #[4]) (λk d=>?_) W.2;have l:k<m.length:=by rw[X.len];lia
  rw[AD l]
  split
  . rename_i e
    have b:=X.mm _ (f8 l);have n:=Ja (A X st) a;have p:=j _ (f8 (ms:=fl) d);have e2:th.z.toNat=k:=by lia
    rw[e2]at n;rw[(wg (s:=th.s) b.1 #[4] o.1 #[4]).2.1 _ p.1 #[4] n];exact st k d
  . exact st k d
end
section
variable{c:QZ}{h w g:Int}{MP:List RR}{cl cl':∅}{ks:List TK}
open Classical in
end
theorem j5{b:Bool}{A B:Prop}(e:b=true)(h:A):if b=true then A else B:=by rw[e];exact iteT h
theorem gn{b:Bool}{A B:Prop}(e:b=false)(h:B):if b=true then A else B:=by rw[e];exact iteF h
section
variable{Z:Z5}{N ps:List Str}{k:Nat}{sp:Sp}{t:TS}{b x:Str}{st:Stmt}
local macro_rules | `(tactic| walk_at "l")=>`(tactic| (intro vs H Q E h; (repeat obtain ⟨_,h⟩:=h); subst_vars; rfl))
local macro_rules | `(tactic| ac_rfl)=>`(tactic| exact ⟨rfl,rfl,rfl,by decide+kernel,rfl,by decide+kernel,by decide+kernel⟩)
end
section
variable{K:Frag}{c:QZ}{d:Q0}{h w g:Int}{MP:List RR}{cl:∅}{ks:List TK}
open Classical in
end
def fc(h w c:Int):∅:=(if 0<c%w then [c-1] else [])++(if c%w<w-1 then [c+1] else [])++(if 0<c/w then [c-w] else [])++(if c/w<h-1 then [c+w] else [])
theorem wm(h w c:Int):(fc h w c).Perm (besL h w c):=by
 unfold fc besL;generalize (if 0<c%w then [c-1] else [])=b;generalize (if c%w<w-1 then [c+1] else [])=d;generalize (if 0<c/w then [c-w] else [])=a;generalize (if c/w<h-1 then [c+w] else [])=e;refine List.Perm.append_right e ?_;rw[Om a b d];exact List.perm_append_comm
theorem yx(h w c:Int):(fc h w c).length<=4:=by
 unfold fc;simp only[NG]
 split <;> split <;> split <;> split <;> simp
theorem Dm(n:Int):(rngL 0 n).Pairwise (· < ·):=by
 unfold rngL;rw[Qk];exact(List.pairwise_lt_range).imp λh=>by lia
variable{xs:∅}
theorem Hw{m N:Int}:((List.range (N-0).toNat).filter λ(i:Nat)=>decide (xs.getD (0+(i:Int)).toNat 0=m)).map (λ(i:Nat)=>0+(i:Int))=mkAt xs (rngL 0 N) m:=by
 unfold mkAt rngL;rw[OH];rfl
def F6{m N x:Int}(h:x∈mkAt xs (rngL 0 N) m):0<=x/\x<N:=o0 (Nf.mp h).1
def fI(w:Int)(cs:∅)(c:Int):Bool:=decide (c%w<w-1)&&(sqL w c).all λx=>decide (x∈cs)
variable{w:Int}
theorem F7{h g:Int}(F:FlOk h w g){cs:∅}(a:∀ x∈cs,0<=x/\x<h*w):((squL h w).any λj=>j.all λc=>decide (c∈cs))=cs.any (fI w cs):=by
 obtain⟨h0,h1,p,s,l,t,q⟩:=F;rw[ND,Ou,Ou];constructor
 . rintro⟨j,f,k⟩;unfold squL at f;obtain⟨i,n,rfl⟩:=Nl.mp f;obtain⟨_,b⟩:=Nf.mp n;unfold cornB at b;rw[M9,M4,M4]at b;have o:(i:Int)∈cs:=Nb (Na.mp k _ (by simp[sqL]));exact⟨i,o,by unfold fI;rw[M3 b.2,Nv];exact k⟩
 . rintro⟨c,b,d⟩;unfold fI at d;rw[M9,M4]at d;have r:=a c b;have hw:c+w∈cs:=Nb (Na.mp d.2 _ (by simp[sqL]));have m:=a _ hw;refine⟨sqL w c,?_,d.2⟩;unfold squL;have e:((c.toNat:Nat):Int)=c:=by lia
   refine Nl.mpr ⟨c.toNat,Nf.mpr ⟨Nj.mpr #[4],?_⟩,by rw[e]⟩;rw[e];unfold cornB;rw[M3 d.1,Bool.and_true];refine M3 ?_;have h2:(c+w)/w<h:=QI #[4] m.2;rw[Int.add_ediv_of_dvd_right (Int.dvd_refl w),Int.ediv_self #[4]]at h2;lia
theorem F8(h w:Int)(cs:∅)(c:Int):decide ((((fc h w c).filter λx=>decide (x∈cs)).length:Int)=2)=twoB h w cs c:=by
 unfold twoB;rw[((wm h w c).filter _).length_eq];rw[ND,OP,OP];lia
variable{l:∅}
theorem E7{k:Nat}(h:k<l.length):l.getD k 0∈l:=by
 rw[List.getD,M0 h];exact NB h
theorem E8(xs cs:∅)(m:Int):(((sgAt xs cs).filter λy=>decide (y=m)).length:Int)=((mkAt xs cs m).length:Int):=by
 unfold sgAt mkAt;rw[OH,MZ];rfl
def tE(l:∅)(i:Nat):Bool:=decide ((i:Int)=0)||decide (maxI (l.take i)<l.getD i 0)
theorem AW(c:Nat->Int):∀ k,argBest (λi j=>decide (c i>c j)) k<=k/\∀ j,j<=k->c j<=c (argBest (λi j=>decide (c i>c j)) k)
 | 0=>⟨Nr _,λj d=>by rw[show j=0 by lia];exact Int.le_refl _⟩
 | k+1=>by
  obtain⟨a,b⟩:=AW c k;rw[argBest];by_cases h:c (k+1)>c (argBest (λi j=>decide (c i>c j)) k)
  . rw[NA (M3 h)];refine⟨Nr _,λj d=>?_⟩;by_cases e:j=k+1
    . rw[e];exact Int.le_refl _
    . have:=b j #[4];lia
  . rw[Nt (by simpa using h)];refine⟨by lia,λj d=>?_⟩;by_cases e:j=k+1
    . rw[e];lia
    . exact b j #[4]
theorem JF(h:l≠[])(x:Int):maxI l<x↔∀ y∈l,y<x:=by
 have g:0<l.length:=PZ.mpr h;obtain⟨a,b⟩:=AW (λi=>l.getD i 0) (l.length-1);unfold maxI;generalize argBest (λi j=>decide (l.getD i 0>l.getD j 0)) (l.length-1)=k at*;constructor
 . intro c y d;obtain⟨j,f,rfl⟩:=Ov.mp d;have:=b j #[4];have e:l.getD j 0=l[j]:=by rw[List.getD,M0 f];rfl
   simp only[e]at this;lia
 . intro c;exact c _ (E7 #[4])
theorem F9{i:Nat}{x:Int}(a:l[i]? =some x):tE l i=decide (∀ y∈l.take i,y<x):=by
 have e:l.getD i 0=x:=by rw[List.getD,a];rfl
 unfold tE;rw[e];by_cases h:i=0
 . subst h;simp
 . have b:=(M6.mp a).1;rw[M2 #[4],Of,ND,OP,OP];exact JF (by intro e;have:=congrArg List.length e;rw[Oa,List.length_nil]at this;lia) x
theorem E9{l:∅}(h1:∀ y∈l,1<=y):∀ i,i<=l.length->(((List.range i).filter (tE l)).length:Int)=(seenN (l.take i)).2
 | 0,_=>rfl
 | i+1,hi=>by
  have b:=E9 h1 i #[4];have a:l[i]? =some l[i]:=M0 #[4];have c:l.take (i+1)=l.take i++[l[i]]:=by rw[Pc,a];rfl
  rw[c,EI (h1 _ (NB _)),Ob,NP,NG,Int.natCast_add,b,NX,F9 a];by_cases h:∀ y∈l.take i,y<l[i]
  . rw[NA h,M3 h];rfl
  . rw[Nt h,M2 h];rfl
def gK(K:Frag):Sp:=#[3,∃ b a,vs=[.int b,.int a]/\0<=a/\a<=16/\
 ∀(l:Addr) (H':Hp) (cs:List Nat),Same H H'->H l=none->H' l=↥(nsV cs)->cs.Nodup->(∀ c∈cs,(c:Int)<a)->(cs.length:Int)=a->Q (.ref l) H']
def j6(K:Frag):TS:=#[":gm~Va1dh#2 gmsdh#3 gK*a1dh#4 NDbER3aDbE}l2acHcT0cycVef#2 4ef#3 pza2dddj3"]
variable{K:Frag}{vs:List V}{H:Hp}{Q:VK}{E:XK}
theorem wn(h:gK K vs H Q E):j6 K (eD9 Q) (start ["_law_number","_law_many","_law_left","_law_found","_law_k"] vs) H:=by
 obtain⟨o,a,rfl,N,P,q⟩:=h;exists j6;refine⟨a,rfl,by lia,by lia,λL A=>?_⟩;obtain⟨H1,F,s1,B⟩:=aW (.lst ((rngL 0 a).map V.int)) A;rw[F];exists⟨aP #[1],λR k=>?_⟩;have g:R≠L:=λe=>by rw[e,B]at k;cases k
 refine⟨a,rfl,by lia,by lia,?_⟩
 refine jj (λi σ H'=>∃(u:Option V) (b d:∅),σ=[⇑o,⇑a,↑L,↑R,u]/\Same H H'/\H' L=↥(d.map V.int)/\H' R=↥(b.map V.int)/\(b++d).Perm (rngL 0 a)/\b.length=i)
  ⟨none,[],rngL 0 a,rfl,s1.laid k,by rw[aj g.symm];exact B,by rw[ah];rfl,List.Perm.refl _,rfl⟩ ?_ ?_
 . rintro i σ v O ⟨u,b,d,rfl,s,e1,e2,m,t⟩;have J:=m.length_eq;rw[NG,gL]at J;exists⟨aZ e2,aZ e1,.inl ⟨by decide,by decide⟩,⟨by lia,by lia⟩,?_⟩;rw[a8 e1,MZ];have f:0 < (d.length:Int):=by lia
   generalize o / (2*(0+(i:Int))+3)=y at*;have G:=NZ y (Int.ne_of_gt f);have S:=NQ y f;refine⟨f,?_⟩;generalize y % (d.length:Int)=j at*;have C:j.toNat<d.length:=by lia
   refine GY e1 G (by rw[MZ];lia) (y:=V.int d[j.toNat]) (by rw[M7,M0 C];rfl) ?_;have r:(upd v L (.lst ((d.map V.int).eraseIdx j.toNat))) R=↥(b.map V.int):=by rw[aj g];exact e2
   symm;rw[cy r];refine⟨by rw[MZ];exact aC #[4],_,b++[d[j.toNat]],d.eraseIdx j.toNat,rfl,(s.own A).own (s1.free k),?_,?_,?_,by simp[t]⟩
   . rw[aj g.symm,ah,yp]
   . rw[ah];simp
   . have D:=vH d j.toNat C;have M:=List.Perm.append_left b D;refine List.Perm.trans ?_ m;rw[Om];exact M
 . rintro σ v ⟨u,b,d,rfl,s,e1,e2,m,t⟩;symm;have p:(b++d).Nodup:=m.nodup_iff.mpr (Ez a);have z:∀ x∈b,0<=x/\x<a:=λx l=>o0 (m.mem_iff.mp (Ny.mpr (.inl l)))
   have w:(b.map Int.toNat).map (λ(n:Nat)=>(n:Int))=b:=by
    rw[NH]
    conv=>rhs;rw[← QM b]
    exact OK λx l=>by have:=z x l;show((x.toNat:Nat):Int)=x;lia
   refine q R v (b.map Int.toNat) s (s1.free k) (by unfold nsV;rw[w];exact e2) ?_ ?_ ?_
   . have h1:=(OF.mp p).1;rw[← w]at h1;exact rP _ h1
   . intro c I;obtain⟨x,l,rfl⟩:=Nl.mp I;have:=z x l;lia
   . rw[MZ,t];lia
def ga(K:Frag):Sp:=#[3,∃ h w c,vs=[.int h,.int w,.int c]/\1<=w/\w<=6/\1<=h/\h<=6/\0<=c/\c<h*w/\∀(l:Addr) (H':Hp),Same H H'->H l=none->H' l=↥((fc h w c).map V.int)->Q (.ref l) H']
def d5(K:Frag):TS:=
 (tRet (tVar 3))
def d6(K:Frag):TS:=#[":gnlc<cy21cV01NDbER3acy21do}mb"]
def d7(K:Frag):TS:=#[":gnlc)21NDbER3acO21do}nb"]
def d8(K:Frag):TS:=#[":gnlc<cH21cO1ef#1 NDbER3acy2ef#1 do}ob"]
def jc(K:Frag):TS:=#[":gmsdh#3 gnlc>cH21ef#0 NDbER3acO2ef#1 do}pb"]
theorem Ga{c:Int}(d:1<=w):w<=c↔0<c/w:=by
 have:=Int.le_ediv_iff_mul_le (a:=1) (b:=c) (c:=w) #[4];constructor
 . intro h;have:=this.mpr #[4];lia
 . intro h;have:=this.mp #[4];lia
theorem Jc{h c:Int}(d:1<=w):c+w<h*w↔c/w<h-1:=by
 have:=Int.ediv_lt_iff_lt_mul (a:=c) (b:=h-1) (c:=w) #[4];rw[this,Int.sub_mul,QO];lia
section
variable{K:Frag}{H0 H:Hp}{Q:VK}{F:Addr}{h w c:Int}{xs:∅}
theorem t6(b:1<=w)(i:w<=6)(h0:1<=h)(h6:h<=6)(s:Same H0 H)(f:H0 F=none)(e:H F=↥(xs.map V.int))(g:xs.length<=3)(q:∀ H',Same H0 H'->H' F=↥((xs++(if c/w<h-1 then [c+w] else [])).map V.int)->Q (.ref F) H'):
  d6 K (eD9 Q) [⇑h,⇑w,⇑c,↑F] H:=by
 unfold d6;rw[aG,aD];generalize d:d5 K=W at*;exists⟨nh h0 h6,?_⟩;by_cases a:c+w<h*w
 . refine j5 (M3 a) ?_;exists⟨aZ e,?_⟩;rw[cy e];refine⟨by rw[MZ];exact aC #[4],?_⟩;subst d;unfold d5;exists q _ (s.own f) (by rw[ah,NA ((Jc b).mp a)];simp)
 . refine gn (M2 a) ?_;subst d;unfold d5;exists q _ s (by rw[e,Nt (λz=>a ((Jc b).mpr z)),O3])
theorem t7(a:1<=w)(j:w<=6)(h0:1<=h)(h6:h<=6)(s:Same H0 H)(g:H0 F=none)(e:H F=↥(xs.map V.int))(k:xs.length<=2)(q:∀ H',Same H0 H'->H' F=↥((xs++(if 0<c/w then [c-w] else [])++(if c/w<h-1 then [c+w] else [])).map V.int)->Q (.ref F) H'):
  d7 K (eD9 Q) [⇑h,⇑w,⇑c,↑F] H:=by
 unfold d7;rw[aG,aD];generalize i:d6 K=W at*;symm;by_cases b:w<=c
 . refine j5 (M3 b) ?_;exists⟨aZ e,?_⟩;rw[cy e];refine⟨by rw[MZ];exact aC #[4],?_⟩;subst i;refine t6 (xs:=xs++[c-w]) a j h0 h6 (s.own g) g (by rw[ah];simp) (by simp;lia) λH' f d=>q H' f ?_;rw[NA ((Ga a).mp b)];exact d
 . refine gn (M2 b) ?_;subst i;refine t6 a j h0 h6 s g e #[4] λH' f d=>q H' f ?_;rw[Nt (λz=>b ((Ga a).mpr z)),O3];exact d
theorem t8(g:1<=w)(j:w<=6)(h0:1<=h)(h6:h<=6)(s:Same H0 H)(f:H0 F=none)(e:H F=↥(xs.map V.int))(k:xs.length<=1)(q:∀ H',Same H0 H'->H' F=↥((xs++(if c%w<w-1 then [c+1] else [])++(if 0<c/w then [c-w] else [])++(if c/w<h-1 then [c+w] else [])).map V.int)->Q (.ref F) H'):
  d8 K (eD9 Q) [⇑h,⇑w,⇑c,↑F] H:=by
 unfold d8;rw[aG,aD];generalize i:d7 K=W at*;exists⟨by lia,?_⟩;by_cases a:c%w<w-1
 . refine j5 (M3 a) ?_;exists⟨aZ e,?_⟩;rw[cy e];refine⟨by rw[MZ];exact aC #[4],?_⟩;subst i;refine t7 (xs:=xs++[c+1]) g j h0 h6 (s.own f) f (by rw[ah];simp) (by simp;lia) λH' d b=>q H' d ?_;rw[NA a];exact b
 . refine gn (M2 a) ?_;subst i;refine t7 g j h0 h6 s f e #[4] λH' d b=>q H' d ?_;rw[Nt a,O3];exact b
end
theorem uU(h:ga K vs H Q E):jc K (eD9 Q) (start ["_law_high","_law_wide","_law_cell","_law_found"] vs) H:=by
 obtain⟨h,w,c,rfl,g,j,h0,h6,k,l,q⟩:=h;ac_nf;unfold jc;generalize i:d8 K=W at*;exists⟨aP #[1],λF a=>?_⟩;obtain⟨H1,z9,s,e⟩:∃ z,upd H F (.lst [])=z/\Same H z/\z F=↥(([]:∅).map V.int):=aW _ a;rw[z9];rw[aD];exists⟨by lia,?_⟩;by_cases b:0<c%w
 . refine j5 (M3 b) ?_;exists⟨aZ e,?_⟩;rw[cy e];refine⟨by rw[MZ];exact aC #[1],?_⟩;subst i;refine t8 (xs:=[c-1]) g j h0 h6 (s.own a) a (by rw[ah];simp) (by simp) λH' f d=>q F H' f a ?_;unfold fc;rw[NA b];exact d
 . refine gn (M2 b) ?_;subst i;refine t8 (xs:=[]) g j h0 h6 s a e (by simp) λH' f d=>q F H' f a ?_;unfold fc;rw[Nt b];exact d
def jd(K:Frag):Sp:=#[3,∃ f k h w g s fl,vs=[.int h,.int w,.str (tx (nmC k)),.int s,.ref f]/\(k=.Joined\/k=.NoSquare\/k=.Ring)/\FlOk h w g/\H f=↥(fl.map V.int)/\fl.length=(h*w).toNat/\∀ b H',(b=true->hoB k h w (rngL 0 (h*w)) 0 s fl=true)->Same H H'->Q (.bl b) H']
def Dn(K:Frag):TS:=#[":Ktbp~aa9dh#5 NDbE~;9au&--69 tb,'qba0a1a5dh#1 ~blcJbB12lcJbQ131d"]
def Do(K:Frag):TS:=#[":gmsacy5ef#1 acy51acycy51ef#1 dh#8 n~blcqb2evw`0~blc<cH51cO1ef#1 lcqbpzau&--6 tb8h#1 lcJbB121def#3 jeIBo",s!"nosquare"]
def d9(K:Frag):TS:=#[":j~hcqb2evw`0cqb~U9pza6d",s!"nosquare"]
def gF(K:Frag):TS:=#[":gK*apza6ddh#10 }qb}rb"]
def eh(K:Frag):TS:=#[":gm?[6~gYef#1 h#9 }sb"]
def eH(K:Frag):TS:=#[":gKtb6h#5 gmpzau&--6 tb,'qba0a1a5dh#1 lcJbB121dh#7 gn~blcqb2evw`0lcFb7ef#2 jeIBo}tb}ub",s!"ring"]
def je(K:Frag):TS:=#[":gmu&--43 *apza4ddh#1 lcqbck2131h#6 }vb"]
theorem GA(k:RK):decide (tx (nmC k)=tx s!"nosquare")=decide (k=.NoSquare):=by cases k <;> decide+kernel
theorem Jd(k:RK):decide (tx (nmC k)=tx s!"ring")=decide (k=.Ring):=by cases k <;> decide+kernel
structure Rg53(H:Hp)(C:Addr)(h w g:Int)(cs:∅):Prop where
 F:FlOk h w g
 C:H C=↥(cs.map V.int)
 n:cs.length<=16
 rise:cs.Pairwise (· < ·)
 inn:∀ x∈cs,0<=x/\x<h*w
variable{H':Hp}
def Rg53.same{C:Addr}{h g:Int}{cs:∅}(X:Rg53 H C h w g cs)(s:Same H H'):Rg53 H' C h w g cs:=⟨X.F,s _ _ X.C,X.n,X.rise,X.inn⟩
section
variable{K:Frag}{H:Hp}{Q:VK}{C L:Addr}{k:RK}{h w g s:Int}{cs xs fl:∅}
theorem BN{E v1 z J t D G i:Option V}(A:k=.Joined\/k=.NoSquare\/k=.Ring)(X:Rg53 H C h w g cs)(l:cs=mkAt fl (rngL 0 (h*w)) s)(p:∀ c∈cs,(k=.Ring->twoB h w cs c=true)/\(k=.NoSquare->fI w cs c=false))(M:H L=↥(xs.map V.int))(m:xs.Nodup)(r:∀ x∈xs,RC h w cs (cs.headD 0) x)(q:∀ b H',(b=true->hoB k h w (rngL 0 (h*w)) 0 s fl=true)->Same H H'->Q (.bl b) H'):
  d9 K (eD9 Q) [E,v1,some (.str (tx (nmC k))),z,J,t,↑C,D,G,↑L,i] H:=by
 have a:∀ x∈xs,x∈cs:=λx d=>(r x d).mem;have O:xs.length<=cs.length:=e8 m a;have I:=X.n;unfold d9;symm;rw[GA];by_cases e:k=.NoSquare
 . rw[M3 e];refine iteT ?_;refine q true H (λ_=>?_) (M5 _);rw[e];show(!((squL h w).any λB=>B.all λc=>decide (c∈mkAt fl (rngL 0 (h*w)) s)))=true;rw[← l,F7 X.F X.inn]
   have:cs.any (fI w cs)=false:=by
    rw[Pr];intro c f;rw[(p c f).2 e];decide
   rw[this];rfl
 . rw[M2 e];refine iteF ?_;exists⟨L,xs,rfl,M,by lia,?_⟩;rw[a8 X.C,MZ,(qi xs).mpr m];exists q _ H (λu=>?_) (M5 _)
   have N:xs.length=cs.length:=by
    have:=Nb u;lia
   have j:joinB h w cs=true:=joinB_iff.mpr (.inr ⟨X.rise,λx d=>by
    by_cases o:x∈xs
    . exact r x o
    . have:=e8 (NY.mpr ⟨o,m⟩) λy v=>(Ng.mp v).elim (λe=>e ▸ d) (a y);rw[NJ]at this;lia⟩)
   rcases A with rfl | rfl | rfl
   . show joinB h w (mkAt fl (rngL 0 (h*w)) s)=true;rw[← l];exact j
   . exact absurd rfl e
   . show(joinB h w (mkAt fl (rngL 0 (h*w)) s)&&(mkAt fl (rngL 0 (h*w)) s).all (twoB h w (mkAt fl (rngL 0 (h*w)) s)))=true;rw[← l,j,Nv,Na];exact λc f=>(p c f).1 rfl
theorem Gb{c:Int}(F:FlOk h w g)(c0:0<=c)(f:c<h*w):(fc h w c).Nodup:=by
 have a:=F.w0;unfold fc;have j:=Ga (w:=w) (c:=c) a;have e:=Int.emod_add_mul_ediv c w;have m0:=NZ c (show w≠0 by lia);have d:=NQ c (show 0<w by lia);by_cases b:w=1
 . subst b;have i:c%1=0:=by lia
   rw[Nt #[4],Nt #[4]]
   split <;> split <;> simp <;> lia
 . split <;> split <;> split <;> split <;> simp <;> lia
theorem Fa {D:Ends} {H0:Hp} {c:∅} {v2 Q v4 t Y v8 r:Option V} (X:Rg53 H C h w g cs) (s0:Same H0 H) (B:H0 L=none) (eL:H L=↥(c.map V.int)) (nd:c.Nodup) (rc:∀ x∈c,RC h w cs (cs.headD 0) x) (W:∃ o,H0 C=some o)
  (q:∀(t:Option V) (xs:∅) H',Same H0 H'->H' C=↥(cs.map V.int)->H' L=↥(xs.map V.int)->xs.Nodup->(∀ x∈xs,RC h w cs (cs.headD 0) x)->D.nx [⇑h,⇑w,v2,Q,v4,t,↑C,Y,v8,↑L,r] H'):
  Dn K D [⇑h,⇑w,v2,Q,v4,t,↑C,Y,v8,↑L,r] H:=by
 have F:=X.F;have ad:=X.n;unfold Dn;exists mr eL λZ U=>?_;have s1:Same H (upd H Z (.lst (c.map V.int))):=(M5 H).laid U;have eZ:(upd H Z (.lst (c.map V.int))) Z=↥(c.map V.int):=ah;have ab:Z≠L:=λe=>by rw[e,eL]at U;cases U
 generalize upd H Z (.lst (c.map V.int))=H1 at*;refine⟨Z,rfl,⟨_,Nm eZ⟩,?_⟩;refine bz (xs:=c.map V.int) (λi σ H'=>∃(t:Option V) (xs:∅),σ=[⇑h,⇑w,v2,Q,v4,t,↑C,Y,v8,↑L,r]/\Same H0 H'/\H' C=↥(cs.map V.int)/\H' Z=↥(c.map V.int)/\H' L=↥(xs.map V.int)/\xs.Nodup/\∀ x∈xs,RC h w cs (cs.headD 0) x) ⟨_,c,rfl,s0.trans s1,s1 _ _ X.C,eZ,s1 _ _ eL,nd,rc⟩ (λi σ H' _ ⟨_,_,_,_,_,e,_⟩=>Nm e) ?_ ?_
 . rintro i x σ H2 d ⟨aa,xs,rfl,R,k,v,f,m,l⟩;obtain⟨z,hz,rfl⟩:=aN d;have zc:=(rc z (M8 hz)).mem;have M:=X.inn z zc;have u:∀ x∈xs,x∈cs:=λx d=>(l x d).mem;have xl:xs.length<=cs.length:=e8 m u;exists⟨aZ f,?_⟩;refine⟨h,w,z,rfl,F.w0,F.w1,F.h0,F.h1,M.1,M.2,λN H3 s hN eN=>?_⟩;exists⟨⟨_,Nm eN⟩,?_⟩;refine aS (λz=>decide (z∈cs)&&!decide (z∈xs)) (λz=>z) (Nk (yx h w z) #[1]) (Nm eN) ?_ ?_ ?_
   . intro x G R4 d p k4;show tAnd _ _ [none,⇑x,↑C,↑L] G R4;symm;rw[oo ((s.trans p) _ _ k)];symm
     cases J:decide (x∈cs) with
     | false=>
      rw[J,Nw]at k4;exact k4 _ (M5 _)
     | true=>
      rw[J,Nv]at k4;refine iteT ?_;symm;rw[kT ((s.trans p) _ _ f)];exists k4 _ (M5 _)
   . intro x G Q4 d ac p k4;show tVar 1 [none,⇑x,↑C,↑L] G Q4;exists k4 _ (M5 _)
   . intro A G hA p P;have P:G A=↥(((fc h w z).filter λz=>decide (z∈cs)&&!decide (z∈xs)).map V.int):=by rw[Oi]at P;exact P
     have S:((fc h w z).filter λz=>decide (z∈cs)&&!decide (z∈xs)).Nodup:=(Gb F M.1 M.2).filter _
     have j:∀ y∈(fc h w z).filter λz=>decide (z∈cs)&&!decide (z∈xs),y∈cs/\y∉xs:=λy O=>by
      have:=(Nf.mp O).2;rw[M9,M4,Od,Oe]at this;exact this
     have T:∀ y∈(fc h w z).filter λz=>decide (z∈cs)&&!decide (z∈xs),RC h w cs (cs.headD 0) y:=λy O=>
      .step (rc z (M8 hz)) ((wm h w z).mem_iff.mp (Nf.mp O).1) (j y O).1
     generalize (fc h w z).filter (λz=>decide (z∈cs)&&!decide (z∈xs))=ys at*;have E:(xs++ys).Nodup:=OF.mpr ⟨m,S,λa ha b J e=>(j b J).2 (e ▸ ha)⟩
     have I:∀ x∈xs++ys,x∈cs:=λx d=>by
      rcases Ny.mp d with d | d
      . exact u x d
      . exact(j x d).1
     have l3:=e8 E I;rw[NG]at l3;refine zY ((s.trans p) _ _ f) P (by rw[MZ,MZ];lia) ?_;have nC:C≠L:=λe=>by obtain⟨o,ho⟩:=W;rw[e,B]at ho;cases ho
     refine⟨_,xs++ys,rfl,((R.trans s).trans p).own B,by rw[aj nC];exact(s.trans p) _ _ k,by rw[aj ab];exact(s.trans p) _ _ v,by rw[ah,OT],E,λx d=>(Ny.mp d).elim (l x) (T x)⟩
 . rintro σ H2 ⟨aa,xs,rfl,R,k,v,f,m,l⟩;exact q _ xs H2 R k f m l
end
section
variable{K:Frag}{H:Hp}{Q:VK}{C:Addr}{k:RK}{h w g s:Int}{cs fl:∅}
theorem BO{z F f B E P a:Option V}(M:k=.Joined\/k=.NoSquare\/k=.Ring)(X:Rg53 H C h w g cs)(R:cs=mkAt fl (rngL 0 (h*w)) s)(T:∀ c∈cs,(k=.Ring->twoB h w cs c=true)/\(k=.NoSquare->fI w cs c=false))(q:∀ b H',(b=true->hoB k h w (rngL 0 (h*w)) 0 s fl=true)->Same H H'->Q (.bl b) H'):
  eh K (eD9 Q) [⇑h,⇑w,some (.str (tx (nmC k))),z,F,f,↑C,B,E,P,a] H:=by
 have S:=X.n;unfold eh;generalize m:gF K=W at*;exists qd X.C λL D=>?_;rw[show(some (1:Int))=some (((1:Nat):Int)) from rfl,EO V.int];obtain⟨H1,J,s1,U⟩:=aW (.lst ((cs.take 1).map V.int)) D;rw[J]
 have N:(cs.take 1).Nodup:=by
  cases cs with
  | nil=>simp
  | cons x r=>simp
 have j:∀ x∈cs.take 1,RC h w cs (cs.headD 0) x:=λx A=>by
  cases cs with
  | nil=>cases A
  | cons y r=>rw[Nd.mp A];exact .start Nh
 have O:=X.same s1;symm;subst m;unfold gF;generalize m:d9 K=W at*;symm;rw[a8 O.C,MZ];refine⟨_,rfl,by lia,by lia,?_⟩;refine jj (λi σ H'=>∃(f a:Option V) (xs:∅),σ=[⇑h,⇑w,some (.str (tx (nmC k))),z,F,f,↑C,B,E,↑L,a]/\Same H H'/\H' L=↥(xs.map V.int)/\xs.Nodup/\∀ x∈xs,RC h w cs (cs.headD 0) x) ⟨_,_,_,rfl,s1,U,N,j⟩ ?_ ?_
 . rintro i σ Y Z ⟨o,d,xs,rfl,e,e2,p,u⟩;exists Fa (X.same e) e D e2 p u ⟨_,X.C⟩ λf xs H' t _ G v l=>⟨_,_,xs,rfl,t,G,v,l⟩
 . rintro σ Y ⟨o,d,xs,rfl,e,e2,p,u⟩;subst m;exact BN M (X.same e) R T e2 p u λb H' I t=>q b H' I (e.trans t)
theorem Hx(w c:Int)(cs:∅)(e:c∈cs)(n:¬ ((([c+1,c+w,c+w+1].filter λx=>decide (x∈cs)).length:Int)=3)):((sqL w c).all λx=>decide (x∈cs))=false:=by
 by_cases a:c+1∈cs
 . by_cases b:c+w∈cs
   . by_cases d:c+w+1∈cs
     . exact absurd (by simp[a,b,d]) n
     . unfold sqL;simp[d]
   . unfold sqL;simp[b]
 . unfold sqL;simp[a]
theorem BP{f:Addr}{u J o j p E d:Option V}(hk:k=.Joined\/k=.NoSquare\/k=.Ring)(X:Rg53 H C h w g cs)(ec:cs=mkAt fl (rngL 0 (h*w)) s)(q:∀ b H',(b=true->hoB k h w (rngL 0 (h*w)) 0 s fl=true)->Same H H'->Q (.bl b) H'):
  eH K (eD9 Q) [⇑h,⇑w,some (.str (tx (nmC k))),u,J,o,↑C,j,p,E,d] H:=by
 have ad:=X.n;have F:=X.F;unfold eH;generalize hW:eh K=W at*;exists⟨⟨_,Nm X.C⟩,?_⟩;refine bz (xs:=cs.map V.int) (λi σ H'=>∃(o j p:Option V),σ=[⇑h,⇑w,some (.str (tx (nmC k))),u,J,o,↑C,j,p,E,d]/\Same H H'/\∀ c∈cs.take i,(k=.Ring->twoB h w cs c=true)/\(k=.NoSquare->fI w cs c=false)) ⟨_,_,_,rfl,M5 _,λc l=>by simp at l⟩ (λi σ H' _ ⟨_,_,_,_,s,_⟩=>Nm (s _ _ X.C)) ?_ ?_
 . rintro i x σ H2 D ⟨aa,Y,v,rfl,M,S⟩;obtain⟨z,hz,rfl⟩:=aN D;have zc:=M8 hz;have zb:=X.inn z zc;exists⟨h,w,z,rfl,F.w0,F.w1,F.h0,F.h1,zb.1,zb.2,λN H3 s3 hN eN=>?_⟩;have y:=M.trans s3;exists⟨⟨_,Nm eN⟩,?_⟩;refine aS (λz=>decide (z∈cs)) (λz=>z) (Nk (yx h w z) #[1]) (Nm eN) ?_ ?_ ?_
   . intro x m R4 D O k4;show tTest _ [none,⇑x,↑C] m R4;symm;rw[oo ((y.trans O) _ _ X.C)];exists k4 _ (M5 _)
   . intro x m Q4 D ab O k4;show tVar 1 [none,⇑x,↑C] m Q4;exists k4 _ (M5 _)
   . intro A m hA O R;have R:m A=↥(((fc h w z).filter λz=>decide (z∈cs)).map V.int):=by rw[Oi]at R;exact R
     have L:=y.trans O;rw[a8 R,MZ];symm;rw[aD];symm
     have go:(k=.Ring->twoB h w cs z=true)->∀(j:Option V),Do K {nx:=λσ H'=>∃(o j p:Option V),σ=[⇑h,⇑w,some (.str (tx (nmC k))),u,J,o,↑C,j,p,E,d]/\Same H H'/\∀ c∈cs.take (i+1),(k=.Ring->twoB h w cs c=true)/\(k=.NoSquare->fI w cs c=false),rt:=Q,bk:=W {nx:=λx H'=>Q V.non H',rt:=Q},ct:=λσ H'=>∃(o j p:Option V),σ=[⇑h,⇑w,some (.str (tx (nmC k))),u,J,o,↑C,j,p,E,d]/\Same H H'/\∀ c∈cs.take (i+1),(k=.Ring->twoB h w cs c=true)/\(k=.NoSquare->fI w cs c=false)} [⇑h,⇑w,some (.str (tx (nmC k))),u,J,⇑z,↑C,j,v,E,d] m:=λtw j=>by
      have r:(k=.NoSquare->fI w cs z=false)->∀ c∈cs.take (i+1),(k=.Ring->twoB h w cs c=true)/\(k=.NoSquare->fI w cs c=false):=λbd c l=>by
       rw[sd hz]at l;rcases Ny.mp l with l | l
       . exact S c l
       . rw[Nd.mp l];exact⟨tw,bd⟩
      unfold Do;exists⟨lnR rfl,λT hT=>?_⟩;obtain⟨H5,z9,s5,eT⟩:∃ Z,upd m T (.lst [V.int (z+1),V.int (z+w),V.int (z+w+1)])=Z/\Same m Z/\Z T=↥(([z+1,z+w,z+w+1]:∅).map V.int):=aW _ hT;rw[z9];have a:=L.trans s5;rw[aD];symm;rw[GA];by_cases e:k=.NoSquare
      . rw[M3 e];refine iteT ?_;exists⟨by have:=F.w0;lia,?_⟩;by_cases c1:z%w<w-1
        . refine j5 (M3 c1) ?_;exists⟨⟨_,Nm eT⟩,?_⟩;refine aS (λz=>decide (z∈cs)) (λz=>z) (by show(3:Nat)<=900;decide) (Nm eT) ?_ ?_ ?_
          . intro x G R6 D I k6;show tTest _ [none,⇑x,↑C] G R6;symm;rw[oo ((a.trans I) _ _ X.C)];exists k6 _ (M5 _)
          . intro x G Q6 D ac I k6;show tVar 1 [none,⇑x,↑C] G Q6;exists k6 _ (M5 _)
          . intro B G hB I P;have P:G B=↥((([z+1,z+w,z+w+1]:∅).filter λz=>decide (z∈cs)).map V.int):=by rw[Oi]at P;exact P
            rw[a8 P,MZ];symm;by_cases l3:((([z+1,z+w,z+w+1]:∅).filter λz=>decide (z∈cs)).length:Int)=3
            . refine j5 (M3 l3) ?_;exists q false _ (λt=>by cases t) (a.trans I)
            . refine gn (M2 l3) ?_;refine⟨_,_,_,rfl,a.trans I,r λ_=>?_⟩;unfold fI;rw[Hx w z cs zc l3,Bool.and_false]
        . refine gn (M2 c1) ?_;refine⟨_,_,_,rfl,a,r λ_=>?_⟩;unfold fI;rw[M2 c1];rfl
      . rw[M2 e];refine iteF ?_;exact⟨_,_,_,rfl,a,r λU=>absurd U e⟩
     rw[Jd];by_cases e:k=.Ring
     . rw[M3 e];refine iteT ?_;symm;by_cases l2:(((fc h w z).filter λz=>decide (z∈cs)).length:Int)=2
       . refine gn (by rw[M3 l2];rfl) ?_;exact go (λ_=>by rw[← F8,M3 l2]) _
       . refine j5 (by rw[M2 l2];rfl) ?_;exists q false _ (λt=>by cases t) L
     . rw[M2 e];refine iteF ?_;exact go (λU=>absurd U e) _
 . rintro σ H2 ⟨aa,Y,v,rfl,M,S⟩;rw[MZ,N6]at S;subst hW;exact BO hk (X.same M) ec S λb H' t s'=>q b H' t (M.trans s')
end
theorem uV(h:jd K vs H Q E):je K (eD9 Q) (start ["_law_high","_law_wide","_law_word","_law_sign","_law_filling","_law_cell","_law_cells","_law_near","_law_three","_law_reach","_law_k"] vs) H:=by
 obtain⟨f,k,h,w,g,s,fl,rfl,n,F,e,v,q⟩:=h;have l:=F.m;ac_nf;unfold je;generalize o:eH K=W at*;symm;rw[a8 e,MZ];refine⟨_,rfl,by lia,by lia,?_⟩;refine or (λ(i:Nat)=>decide (fl.getD (0+(i:Int)).toNat 0=s)) (λ(i:Nat)=>(0:Int)+(i:Int)) #[4] ?_ ?_ ?_
 . intro i c r u a k5;show tTest _ [none,⇑(0+(i:Int)),↑f,⇑s] c r;exists ixI (a _ _ e) #[4] #[4] ?_;exists k5 _ (M5 _)
 . intro i c D u A a k5;exact kR rfl (k5 _ (M5 _))
 . intro C c B a j;symm;subst o;have y:(((fl.length:Nat):Int)).toNat=(h*w-0).toNat:=by lia
   rw[y,Hw]at j;have d:∀ x∈mkAt fl (rngL 0 (h*w)) s,0<=x/\x<h*w:=λx z=>F6 z;refine BP (cs:=mkAt fl (rngL 0 (h*w)) s) (f:=f) n ⟨F,j,?_,?_,d⟩ rfl λb H' p t=>q b H' p (a.trans t)
   . refine Nk (Np _ _) ?_;rw[gL];lia
   . exact(Dm _).filter _
abbrev JO:Str:="_law_row.<locals>.<lambda>"
abbrev jf(K:Frag)(H:Hp):Prop:=TbOk 608 54 JO H (tabP K "_law_row")
abbrev AX(K:Frag)(H H':Hp):Prop:=SameX (tabP K "_law_row") H H'
variable{P:Addr}
theorem TbOk.same{l c:Nat}{q:Str}(x:TbOk l c q H P)(s:Same H H'):TbOk l c q H' P:=by
 rcases x with e | ⟨a,e,b⟩
 . exact .inl (s _ _ e)
 . exact .inr ⟨a,s _ _ e,s _ _ b⟩
def TbOk.ne{l c:Nat}{q:Str}{b:Addr}{xs:List V}(x:TbOk l c q H P)(e:H b=↥xs):b≠P:=λz=>by
 rcases x with a | ⟨_,a,_⟩ <;> (rw[z,a]at e;cases e)
def SameX.of(s:Same H H'):SameX P H H':=λa o _ e=>s a o e
abbrev QX:=@SameX.of
def SameX.trans{H1 c:Hp}(a:SameX P H H1)(b:SameX P H1 c):SameX P H c:=λx o n e=>b x o n (a x o n e)
theorem AY:∀{xs:∅},xs.Pairwise (· <=·)->xs.Nodup->risB xs=true
 | [],_,_=>rfl
 | [_],_,_=>rfl
 | x::y::r,p,n=>by
  have a:=Pn.mp p;have b:=NY.mp n
  have c:x<y:=by
   have:=a.1 y (.head _);have d:x≠y:=λe=>b.1 (by rw[e];exact .head _);lia
  show(decide (x<y)&&risB (y::r))=true;rw[M3 c,Nv];exact AY a.2 b.2
structure Rw53(H:Hp)(f:Addr)(h w g:Int)(fl:∅):Prop where
 F:FlOk h w g
 f:H f=↥(fl.map V.int)
 fll:fl.length=(h*w).toNat
 sg:∀ x∈fl,1<=x/\x<=g
 m1:1<=h*w
def Rw53.same{f:Addr}{h g:Int}{fl:∅}(X:Rw53 H f h w g fl)(s:Same H H'):Rw53 H' f h w g fl:=⟨X.F,s _ _ X.f,X.fll,X.sg,X.m1⟩
def lN(K:Frag):Sp:=#[3,∃ f h w g y fl,vs=[.int h,.int w,.int g,.ref f,.int y]/\Rw53 H f h w g fl/\0<=y/\jf K H/\∀(r:RR) (H':Hp),AX K H H'->jf K H'->f9 h w g fl r->Q (.str r.txt) H']
def Dp(K:Frag):TS:=#[":nlcJbQck3|au&--3 tb9h#1 Gck21NDbER9a|ado"]
def dk(K:Frag):TS:=#[":jDb~W}wevw`0acysa6du&-- tbcy|c8h#1 Gp'ra1dd",[32]]
def dm(K:Frag):TS:=#[":gnlcqb6evw`0msapzau`1*apza|bddh#1 Plcqb1ef#0 lc>ck21p}xa?[2~gY1d1ddh#12 o}yb",s!"seen",[none,none,some 11]]
def fw(K:Frag):TS:=#[":gnlcqb6evw`0msapzau&--7 tb|bh#1 lcqb121da7dh#12 o}zb",s!"count"]
def fz(K:Frag):TS:=#[":gnlcqb6evw`0msap~Ka|bddh#12 o}Ab",s!"sum"]
def gb(K:Frag):TS:=#[":gmu&--3 tb8h#1 Gck21h#11 gmsdh#12 }Bb"]
def gd(K:Frag):TS:=#[":gnlcqb6evw`0m}C}Db}E#608 #54 `18#3 h#8 o}Fb",s!"rising","_law_row.<locals>.<lambda>"]
def ge(K:Frag):TS:=#[":gnlcJbB6Xaevw`0aevw`1dgmsdh#9 gKtb8h#10 }Gbm9h#8 o}Hb",s!"unlike",s!"rising"]
def gg(K:Frag):TS:=#[":gm?[,'sbacT4ef#18 apza3dd~gYcyef#1 cHcT4ef#90 pza3dh#8 gmcksaevw`0aevw`1aevw`2aevw`3aevw`4dcHcT4ef#18 ef#5 h#6 }Ib",s!"unlike",s!"sum",s!"rising",s!"count",s!"seen"]
def jg(K:Frag):TS:=#[":gn~blcqbcHcT4ef#9 ef#2 ef#0 A,}Jba0a1a6a7a3djcycy6evw`0p'ra7do}Kb",[32]]
def lO(K:Frag):TS:=#[":gmsaevw`0aevw`1aevw`2dh#5 gmck5cH4ef#3 h#6 gmcyef#1 cHcT4ef#3 2h#7 }Lb",s!"joined",s!"nosquare",s!"ring"]
section
variable{K:Frag}{H:Hp}{Q:VK}{f C S:Addr}{k:RK}{h w g m y:Int}{fl:∅}{cs:List Nat}
theorem AZ{i:Addr}{a:List Nat}{G v1 v2 r J p A I e d:Option V}(E:H C=↥((iN cs).map V.int))(B:H i=↥((iN a).map V.int))(D:∀ c∈cs,c<100)(v:∀ c∈a,c<100)(cl:cs.length<=16)(P:a.length<=2)(q:∀ H',Same H H'->Q (.str (tx (catL 32 (nmC k::(a++cs).map numC)))) H'):
  dk K (eD9 Q) [G,v1,v2,r,J,p,some (.str (tx (nmC k))),A,↑C,I,e,d,↑i] H:=by
 unfold dk;exists⟨Gn,lnR rfl,λm u=>?_⟩;obtain⟨H1,z9,s1,eW⟩:∃ z,upd H m (.lst [V.str (tx (nmC k))])=z/\Same H z/\z m=↥((([nmC k]:List (List Nat)).map tx).map V.str):=aW _ u;rw[z9];refine rK (s1 _ _ B) (s1 _ _ E) (by unfold iN;simp;lia) λY M=>?_;have g:Same H1 (upd H1 Y (.lst ((iN a).map V.int++(iN cs).map V.int))):=(M5 H1).laid M;have o:(upd H1 Y (.lst ((iN a).map V.int++(iN cs).map V.int))) Y=↥(((a++cs).map λ(n:Nat)=>(n:Int)).map V.int):=by rw[ah];unfold iN;simp
 generalize upd H1 Y (.lst ((iN a).map V.int++(iN cs).map V.int))=H2 at*;refine⟨Y,rfl,⟨_,Nm o⟩,?_⟩;refine EA o (by simp;lia) (λc h=>(Ny.mp h).elim (v c) (D c)) λl b O j s=>?_;exists rK ((g.trans j) _ _ eW) s (by simp;lia) λZ w=>?_;have y:Same b (upd b Z (.lst ((([nmC k]:List (List Nat)).map tx).map V.str++(((a++cs).map numC).map tx).map V.str))):=(M5 b).laid w;have L:(upd b Z (.lst ((([nmC k]:List (List Nat)).map tx).map V.str++(((a++cs).map numC).map tx).map V.str))) Z=↥(((nmC k::(a++cs).map numC).map tx).map V.str):=by rw[ah];rfl
 generalize upd b Z (.lst ((([nmC k]:List (List Nat)).map tx).map V.str++(((a++cs).map numC).map tx).map V.str))=H4 at*;have N:=Cu k
 refine G0 L (z5 (by simp;lia) (λt F=>by
  obtain⟨z,f,rfl⟩:=Nl.mp F;rw[gM];rcases Ng.mp f with rfl | f
  . lia
  . obtain⟨x,_,rfl⟩:=Nl.mp f;exact Nk tu #[1]) (by rw[gM];decide)) ?_
 rw[FK,xj];exact q _ (((s1.trans g).trans j).trans y)
theorem zA{i:Addr}{a:List Nat}{n mm:Nat}{y v1 v2 l B j t z d b:Option V}(F:FlOk h w g)(Y:Cs58 h w cs)(A:allK k=false)(k0:k≠.Rule)(x:H C=↥((iN cs).map V.int))(u:H i=↥((iN a).map V.int))(s:∀ c∈a,c<100)(E:a.length<=2)(p:n<=99)(v:numK k=false->n=0)(m0:sgnK k=true->1<=(mm:Int)/\(mm:Int)<=g)(o:sgnK k=false->mm=0)(f:a.map numC=(if numK k then [numC n] else [])++(if sgnK k then [numC mm] else []))(m:hoB k h w (iN cs) n mm fl=true)(q:∀(r:RR) (H':Hp),Same H H'->f9 h w g fl r->Q (.str r.txt) H'):
  dk K (eD9 Q) [y,v1,v2,l,B,j,some (.str (tx (nmC k))),t,↑C,z,d,b,↑i] H:=by
 refine AZ x u (Y.lt100 F) s Y.len E λH' D=>?_
 have e:tx (catL 32 (nmC k::(a++cs).map numC))=RR.txt ⟨k,n,mm,cs,iN cs⟩:=by
  show _=tx (catL 32 (rowW k n mm cs));unfold rowW;rw[OT,f]
 rw[e];exact q _ H' D (JA F Y A k0 p v m0 o m)
theorem A0{Nu:Addr}{v0 v1 v2 v4 v5 v9 ab:Option V}(X:Rw53 H f h w g fl)(Y:Cs58 h w cs)(u:allK k=false)(k0:k≠.Rule)(m0:1<=m)(m1:m<=g)(L:H C=↥((iN cs).map V.int))(B:H S=↥((sgAt fl (iN cs)).map V.int))(eN:H Nu=↥((iN []).map V.int))(U:k=.Unlike->(sgAt fl (iN cs)).Nodup)(ri:k=.Rising->risB (sgAt fl (iN cs))=true)(q:∀(r:RR) (H':Hp),Same H H'->f9 h w g fl r->Q (.str r.txt) H'):
  fz K (eD9 Q) [v0,v1,v2,↑f,v4,v5,some (.str (tx (nmC k))),⇑m,↑C,v9,ab,↑S,↑Nu] H:=by
 have F:=X.F;have g6:=F.g1;have cl:=Y.len;have sl:(sgAt fl (iN cs)).length=cs.length:=by unfold sgAt iN;rw[MZ,MZ]
 have sb:∀ x∈sgAt fl (iN cs),1<=x/\x<=6:=λx s=>by
  unfold sgAt at s;obtain⟨c,d,rfl⟩:=Nl.mp s;have:=F0 Y X.fll X.sg d;lia
 unfold fz;rw[aG,aD];generalize p:fw K=W at*;symm;rw[JE];by_cases e1:k=.Sum
 . rw[M3 e1];refine iteT ?_;symm;have sm:=AK (sgAt fl (iN cs)) λx s=>by have:=sb x s;lia
   refine zu B (λx s=>by have:=sb x s;lia) #[4] ?_;refine⟨lnR rfl,λN hN=>?_⟩;have s1:Same H (upd H N (.lst [V.int (sgAt fl (iN cs)).sum])):=(M5 H).laid hN
   have b:(upd H N (.lst [V.int (sgAt fl (iN cs)).sum])) N=↥((iN [(sgAt fl (iN cs)).sum.toNat]).map V.int):=by
    rw[ah];show _=some (HO.lst [V.int (((sgAt fl (iN cs)).sum.toNat:Nat):Int)]);rw[show(((sgAt fl (iN cs)).sum.toNat:Nat):Int)=(sgAt fl (iN cs)).sum by lia]
   generalize upd H N (.lst [V.int (sgAt fl (iN cs)).sum])=H1 at*;subst p;unfold fw;rw[aG,aD];symm;rw[Gz,e1,M2 (show ¬ RK.Sum=RK.Count by decide)];refine iteF ?_;unfold dm;rw[aG,aD];symm;rw[AT,M2 (show ¬ RK.Sum=RK.Seen by decide)];refine iteF ?_;refine zA (k:=.Sum) (n:=(sgAt fl (iN cs)).sum.toNat) (mm:=0) F Y rfl #[1] (s1 _ _ L) b (λc d=>by rw[Nd.mp d];lia) (by simp) #[4] (λe=>by cases e) (λe=>by cases e) (λ_=>rfl) rfl ?_ λr H' J O=>q r H' (s1.trans J) O;show decide ((sgAt fl (iN cs)).sum=(((sgAt fl (iN cs)).sum.toNat:Nat):Int))=true;exact M3 #[4]
 . rw[M2 e1];refine iteF ?_;subst p;unfold fw;rw[aG,aD];generalize p:dm K=W at*;symm;rw[Gz];by_cases e2:k=.Count
   . rw[M3 e2];refine iteT ?_;exists⟨⟨_,Nm B⟩,?_⟩;refine aS (λx=>decide (x=m)) (λx=>x) #[4] (Nm B) ?_ ?_ ?_
     . intro x I R4 s E k4;show tTest _ [none,⇑x,⇑m] I R4;exists k4 _ (M5 _)
     . intro x I Q4 s ac E k4;show tVar 1 [none,⇑x,⇑m] I Q4;exists k4 _ (M5 _)
     . intro A j hA R D;have D:j A=↥(((sgAt fl (iN cs)).filter λy=>decide (y=m)).map V.int):=by rw[Oi]at D;exact D
       have ae:((sgAt fl (iN cs)).filter λy=>decide (y=m)).length<=cs.length:=by rw[← sl];exact Np _ _
       have ct:=E8 fl (iN cs) m;symm;rw[a8 D,MZ];generalize ((sgAt fl (iN cs)).filter λy=>decide (y=m)).length=N at*;exists⟨lnR rfl,λv t=>?_⟩;have E:Same j (upd j v (.lst [V.int (N:Int),V.int m])):=(M5 j).laid t
       have b:(upd j v (.lst [V.int (N:Int),V.int m])) v=↥((iN [N,m.toNat]).map V.int):=by
        rw[ah];show _=some (HO.lst [V.int (N:Int),V.int ((m.toNat:Nat):Int)]);rw[show((m.toNat:Nat):Int)=m by lia]
       generalize upd j v (.lst [V.int (N:Int),V.int m])=I at*;have a:=R.trans E;subst p;unfold dm;rw[aG,aD];symm;rw[AT,e2,M2 (show ¬ RK.Count=RK.Seen by decide)];refine iteF ?_
       refine zA (k:=.Count) (n:=N) (mm:=m.toNat) F Y rfl #[1] (a _ _ L) b (λc d=>by
        simp only[Ng,NR,OJ]at d;rcases d with rfl | rfl <;> lia) (by simp) #[4] (λe=>by cases e) (λ_=>by lia) (λe=>by cases e) rfl ?_ λr H' J O=>q r H' (a.trans J) O
       show decide (((mkAt fl (iN cs) ((m.toNat:Nat):Int)).length:Int)=(N:Int))=true;rw[show((m.toNat:Nat):Int)=m by lia];exact M3 ct.symm
   . rw[M2 e2];refine iteF ?_;subst p;unfold dm;rw[aG,aD];generalize p:dk K=W at*;symm;rw[AT];by_cases o:k=.Seen
     . rw[M3 o];refine iteT ?_;symm;rw[a8 B,MZ];refine⟨_,rfl,by lia,by lia,?_⟩;rw[N1];refine or (λi=>tE (sgAt fl (iN cs)) i) (λ(i:Nat)=>(0:Int)+(i:Int)) #[4] ?_ ?_ ?_
       . intro i H5 R5 hi T k5;show tOr _ _ [none,⇑(0+(i:Int)),↑S] H5 R5;rw[Pe];symm;unfold tE at k5;by_cases M:(i:Int)=0
         . refine j5 (M3 M) ?_;rw[M3 M,Pg]at k5;exact k5 _ (M5 _)
         . refine gn (M2 M) ?_;rw[M2 M,Of]at k5;refine ixI (T _ _ B) #[4] #[4] ?_;rw[N1];exists qd (T _ _ B) λZ hZ=>?_;rw[EO V.int];obtain⟨H6,P,s6,eZ⟩:=aW (.lst (((sgAt fl (iN cs)).take i).map V.int)) hZ;rw[P];refine IE eZ (by rw[Oa];lia) ?_;exists k5 _ s6
       . intro i H5 Q5 hi ad T k5;exact kR rfl (k5 _ (M5 _))
       . intro A j hA R D;have sn:=E9 (l:=sgAt fl (iN cs)) (λy hy=>(sb y hy).1) (sgAt fl (iN cs)).length (Nr _);rw[N6]at sn;have bd:=E2 (sgAt fl (iN cs));rw[a8 D,MZ,MZ];generalize ((List.range (sgAt fl (iN cs)).length).filter (tE (sgAt fl (iN cs)))).length=N at*;exists⟨lnR rfl,λv t=>?_⟩;obtain⟨I,P,E,b⟩:∃ z,upd j v (.lst [V.int (N:Int)])=z/\Same j z/\z v=↥((iN [N]).map V.int):=aW _ t;rw[P];have a:=R.trans E;subst p;rw[o];refine zA (k:=.Seen) (n:=N) (mm:=0) F Y rfl #[1] (a _ _ L) b (λc d=>by rw[Nd.mp d];lia) (by simp) #[4] (λe=>by cases e) (λe=>by cases e) (λ_=>rfl) rfl ?_ λr H' J O=>q r H' (a.trans J) O;show decide ((seenN (sgAt fl (iN cs))).2=(N:Int))=true;exact M3 sn.symm
     . rw[M2 o];refine iteF ?_;subst p;have aa:numK k=false:=by revert e1 e2 o;cases k <;> intro e1 e2 o <;> first | rfl | exact absurd rfl e1 | exact absurd rfl e2 | exact absurd rfl o
       have G:sgnK k=false:=by revert u e2;cases k <;> intro u e2 <;> first | rfl | exact absurd rfl e2 | (cases u;done)
       refine zA (n:=0) (mm:=0) F Y u k0 L eN (λc d=>by cases d) (by simp) #[1] (λ_=>rfl) (λe=>by rw[G]at e;cases e) (λ_=>rfl) (by rw[aa,G];rfl) ?_ q
       revert e1 e2 o u k0 U ri
       cases k <;> intro u k0 U ri e1 e2 o <;> first
        | exact absurd rfl k0
        | exact absurd rfl e1
        | exact absurd rfl e2
        | exact absurd rfl o
        | (cases u;done)
        | exact M3 ((qi _).mpr (U rfl))
        | exact ri rfl
end
section
variable{K:Frag}{H:Hp}{Q:VK}{f C:Addr}{k:RK}{h w g m y:Int}{fl:∅}{cs:List Nat}
theorem t9{E v1 v2 J t F n j l:Option V}(X:Rw53 H f h w g fl)(Y:Cs58 h w cs)(I:allK k=false)(k0:k≠.Rule)(m0:1<=m)(L:m<=g)(i:H C=↥((iN cs).map V.int))(B:k=.Unlike->(sgAt fl (iN cs)).Nodup)(D:k=.Rising->risB (sgAt fl (iN cs))=true)(q:∀(r:RR) (H':Hp),Same H H'->f9 h w g fl r->Q (.str r.txt) H'):
  gb K (eD9 Q) [E,v1,v2,↑f,J,t,some (.str (tx (nmC k))),⇑m,↑C,F,n,j,l] H:=by
 have cl:=Y.len;unfold gb;generalize v:fz K=W at*;exists⟨⟨_,Nm i⟩,?_⟩;refine aS (λ_=>true) (λx=>fl.getD x.toNat 0) (by unfold iN;rw[MZ];lia) (Nm i) ?_ ?_ ?_
 . intro x o N s c k4;exact k4 _ (M5 _)
 . intro x o y s u c k4;show tOp cIx _ _ [none,⇑x,↑f] o y;symm;have b:=F0 Y X.fll X.sg s;exact ixI (c _ _ X.f) b.1 b.2.1 (k4 _ (M5 _))
 . intro S e P A d;have d:e S=↥((sgAt fl (iN cs)).map V.int):=by rw[OX.mpr (λ_ _=>rfl)]at d;exact d
   exists⟨aP #[1],λp G=>?_⟩;obtain⟨o,z9,c,eN⟩:∃ z,upd e p (.lst [])=z/\Same e z/\z p=↥((iN []).map V.int):=aW _ G;rw[z9];have a:=A.trans c;subst v;exact A0 (X.same a) Y I k0 m0 L (a _ _ i) (c _ _ d) eN B D λr H' M O=>q r H' (a.trans M) O
theorem Je(k:RK):decide (tx (nmC k)=tx s!"rising")=decide (k=.Rising):=by cases k <;> decide+kernel
theorem ua{R v1 v2 v4 L U u p s:Option V}(X:Rw53 H f h w g fl)(Y:Cs58 h w cs)(T:jf K H)(I:allK k=false)(k0:k≠.Rule)(m0:1<=m)(J:m<=g)(G:H C=↥((iN cs).map V.int))(E:k=.Unlike\/k=.Rising->(sgAt fl (iN cs)).Nodup)(q:∀(r:RR) (H':Hp),AX K H H'->jf K H'->f9 h w g fl r->Q (.str r.txt) H'):
  gd K (eD9 Q) [R,v1,v2,↑f,v4,L,some (.str (tx (nmC k))),⇑m,↑C,U,u,p,s] H:=by
 have cl:=Y.len;have il:(iN cs).length=cs.length:=by unfold iN;rw[MZ]
 unfold gd;rw[aG,aD];generalize B:gb K=W at*;symm;rw[Je];by_cases e:k=.Rising
 . rw[M3 e];refine iteT ?_;unfold qA;refine kR (v:=V.ref C) rfl ?_;refine⟨C,f,iN cs,fl,rfl,G,rfl,X.f,λx l=>?_,by lia,T,λa r H2 hr o pw D N S=>?_⟩
   . have b:=F0 Y X.fll X.sg l;exact⟨b.1,b.2.1⟩
   . have zm:∀ z∈a,0<=z:=λz Z=>(AJ (o.mem_iff.mp Z)).1
     have y:iN (a.map Int.toNat)=a:=by
      unfold iN;rw[NH]
      conv=>rhs;rw[← QM a]
      exact OK λx l=>by have:=zm x l;show((x.toNat:Nat):Int)=x;lia
     have j:(a.map Int.toNat).Perm cs:=by
      have:=o.map Int.toNat;unfold iN at this;rw[NH]at this
      have e2:cs.map (Int.toNat ∘ λ(n:Nat)=>(n:Int))=cs:=by
       conv=>rhs;rw[← QM cs]
       exact OK λx _=>by show((x:Int)).toNat=x;lia
      rw[e2]at this;exact this
     have M:Cs58 h w (a.map Int.toNat):=⟨λe=>Y.ne (List.Perm.nil_eq (e ▸ j)).symm,j.nodup_iff.mpr Y.nd,λc P=>Y.lt c (j.mem_iff.mp P),by rw[j.length_eq];exact Y.len⟩
     have A:(sgAt fl (iN (a.map Int.toNat))).Nodup:=by
      rw[y];unfold sgAt;exact(o.map _).nodup_iff.mpr (E (.inr e))
     have t:(sgAt fl (iN (a.map Int.toNat))).Pairwise (· <=·):=by
      rw[y];unfold sgAt;rw[Qk];exact pw
     subst B;have X2:Rw53 H2 f h w g fl:=⟨X.F,D _ _ (T.ne X.f) X.f,X.fll,X.sg,X.m1⟩;exact t9 X2 M I k0 m0 J (by rw[y];exact S) (λd=>by rw[e]at d;cases d) (λ_=>AY t A) λr H' i O=>q r H' (D.trans (.of i)) (N.same i) O
 . rw[M2 e];refine iteF ?_;subst B;exact t9 X Y I k0 m0 J G (λd=>E (.inl d)) (λd=>absurd d e) λr H' i O=>q r H' (.of i) (T.same i) O
theorem Hy {D:Ends} {R:Addr} {a:List Nat} {n:Nat} {o v1 v2 q i j l p b c:Option V} (r:H f=↥(fl.map V.int)) (h:H R=↥((iN a).map V.int)) (B:a.length<=16) (y:∀ x∈a,x<fl.length) (C:n<fl.length)
  (k1:fl.getD n 0∉sgAt fl (iN a)->∀ H',Same H H'->D.nx [o,v1,v2,↑f,q,i,j,l,p,↑R,⇑(n:Int),b,c] (upd H' R (.lst ((iN (a++[n])).map V.int))))
  (k2:a≠[]->∀ H',Same H H'->D.nx [o,v1,v2,↑f,q,i,j,l,p,↑R,⇑(n:Int),b,c] H'):
  Dp K D [o,v1,v2,↑f,q,i,j,l,p,↑R,⇑(n:Int),b,c] H:=by
 unfold Dp;rw[aD];exists ixI r #[4] #[4] ?_;refine⟨⟨_,Nm h⟩,?_⟩;refine aS (λ_=>true) (λx=>fl.getD x.toNat 0) (by unfold iN;rw[MZ];lia) (Nm h) ?_ ?_ ?_
 . intro x u z t s k4;exact k4 _ (M5 _)
 . intro x u w t v s k4;show tOp cIx _ _ [none,⇑x,↑f] u w;symm;have m:=AJ t;have:=y _ m.2;exact ixI (s _ _ r) m.1 #[4] (k4 _ (M5 _))
 . intro S k A d g;have g:k S=↥((sgAt fl (iN a)).map V.int):=by rw[OX.mpr (λ_ _=>rfl)]at g;exact g
   rw[kT g,N1];by_cases h1:fl.getD n 0∈sgAt fl (iN a)
   . rw[M3 h1];exists k2 (λe=>?_) k d;rw[e]at h1;cases h1
   . rw[M2 h1];exists⟨aZ (d _ _ h),?_⟩;rw[cy (d _ _ h)];refine⟨by rw[MZ];unfold iN;rw[MZ];exact aC #[4],?_⟩;have:=k1 h1 k d;unfold iN at this ⊢;rw[OT,OT]at this;exact this
theorem BQ{v0 v1 v2 v4 v5:Option V}(X:Rw53 H f h w g fl)(Y:Cs58 h w cs)(T:jf K H)(F:allK k=false)(k0:k≠.Rule)(m0:1<=m)(m1:m<=g)(E:H C=↥((iN cs).map V.int))(q:∀(r:RR) (H':Hp),AX K H H'->jf K H'->f9 h w g fl r->Q (.str r.txt) H'):
  ge K (eD9 Q) [v0,v1,v2,↑f,v4,v5,some (.str (tx (nmC k))),⇑m,↑C,none,none,none,none] H:=by
 have cl:=Y.len;have il:(iN cs).length=cs.length:=by unfold iN;rw[MZ]
 unfold ge;rw[aG,aD];generalize hW:gd K=W at*;generalize hU:Dp K=U at*;exists⟨lnR rfl,λt S=>?_⟩;have u:Same H (upd H t (.tup ([tx s!"unlike",tx s!"rising"].map V.str))):=(M5 H).laid S;have M:(upd H t (.tup ([tx s!"unlike",tx s!"rising"].map V.str))) t=some (.tup ([tx s!"unlike",tx s!"rising"].map V.str)):=ah;show cIn K false (V.str (tx (nmC k))) (V.ref t) (upd H t (.tup ([tx s!"unlike",tx s!"rising"].map V.str))) _;generalize upd H t (.tup ([tx s!"unlike",tx s!"rising"].map V.str))=H1 at*;rw[Jb M,JD]
 cases hu:unrK k with
 | false=>
  refine⟨false,rfl,iteF ?_⟩;subst hW;exact ua (X.same u) Y (T.same u) F k0 m0 m1 (u _ _ E) (λe=>by rcases e with rfl | rfl <;> cases hu) λr H' N G O=>q r H' ((QX u).trans N) G O
 | true=>
  refine⟨true,rfl,iteT ?_⟩;exists⟨aP #[1],λR hR=>?_⟩;have s6:Same H1 (upd H1 R (.lst [])):=(M5 H1).laid hR;have eR:(upd H1 R (.lst [])) R=↥((iN []).map V.int):=ah;have L:H R=none:=u.free hR;generalize upd H1 R (.lst [])=H2 at*;have y:=u.trans s6;have aa:R≠C:=λe=>by rw[e,E]at L;cases L
  refine⟨⟨_,Nm (y _ _ E)⟩,?_⟩;subst hU;have lt:=λc z=>Y.lt c z;have ab:=X.fll;refine bz (K:=K) (xs:=(iN cs).map V.int) (λi σ H'=>∃(p:Option V) (j:List Nat),σ=[v0,v1,v2,↑f,v4,v5,some (.str (tx (nmC k))),⇑m,↑C,↑R,p,none,none]/\Same H H'/\H' R=↥((iN j).map V.int)/\j.Sublist (cs.take i)/\(0<i->j≠[])/\(sgAt fl (iN j)).Nodup) ⟨_,[],rfl,y,eR,List.nil_sublist _,(λh=>absurd h (Oj _)),Pa⟩ (λi σ H' _ ⟨_,_,_,s,_⟩=>Nm (s _ _ E)) ?_ ?_
  . rintro i v σ H3 hv ⟨p,j,rfl,o,l,d,J,D⟩;obtain⟨c,z,rfl⟩:=aN hv
    have P:∃ n,cs[i]? =some n/\c=(n:Int):=by
     unfold iN at z;rw[M7]at z;obtain⟨n,B,rfl⟩:=Oy.mp z;exact⟨n,B,rfl⟩
    obtain⟨n,B,rfl⟩:=P;have dl:j.length<=16:=Nk d.length_le (by rw[Oa];lia);have Z:∀ x∈j,x<fl.length:=λx hx=>by have:=lt x (O8 (d.subset hx));lia
    have tk:cs.take (i+1)=cs.take i++[n]:=by rw[Pc,B];rfl
    rw[aY];refine Hy (o _ _ X.f) l dl Z (by have:=lt n (M8 B);lia) (λI H4 A=>?_) (λh0 H4 A=>?_)
    . exact⟨_,j++[n],rfl,(o.trans A).own L,ah,by rw[tk];exact d.append (List.Sublist.refl _),(λ_=>by simp),by rw[EZ];exact OF.mpr ⟨D,by simp,λa F b hb e=>I (by rw[← Nd.mp hb,← e];exact F)⟩⟩
    . exact⟨_,j,rfl,o.trans A,A _ _ l,d.trans (by rw[tk];exact List.sublist_append_left _ _),(λ_=>h0),D⟩
  . rintro σ H3 ⟨p,j,rfl,o,l,d,J,D⟩;rw[MZ,il]at d J;rw[N6]at d;have cp:=PZ.mpr Y.ne;symm;subst hW;exact ua (X.same o) (Y.sub d (J cp)) (T.same o) F k0 m0 m1 l (λ_=>D) λr H' N G O=>q r H' ((QX o).trans N) G O
end
def reg53:List RK:=[.Joined,.NoSquare,.Ring]
theorem Gc{j:Int}(a:0<=j)(b:j<3):∃ k:RK,(k=.Joined\/k=.NoSquare\/k=.Ring)/\atI (reg53.map λk=>V.str (tx (nmC k))) j=some (V.str (tx (nmC k))):=by
 have e:j=0\/j=1\/j=2:=by lia
 rcases e with rfl | rfl | rfl
 . exact⟨.Joined,.inl rfl,rfl⟩
 . exact⟨.NoSquare,.inr (.inl rfl),rfl⟩
 . exact⟨.Ring,.inr (.inr rfl),rfl⟩
def lin53:List RK:=[.Unlike,.Sum,.Rising,.Count,.Seen]
theorem Gd{j:Int}(a:0<=j)(b:j<5):∃ k:RK,allK k=false/\k≠.Rule/\atI (lin53.map λk=>V.str (tx (nmC k))) j=some (V.str (tx (nmC k))):=by
 have e:j=0\/j=1\/j=2\/j=3\/j=4:=by lia
 rcases e with rfl | rfl | rfl | rfl | rfl
 . exact⟨.Unlike,rfl,by decide,rfl⟩
 . exact⟨.Sum,rfl,by decide,rfl⟩
 . exact⟨.Rising,rfl,by decide,rfl⟩
 . exact⟨.Count,rfl,by decide,rfl⟩
 . exact⟨.Seen,rfl,by decide,rfl⟩
section
variable{K:Frag}{H:Hp}{Q:VK}{f:Addr}{h w g m y:Int}{fl:∅}
theorem ub{p s:Option V}(X:Rw53 H f h w g fl)(T:jf K H)(m0:1<=m)(J:m<=g)(q:∀(r:RR) (H':Hp),AX K H H'->jf K H'->f9 h w g fl r->Q (.str r.txt) H'):
  gg K (eD9 Q) [⇑h,⇑w,⇑g,↑f,⇑y,p,s,⇑m,none,none,none,none,none] H:=by
 have N:=X.fll;have I:=X.F.m;have Z:=X.m1;unfold gg;generalize u:ge K=W at*;symm;rw[a8 X.f,MZ];refine⟨⟨by decide,by decide⟩,?_⟩;refine⟨_,_,rfl,by lia,by lia,λO d cs i hO E L C A=>?_⟩;have S:=NZ (y/90) (show(fl.length:Int)≠0 by lia);have R:=NQ (y/90) (show 0 < (fl.length:Int) by lia);symm;rw[a8 (i _ _ X.f),MZ];refine⟨⟨by decide,by decide⟩,?_⟩;exists⟨by lia,?_⟩;generalize y/90 % (fl.length:Int)=x at*;refine qd E λo b=>?_;rw[Aj _ #[4],AU];obtain⟨H4,z9,s4,e4⟩:∃ z,upd d o (.lst (nsV (cs.take (1+x).toNat)))=z/\Same d z/\z o=↥((iN (cs.take (1+x).toNat)).map V.int):=aW _ b;rw[z9];have n:(cs.take (1+x).toNat).length=(1+x).toNat:=by rw[Oa];lia
 have Y:Cs58 h w (cs.take (1+x).toNat):=⟨λe=>by rw[e]at n;simp at n;lia,L.sublist (List.take_sublist _ _),λc D=>by have:=C c (O8 D);lia,by lia⟩;generalize cs.take (1+x).toNat=ds at*;exists⟨lnR rfl,λU P=>?_⟩;have l:Same H4 (upd H4 U (.lst (lin53.map λk=>V.str (tx (nmC k))))):=(M5 H4).laid P;have v:(upd H4 U (.lst (lin53.map λk=>V.str (tx (nmC k))))) U=↥(lin53.map λk=>V.str (tx (nmC k))):=ah;refine⟨⟨by decide,by decide⟩,by decide,?_⟩;show cIx (V.ref U) (V.int (y/18%5)) (upd H4 U (.lst (lin53.map λk=>V.str (tx (nmC k))))) _;generalize upd H4 U (.lst (lin53.map λk=>V.str (tx (nmC k))))=H5 at*;obtain⟨k,G,k0,B⟩:=Gd (j:=y/18%5) (NZ _ #[1]) (NQ _ #[1]);refine ixL v B ?_;have a:=(i.trans s4).trans l;subst u;exact BQ (X.same a) Y (T.same a) G k0 m0 J (l _ _ e4) λr H' M t O=>q r H' ((QX a).trans M) t O
end
theorem y7(h:lN K vs H Q E):lO K (eD9 Q) (start ["_law_high","_law_wide","_law_signs","_law_filling","_law_cell","_law_words","_law_word","_law_sign","_law_order_here","_law_some","_law_spot","_law_told","_law_numbers"] vs) H:=by
 obtain⟨f,h,w,g,y,fl,rfl,X,M,T,q⟩:=h;have P:=X.F.g0;have R:=X.F.g1;ac_nf;unfold lO;generalize d:jg K=W at*;exists⟨lnR rfl,λU I=>?_⟩;have s1:Same H (upd H U (.lst (reg53.map λk=>V.str (tx (nmC k))))):=(M5 H).laid I;have C:(upd H U (.lst (reg53.map λk=>V.str (tx (nmC k))))) U=↥(reg53.map λk=>V.str (tx (nmC k))):=ah;refine⟨by decide,?_⟩;show cIx (V.ref U) (V.int (y%3)) (upd H U (.lst (reg53.map λk=>V.str (tx (nmC k))))) _;generalize upd H U (.lst (reg53.map λk=>V.str (tx (nmC k))))=H1 at*;obtain⟨k,c,D⟩:=Gc (j:=y%3) (NZ _ #[1]) (NQ _ #[1]);refine ixL C D ?_;have S:=NZ (y/3) (show g≠0 by lia);have N:=NQ (y/3) (show 0<g by lia);refine⟨⟨by decide,by decide⟩,by lia,?_⟩;have m0:1<=1+y/3%g:=by lia
 have z:1+y/3%g<=g:=by lia
 generalize 1+y/3%g=m at*;have o:=X.same s1;have p:=T.same s1;have u:∀(r:RR) (H':Hp),AX K H1 H'->jf K H'->f9 h w g fl r->Q (.str r.txt) H':=λr H' s l O=>q r H' ((QX s1).trans s) l O;subst d;unfold jg;rw[aG,aD];generalize d:gg K=W at*;exists⟨⟨by decide,by decide⟩,by decide,?_⟩;by_cases x:y/9%2=0
 . refine j5 (M3 x) ?_;exists⟨f,k,h,w,g,m,fl,rfl,c,X.F,o.f,X.fll,λb J B a=>?_⟩
   cases b with
   | true=>
    refine⟨true,rfl,?_⟩;symm;have G:allK k=true:=by rcases c with rfl | rfl | rfl <;> rfl
    have k0:k≠.Rule:=by rcases c with rfl | rfl | rfl <;> decide
    have A:sgnK k=true:=by rcases c with rfl | rfl | rfl <;> rfl
    have v:numK k=false:=by rcases c with rfl | rfl | rfl <;> rfl
    have L:=Cu k;have t:=toSA (i:=m) #[4] #[4];rw[t.1,vA,vA];have Y:=tu (n:=m.toNat);refine⟨by rw[gM,gM];exact aP (by simp;lia),t.2,by rw[gM,gM];exact aP (by simp;lia),?_⟩
    have e:nmC k++[32]++numC m.toNat=catL 32 (rowW k 0 m.toNat []):=by
     unfold rowW;rw[v,A];show _=nmC k++32::numC m.toNat;simp
    rw[e];refine u ⟨k,0,m.toNat,[],rngL 0 (h*w)⟩ J (.of a) (p.same a) ⟨EE G k0 v A #[4] #[4],?_⟩;show hoB k h w (rngL 0 (h*w)) ((0:Nat):Int) ((m.toNat:Nat):Int) fl=true;rw[show((m.toNat:Nat):Int)=m by lia];exact B rfl
   | false=>
    refine⟨false,rfl,?_⟩;symm;subst d;exact ub (o.same a) (p.same a) m0 z λr H' s l O=>u r H' ((QX a).trans s) l O
 . refine gn (M2 x) ?_;subst d;exact ub o p m0 z u
def rIsB:R2
 | .bl a,.bl b,H,Q=>Q (.bl (a==b)) H
 | _,_,_,_=>False
def JG{a b:Bool}{H:Hp}{Q:VK}:rIsB (.bl a) (.bl b) H Q=Q (.bl (a==b)) H:=rfl
theorem Jf{X:Cx}:OpR X (compareOp .Is) rIsB:=by
 intro f s σ H x y v u Q I c d h;unfold rIsB at h
 split at h
 . cases c;cases d
   rename_i a b
   show wpAny _ _ (do let r ← isSame (.bool a) (.bool b);pure (Value.bool r)) _ _ _;have e:isSame (.bool a) (.bool b)=pure (a==b):=by cases a <;> cases b <;> rfl
   rw[e];exact N9 ⟨.bl _,H,I,rfl,h⟩
 . exact h.elim
def Fc(K:Frag)(c:QZ)(d:Q0):Sp:=#[3,∃(a:Addr) (ns:∅),vs=[.ref a]/\SqL K H a (ns.map V.int)/\ns.length<=63/\(∀ k,k≠.Rule->c.ok k=true)/\d.ok .Puzzle=true/\H (tabP K "_law_row")=some (.tbl #[])/\∀ H',Q (.bl true) H']
def xM(K:Frag):Sp:=#[3,∃(a:Addr) (ns:∅),vs=[.ref a]/\SqL K H a (ns.map V.int)/\ns.length<=63/\H (tabP K "_law_row")=some (.tbl #[])/\∀ H',Q (.bl true) H']
def qB(K:Frag)(c:QZ)(d:Q0):TS:=#[":j~h~Y|gc}MxrU}N}Obir|cap~aa5ddeIQ"]
def l6(K:Frag)(c:QZ)(d:Q0):TS:=#[":gmeIQh#16 gK*apza5ddh#9 gmcksaef#1 aef#2 aef#4 aef#8 aef#16 dcOck59ef#1 h#17 gnlcqbcHcTck|f9|hef#2 ef#0 jeIBomL|gcqbck|f9|hh#16 }Pbir"]
def l7(K:Frag)(c:QZ)(d:Q0):TS:=#[":gmck,}Qbira|ca6a|edef#0 h#15 gnPSAp~ka|fae~lEdlcFbpza|fdpza5djeIBo}Rbir"]
def l8(K:Frag)(c:QZ)(d:Q0):TS:=#[":gm,'sbacHcV,~Rba0aef#5 def#69621 ef#1000003 aef#11 dh#13 g~v#14 &-- tb?[|d~gYcyef#3 cHcT1ef#360 ef#9 h#1 Gc}Sb'ob'p1}Tbir"]
def qC(K:Frag)(c:QZ)(d:Q0):TS:=#[":gm:}U}V}Wbir=;aXa2a3a4da|ba7dh#12 }Xbir"]
def nG(K:Frag)(c:QZ)(d:Q0):TS:=#[":gmsdh#11 gK*acyef#1 cHcT1ef#90 ef#4 dh#9 NDbER|ba,}Yba2a3a4a5acHcVcy,~Rba0acyef#1 9dcVef#127 9ef#30011 ef#1000003 dd}Zbir"]
def nI(K:Frag)(c:QZ)(d:Q0):TS:=#[":gK*acV23dh#9 gmcHcVcy,~Rba0acyef#6 9dcVcVef#113 99ef#48271 ef#65521 h#10 gNDbER5acyef#1 cH|acksaef#1 a4ap}*aef#2 a4ddcHcT1ef#30 ef#3 dgNDbER6ac'gcksa8acyef#1 cHcT|aef#7 8dcHcT|aef#5 ef#2 cksaef#1 aef#2 aef#4 aef#8 aef#16 dcOck59ef#1 dNDbER7acksaef#0 ack59aef#0 dcHcT|aef#10 ef#3 d}+bir"]
def sw(K:Frag)(c:QZ)(d:Q0):TS:=#[":gmcyef#1 cHcT1ef#6 ef#5 h#4 gmsdh#5 gmsdh#6 gmsdh#7 gmcksaef#1 aef#3 aef#7 aef#15 aef#31 dcO4ef#1 h#8 }-bir"]
def sy(K:Frag)(c:QZ)(d:Q0):TS:=#[":gmcksaXaef#1 aef#2 daXaef#2 aef#2 daXaef#1 aef#5 daXaef#2 aef#3 daXaef#3 aef#3 daXaef#2 aef#4 ddcH1ef#6 ~Ab#2 -h#2 -h#3 ~B}/bir"]
def A1(K:Frag)(c:QZ)(d:Q0):TS:=#[":gmcHcV,~Rba0aef#0 def#16807 ef#65537 h#1 }:bir"]
variable{K:Frag}{H:Hp}{a:Addr}{xs:List V}
theorem JH{H':Hp}{P:Addr}{l c:Nat}{q:Str}(h:SqL K H a xs)(T:TbOk l c q H P)(s:SameX P H H'):SqL K H' a xs:=by
 rcases h with h | h
 . refine .inl ?_
   have f:∀{u:HO},H a=some u->(∀ b,u≠.tbl b)->a≠P:=λe n z=>by
    rcases T with d | ⟨_,d,_⟩ <;> (rw[z,d]at e;cases e;exact n _ rfl)
   rcases h with e | ⟨o,e⟩
   . exact .inl (s _ _ (f e λb z=>by cases z) e)
   . exact .inr ⟨o,s _ _ (f e λb z=>by cases z) e⟩
 . exact .inr h
theorem TbOk.own{l c:Nat}{q:Str}{P R:Addr}{o:HO}(x:TbOk l c q H P)(e:H R=↥xs):TbOk l c q (upd H R o) P:=by
 rcases x with b | ⟨a,b,d⟩
 . exact .inl (by rw[aj (λz=>by rw[z,e]at b;cases b)];exact b)
 . exact .inr ⟨a,by rw[aj (λz=>by rw[z,e]at b;cases b)];exact b,by rw[aj (λz=>by rw[z,e]at d;cases d)];exact d⟩
theorem Ge{b:Hp}{R:Addr}{o:HO}(f:SqL K H a xs)(d:H R=none)(h4:SqL K b a xs):SqL K (upd b R o) a xs:=by
 rcases f with h | h
 . have c:a≠R:=λz=>by rcases h with e | ⟨_,e⟩ <;> (rw[z,d]at e;cases e)
   rcases h4 with e | e
   . refine .inl ?_;rcases e with e | ⟨u,e⟩
     . exact .inl (by rw[aj c];exact e)
     . exact .inr ⟨u,by rw[aj c];exact e⟩
   . exact .inr e
 . exact .inr h
variable{s:Int}
theorem GB(s0:1<=s)(a:s<=5):([1,2,4,8,16]:∅).getD (s-1).toNat 0=1*2^(s-1).toNat:=by
 have e:s=1\/s=2\/s=3\/s=4\/s=5:=by lia
 rcases e with rfl | rfl | rfl | rfl | rfl <;> decide
theorem Hz{g:Int}(b:1<=g)(a:g<=5):([1,3,7,15,31]:∅).getD (g-1).toNat 0=2^g.toNat-1:=by
 have e:g=1\/g=2\/g=3\/g=4\/g=5:=by lia
 rcases e with rfl | rfl | rfl | rfl | rfl <;> decide
theorem GC(s0:1<=s)(a:s<=6):(0<=(1:Int)*2^(s-1).toNat/\(1:Int)*2^(s-1).toNat<64)/\stB ((1:Int)*2^(s-1).toNat) s=true:=by
 have e:s=1\/s=2\/s=3\/s=4\/s=5\/s=6:=by lia
 rcases e with rfl | rfl | rfl | rfl | rfl | rfl <;> decide
theorem Gf{m:Int}(h:stB m s=true):m/2^(s-1).toNat%2=1:=by
 unfold stB at h;simp only[M9,M4]at h;exact h.2.2
theorem Fd{n:Nat}(a:n<11):atI (gt_KINDS.map V.str) (n:Int)=some (V.str (txk (allT.getD n .clue))):=by
 refine gr ?_;rw[wj,M7,M7,M0 (show n<allT.length from a),List.getD,M0 (show n<allT.length from a)];rfl
theorem Fe{cs:List Nat}{i:Nat}{x:V}(e:(nsV cs)[i]? =some x):i<cs.length/\x=V.int ((cs.getD i 0:Nat):Int):=by
 unfold nsV at e;rw[M7,M7]at e
 cases a:cs[i]? with
 | none=>rw[a]at e;cases e
 | some y=>
  rw[a]at e;refine⟨(M6.mp a).1,?_⟩;rw[List.getD,a];exact(OB e).symm
structure xN(h w g:Int)(fl ms cl:∅):Prop where
 F:FlOk h w g
 m1:1<=h*w
 m9:h*w<=9
 g5:g<=5
 fll:fl.length=(h*w).toNat
 sg:∀ x∈fl,1<=x/\x<=g
 M:MkP g (h*w).toNat ms
 st:∀ k,k<fl.length->stB (ms.getD k 0) (fl.getD k 0)=true
 C:CluesOk h w g cl
 cu:∀ k,k<fl.length->cl.getD k 0=0\/cl.getD k 0=fl.getD k 0
section
variable{K:Frag}{c:QZ}{d:Q0}{H:Hp}{Q:VK}{P L G C R A f a N:Addr}{h w g y:Int}{MP:List RR}{fl ms cl now ns:∅}
theorem JI(D:xN h w g fl ms cl)(b:∀ r∈MP,f9 h w g fl r):metB h w g MP cl fl=true:=by
 unfold metB filB cluB rowsB;rw[M9,M9,M9];refine⟨⟨M3 D.fll,Na.mpr λx d=>?_⟩,Na.mpr λi a=>?_,Na.mpr λr c=>(b r c).2⟩
 . have:=D.sg x d;rw[M3 this.1,M3 this.2];rfl
 . have:=Nj.mp a;rcases D.cu i (by rw[D.fll,← D.C.1];exact this) with e | e
   . rw[M3 e];rfl
   . rw[M3 e,Bool.or_true]
theorem Dq{S v1 v2 J v4 I O T C s n m u x e:Option V}(D:xN h w g fl ms cl)(ho:∀ r∈MP,f9 h w g fl r)(E:IsPz H c d P L G h w g MP cl)(v:H f=↥(fl.map V.int))(R:H N=↥(now.map V.int))(M:MkP g (h*w).toNat now)(st:∀ k,k<fl.length->stB (now.getD k 0) (fl.getD k 0)=true)(q:∀ H',Q (.bl true) H'):
  l6 K c d (eD9 Q) [S,v1,v2,J,v4,↑f,I,O,T,C,s,n,↑P,m,u,↑N,x,e] H:=by
 have ab:=D.fll;have m9:=D.m9;have ln:=M.len;obtain⟨dx,p,rs,h1,h2,h3⟩:=E.ex;unfold l6;generalize hW:qB K c d=W at*;symm;rw[a8 v,MZ];refine⟨_,rfl,by lia,by lia,?_⟩;refine jj (λi σ H'=>∃(C e:Option V) (b:Bool),σ=[S,v1,v2,J,v4,↑f,I,O,T,C,s,n,↑P,m,u,↑N,some (.bl b),e]/\Same H H') ⟨_,_,true,rfl,M5 _⟩ ?_ ?_
 . rintro i σ F X ⟨A,j,b,rfl,l⟩;have t:i<fl.length:=by rw[N1]at X;exact X
   have Y:=D.sg _ (f8 (ms:=fl) t);have g5:=D.g5;rw[Pe];exists⟨lnR rfl,λU hU=>?_⟩;obtain⟨H3,y,B,eU⟩:∃ z,upd F U (.lst [V.int 1,V.int 2,V.int 4,V.int 8,V.int 16])=z/\Same F z/\z U=↥(([1,2,4,8,16]:∅).map V.int):=aW _ hU;rw[y];have a:=l.trans B;refine ixI (a _ _ v) #[4] #[4] ?_;rw[N1];exists ixI eU #[4] (by show _ < (5:Int);lia) ?_;rw[GB Y.1 #[4]];have dv:=Gf (st i t);have pp:(0:Int)<1*2^(fl.getD i 0-1).toNat:=by rw[QO];exact Int.pow_pos #[1]
   rw[QO] at*
   have aa:(2:Int)^(fl.getD i 0-1).toNat<64:=by
    have:=(GC Y.1 #[4]).1.2;rw[QO]at this;exact this
   generalize (2:Int)^(fl.getD i 0-1).toNat=o at*;rw[aD];exists ixI (a _ _ R) #[4] #[4] ?_;rw[N1];exists⟨⟨by lia,by lia⟩,by decide,?_⟩;refine gn (M2 #[4]) ?_;symm
   cases b with
   | false=>exact⟨_,_,false,rfl,a⟩
   | true=>
    refine iteT ?_;refine ixI (a _ _ R) #[4] #[4] ?_;rw[N1];exists⟨_,_,_,rfl,a⟩
 . rintro σ F ⟨A,j,b,rfl,l⟩;subst hW;unfold qB;symm
   cases b with
   | false=>exact q _
   | true=>
    refine gn rfl ?_;exists methE (k:=.Puzzle) rfl E.ok (l _ _ h1) (by rfl) ?_;exists mr (l _ _ v) λZ hZ=>?_;obtain⟨H3,y,B,eZ⟩:=aW (.lst (fl.map V.int)) hZ;rw[y];refine⟨P,L,G,Z,h,w,g,MP,cl,fl,rfl,E.same (l.trans B),eZ,by lia,λH4 s4=>?_⟩;rw[JI D ho];dsimp only;rw[JG];exact q _
theorem JJ{ks:List TK}{MV:List Tho}(D:xN h w g fl ms cl)(c:∀ r∈MP,f9 h w g fl r)(W:Wlk h w g MP cl ks ms MV now):∀ k,k<fl.length->stB (now.getD k 0) (fl.getD k 0)=true:=by
 have f:=D.g5;have b:=D.F.g0;have d:=jW b (show g<=6 by lia);exact AV (λ{m} M e=>⟨D.F,D.fll,M.len,λx a=>⟨(M.mm x a).1,by have:=(M.mm x a).2;lia⟩,D.sg,e,D.cu,λx a=>(c x a).1,λx a=>(c x a).2⟩) b #[4] D.fll D.sg D.M D.st W
theorem Dr{o:Addr}{ks:List TK}{O v1 v2 y Y J S U m l j a b n:Option V}(D:xN h w g fl ms cl)(s:∀ r∈MP,f9 h w g fl r)(u:IsPz H c d P L G h w g MP cl)(p:H f=↥(fl.map V.int))(X:H A=↥(ms.map V.int))(Z:KdL H o ks)(q:∀ H',Q (.bl true) H'):
  l7 K c d (eD9 Q) [O,v1,v2,y,Y,↑f,↑A,J,S,U,m,l,↑P,j,↑o,a,b,n] H:=by
 have g5:=D.g5;have z:=D.F.g0;unfold l7;generalize I:l6 K c d=W at*;exists⟨P,L,G,A,o,h,w,g,MP,cl,ms,ks,rfl,⟨u,X,D.M.len,D.M.mm⟩,.inl Z,λT N B bs Ms now MV H2 i hT hN hB hb hM x k Bk C t en R=>?_⟩;have M:=(t.okM z #[4] D.M).1;have E:=JJ D s t;exists ixT x (v:=V.ref N) rfl ?_;rw[aD];exists Er k ?_;symm;rw[a8 k,a8 (i _ _ p)];symm;rw[MZ,MZ];have e:((now.length:Nat):Int)=((fl.length:Nat):Int):=by rw[M.len,D.fll]
 refine gn (by rw[M3 e];rfl) ?_;subst I;exact Dq D s (u.same i) (i _ _ p) k M E q
theorem Ds{v2 B v4 X v8 v9 o n:Option V}(I:SqL K H a (ns.map V.int))(J:ns.length<=63)(D:xN h w g fl ms cl)(C:∀ r∈MP,f9 h w g fl r)(pz:IsPz H c d P L G h w g MP cl)(v:H f=↥(fl.map V.int))(eA:H A=↥(ms.map V.int))(q:∀ H',Q (.bl true) H'):
  l8 K c d (eD9 Q) [↑a,⇑y,v2,B,v4,↑f,↑A,X,v8,v9,o,n,↑P,none,none,none,none,none] H:=by
 unfold l8;generalize R:l7 K c d=W at*;exists⟨a,ns,5,rfl,I,J,by decide,by decide,?_⟩;exists⟨.inr ⟨by decide,by decide⟩,by decide,?_⟩;refine⟨_,11,rfl,by decide,by decide,λO H3 cs U hO eO nd Y S=>?_⟩;symm;have b0:=NZ (y/360) (show(9:Int)≠0 by decide);have b1:=NQ (y/360) (show(0:Int)<9 by decide);refine⟨⟨by decide,by decide⟩,by decide,?_⟩;generalize y/360%9=x at*;refine qd eO λO2 k=>?_;rw[Aj _ #[4],AU];obtain⟨H4,F,M,p⟩:=aW (.lst (nsV (cs.take (3+x).toNat))) k;rw[F];have m:∀ z∈cs.take (3+x).toNat,z<11:=λz j=>by have:=Y z (O8 j);lia
 have tl:(cs.take (3+x).toNat).length<=11:=by rw[Oa];lia
 generalize cs.take (3+x).toNat=ds at*;have nl:(nsV ds).length=ds.length:=by unfold nsV;rw[MZ,MZ]
 refine⟨O2,rfl,⟨_,Nm p⟩,?_⟩;refine cH (λ_=>true) (λi=>V.str (txk (allT.getD (ds.getD i 0) .clue))) #[4] (Nm p) ?_ ?_ ?_
 . intro i z e R5 j l k5;exact k5 _ (M5 _)
 . intro i z e Q5 j E l k5;obtain⟨s,rfl⟩:=Fe j;show tOp _ _ _ [none,⇑_] e Q5;have hd:ds.getD i 0<11:=m _ (by rw[List.getD,M0 s];exact NB s);rw[eI,IL];intro u N;exists IM N (Fd hd) (k5 _ (M5 _))
 . intro Kd e Z l t;rw[bg]at t
   have T:KdL e Kd ((List.range (nsV ds).length).map λi=>allT.getD (ds.getD i 0) .clue):=by
    unfold KdL;rw[NH,NH];exact t
   have b:=U.trans (M.trans l);symm;subst R;exact Dr D C (pz.same b) (b _ _ v) (b _ _ eA) T q
theorem Ff{v8 Y I:Option V}(hS:SqL K H a (ns.map V.int))(hn:ns.length<=63)(D:xN h w g fl ms cl)(hk:∀ k,k≠.Rule->c.ok k=true)(ok:d.ok .Puzzle=true)(T:jf K H)(M:H f=↥(fl.map V.int))(Z:H A=↥(ms.map V.int))(N:H C=↥(cl.map V.int))(q:∀ H',Q (.bl true) H'):
  nG K c d (eD9 Q) [↑a,⇑y,⇑h,⇑w,⇑g,↑f,↑A,↑C,v8,Y,I,none,none,none,none,none,none,none] H:=by
 have n0:=NZ (y/90) (show(4:Int)≠0 by decide);have n1:=NQ (y/90) (show(0:Int)<4 by decide);unfold nG;generalize S:qC K c d=W at*;exists⟨aP #[1],λR v=>?_⟩;have s1:Same H (upd H R (.lst [])):=(M5 H).laid v;have eR:(upd H R (.lst [])) R=↥((([]:List RR).map RR.txt).map V.str):=ah;have nf:f≠R:=λe=>by rw[e,v]at M;cases M
 have nA:A≠R:=λe=>by rw[e,v]at Z;cases Z
 have nC:C≠R:=λe=>by rw[e,v]at N;cases N
 generalize upd H R (.lst [])=H1 at*;refine⟨⟨by decide,by decide⟩,by decide,?_⟩;generalize y/90%4=n at*;refine⟨1+n,rfl,by lia,by lia,?_⟩;refine jj (λi σ H'=>∃(Y:Option V) (MP:List RR),σ=[↑a,⇑y,⇑h,⇑w,⇑g,↑f,↑A,↑C,v8,Y,I,↑R,none,none,none,none,none,none]/\SqL K H' a (ns.map V.int)/\jf K H'/\H' f=↥(fl.map V.int)/\H' A=↥(ms.map V.int)/\H' C=↥(cl.map V.int)/\H' R=↥((MP.map RR.txt).map V.str)/\MP.length=i/\∀ r∈MP,f9 h w g fl r) ⟨_,[],rfl,s1.seq hS,T.same s1,s1 _ _ M,s1 _ _ Z,s1 _ _ N,eR,rfl,λ_ x=>(by cases x)⟩ ?_ ?_
 . rintro i σ u hi ⟨X,MP,rfl,o,s,b,m,l,B,rl,j⟩;rw[Pe];exists⟨aZ B,a,ns,_,rfl,o,hn,by lia,by lia,?_⟩;exists⟨.inl ⟨by decide,by decide⟩,.inr ⟨by decide,by decide⟩,by decide,?_⟩;refine⟨f,h,w,g,_,fl,rfl,⟨D.F,b,D.fll,D.sg,D.m1⟩,NZ _ #[1],s,λr H4 E T4 O=>?_⟩;have e4:=E _ _ (s.ne B) B;dsimp only;rw[cy e4];refine⟨by rw[MZ,MZ];exact aC #[4],_,MP++[r],rfl,?_,T4.own e4,by rw[aj nf];exact E _ _ (s.ne b) b,by rw[aj nA];exact E _ _ (s.ne m) m,by rw[aj nC];exact E _ _ (s.ne l) l,by rw[ah];simp,by simp[rl],λz J=>?_⟩
   . exact Ge hS v (JH o s E)
   . rcases Ny.mp J with J | J
     . exact j z J
     . rw[Nd.mp J];exact O
 . rintro σ u ⟨X,MP,rfl,o,s,b,m,l,B,rl,j⟩;subst S;have Ro:iw c h w g MP:=⟨D.F,by lia,λr x=>(j r x).1,λr x=>hk _ (j r x).1.k0⟩;unfold qC;generalize S:l8 K c d=W at*;exists⟨lnR rfl,λp hp=>?_⟩;have U:Same u (upd u p (.tup [V.int h,V.int w,V.int g])):=(M5 u).laid hp;have ep:IsFl (upd u p (.tup [V.int h,V.int w,V.int g])) p h w g:=ah;generalize upd u p (.tup [V.int h,V.int w,V.int g])=H4 at*;refine Iz ok ep (U _ _ B) (U _ _ l) Ro D.C λP L G H6 s6 hP hL hG pz=>?_;symm;have t:=U.trans s6;subst S;exact Ds (t.seq o) hn D j pz (t _ _ b) (t _ _ m) q
theorem JP{g a s:Int}(j:1<=g)(l:g<=5)(d:0<=a)(h:a<2^g.toNat)(s0:1<=s)(s1:s<=g):(0<=Builtin.bitOr a (1*2^(s-1).toNat)/\Builtin.bitOr a (1*2^(s-1).toNat)<2^g.toNat)/\stB (Builtin.bitOr a (1*2^(s-1).toNat)) s=true:=by
 have b:=GC (s:=s) s0 #[4];have i:=jW j (show g<=6 by lia);have o:=Jx (a:=a) (b:=1*2^(s-1).toNat) d #[4] b.1.1 b.1.2 s0 #[4];rw[b.2,Bool.or_true]at o;refine⟨?_,o⟩;rw[Am d b.1.1]
 have f:((1:Int)*2^(s-1).toNat).toNat<2^g.toNat:=by
  have e:g=1\/g=2\/g=3\/g=4\/g=5:=by lia
  have e2:s=1\/s=2\/s=3\/s=4\/s=5:=by lia
  rcases e with rfl | rfl | rfl | rfl | rfl <;> rcases e2 with rfl | rfl | rfl | rfl | rfl <;> first | decide | lia
 have k:a.toNat<2^g.toNat:=by
  have e:g=1\/g=2\/g=3\/g=4\/g=5:=by lia
  rcases e with rfl | rfl | rfl | rfl | rfl <;> (revert h;simp <;> lia)
 have:=Qi k f;refine⟨by lia,?_⟩;have c:((2^g.toNat:Nat):Int)=(2:Int)^g.toNat:=by simp
 lia
theorem l9{xs:∅}{v:Int}{k:Nat}(a:k < (xs++[v]).length):(k<xs.length/\(xs++[v]).getD k 0=xs.getD k 0)\/(k=xs.length/\(xs++[v]).getD k 0=v):=by
 rw[NG,Pw]at a;by_cases e:k<xs.length
 . refine .inl ⟨e,?_⟩;rw[List.getD,List.getD,NO e]
 . have e2:k=xs.length:=by lia
   refine .inr ⟨e2,?_⟩;rw[List.getD,NW #[4],e2,Nat.sub_self];rfl
theorem JK{g y:Int}(a:1<=g):1<=([1,g,if g<2 then g else 2]:∅).getD (y%3).toNat 0/\([1,g,if g<2 then g else 2]:∅).getD (y%3).toNat 0<=g:=by
 have e:(y%3).toNat=0\/(y%3).toNat=1\/(y%3).toNat=2:=by lia
 rcases e with e | e | e <;> rw[e]
 . exact⟨by show(1:Int)<=1;decide,by show(1:Int)<=g;lia⟩
 . exact⟨by show 1<=g;lia,by show g<=g;lia⟩
 . show 1<=(if g<2 then g else 2)/\(if g<2 then g else 2)<=g
   split <;> lia
theorem Fg{v9 m:Option V}(hS:SqL K H a (ns.map V.int))(hn:ns.length<=63)(F:FlOk h w g)(m1:1<=h*w)(m9:h*w<=9)(g5:g<=5)(p:∀ k,k≠.Rule->c.ok k=true)(ok:d.ok .Puzzle=true)(T:jf K H)(ef:H f=↥(([]:∅).map V.int))(eA:H A=↥(([]:∅).map V.int))(eC:H C=↥(([]:∅).map V.int))(J:f≠A)(I:f≠C)(t:A≠C)(H0:Hp)(s0:Same H0 H)(hf:H0 f=none)(hA:H0 A=none)(hC:H0 C=none)(q:∀ H',Q (.bl true) H')(E:SqL K H0 a (ns.map V.int))(T0:jf K H0):
  nI K c d (eD9 Q) [↑a,⇑y,⇑h,⇑w,⇑g,↑f,↑A,↑C,⇑(2^g.toNat-1),v9,m,none,none,none,none,none,none,none] H:=by
 have g0:=F.g0;unfold nI;generalize hW:nG K c d=W at*;exists⟨nh F.h0 F.h1,?_⟩;refine⟨h*w,rfl,by lia,by lia,?_⟩;refine jj (λi σ H'=>∃(v9 m:Option V) (fl ms cl:∅),σ=[↑a,⇑y,⇑h,⇑w,⇑g,↑f,↑A,↑C,⇑(2^g.toNat-1),v9,m,none,none,none,none,none,none,none]/\Same H0 H'/\H' f=↥(fl.map V.int)/\H' A=↥(ms.map V.int)/\H' C=↥(cl.map V.int)/\fl.length=i/\ms.length=i/\cl.length=i/\(∀ x∈fl,1<=x/\x<=g)/\(∀ x∈ms,0<=x/\x<2^g.toNat)/\(∀ x∈cl,0<=x/\x<=g)/\∀ k,k<i->stB (ms.getD k 0) (fl.getD k 0)=true/\(cl.getD k 0=0\/cl.getD k 0=fl.getD k 0)) ⟨_,_,[],[],[],rfl,s0,ef,eA,eC,rfl,rfl,rfl,λx B=>(by cases B),λx B=>(by cases B),λx B=>(by cases B),λk p=>absurd p (Nat.not_lt_zero _)⟩ ?_ ?_
 . rintro i σ S hi ⟨ab,r,fl,ms,cl,rfl,D,l,o,n,X,mn,cn,fx,mx,cx,N⟩;have af:i < (h*w).toNat:=hi;rw[Pe];exists⟨a,ns,_,rfl,D.seq E,hn,by lia,by lia,?_⟩;exists⟨.inl ⟨by decide,by decide⟩,.inl ⟨by lia,by lia⟩,.inr ⟨by decide,by decide⟩,by decide,?_⟩;have z0:=NZ ((AL ns (6+(i:Int))+113*(i:Int)*(i:Int))*48271) (show(65521:Int)≠0 by decide);generalize (AL ns (6+(i:Int))+113*(i:Int)*(i:Int))*48271%65521=z at*;refine⟨aZ l,lnR rfl,λU hU=>?_⟩;obtain⟨H4,z9,s4,eU⟩:∃ z,upd S U (.lst [V.int 1,V.int g,V.int (if g<2 then g else 2)])=z/\Same S z/\z U=↥(([1,g,if g<2 then g else 2]:∅).map V.int):=aW _ hU;rw[z9];refine⟨⟨by decide,by decide⟩,by decide,?_⟩;have dv:=JK (y:=y/30) g0;refine ixI eU (NZ _ #[1]) (by have:=NQ (y/30) (show(0:Int)<3 by decide);show _ < (3:Int);lia) ?_;generalize ([1,g,if g<2 then g else 2]:∅).getD (y/30%3).toNat 0=dd at*;exists⟨by lia,?_⟩;have r0:=NZ z (show dd≠0 by lia);have r1:=NQ z (show 0<dd by lia);have Y:1<=1+z%dd:=by lia
   have x1:1+z%dd<=g:=by lia
   generalize 1+z%dd=x at*;rw[cy (s4 _ _ l)];refine⟨by rw[MZ];exact aC #[4],?_⟩;have s:(upd H4 f (.lst (fl.map V.int++[V.int x]))) f=↥((fl++[x]).map V.int):=by rw[ah];simp
   have M:(upd H4 f (.lst (fl.map V.int++[V.int x]))) A=↥(ms.map V.int):=by rw[aj J.symm];exact s4 _ _ o
   have R:(upd H4 f (.lst (fl.map V.int++[V.int x]))) C=↥(cl.map V.int):=by rw[aj I.symm];exact s4 _ _ n
   have s5:Same H0 (upd H4 f (.lst (fl.map V.int++[V.int x]))):=(D.trans s4).own hf;generalize upd H4 f (.lst (fl.map V.int++[V.int x]))=H5 at*
   have aa:∀ u∈fl++[x],1<=u/\u<=g:=λu b=>by
    rcases Ny.mp b with b | b
    . exact fx u b
    . rw[Nd.mp b];exact⟨Y,x1⟩
   have fi:(fl++[x]).getD i 0=x:=by
    rcases l9 (xs:=fl) (v:=x) (k:=i) (by simp;lia) with ⟨e,_⟩ | ⟨_,e⟩
    . lia
    . exact e
   have ae:(fl++[x]).length=i+1:=by simp[X]
   have wp:(1:Int)<=2^g.toNat-1:=by
    have e:g=1\/g=2\/g=3\/g=4\/g=5:=by lia
    rcases e with rfl | rfl | rfl | rfl | rfl <;> decide
   refine⟨aZ M,⟨by decide,by decide⟩,by lia,lnR rfl,λU2 P=>?_⟩;have w0:=NZ (z/7) (show(2:Int)^g.toNat-1≠0 by lia);have w1:=NQ (z/7) (show(0:Int)<2^g.toNat-1 by lia);have a0:0<=1+z/7 % (2^g.toNat-1)/\1+z/7 % (2^g.toNat-1)<2^g.toNat:=by lia
   generalize 1+z/7 % (2^g.toNat-1)=u7 at*;obtain⟨H6,z9,s6,eU2⟩:∃ z,upd H5 U2 (.lst [V.int (2^g.toNat-1),V.int u7])=z/\Same H5 z/\z U2=↥(([2^g.toNat-1,u7]:∅).map V.int):=aW _ P;rw[z9];refine⟨⟨by decide,by decide⟩,by decide,?_⟩;refine ixI eU2 (NZ _ #[1]) (by have:=NQ (z/5) (show(0:Int)<2 by decide);show _ < (2:Int);lia) ?_
   have mb:0<=([2^g.toNat-1,u7]:∅).getD (z/5%2).toNat 0/\([2^g.toNat-1,u7]:∅).getD (z/5%2).toNat 0<2^g.toNat:=by
    have e:(z/5%2).toNat=0\/(z/5%2).toNat=1:=by lia
    rcases e with e | e <;> rw[e]
    . exact⟨by show(0:Int)<=2^g.toNat-1;lia,by show(2:Int)^g.toNat-1<2^g.toNat;lia⟩
    . exact a0
   generalize ([2^g.toNat-1,u7]:∅).getD (z/5%2).toNat 0=mv at*;refine⟨lnR rfl,λU3 O=>?_⟩;obtain⟨H7,z9,s7,eU3⟩:∃ z,upd H6 U3 (.lst [V.int 1,V.int 2,V.int 4,V.int 8,V.int 16])=z/\Same H6 z/\z U3=↥(([1,2,4,8,16]:∅).map V.int):=aW _ O;rw[z9];have j:=s6.trans s7;refine ixI (j _ _ s) #[4] #[4] ?_;rw[N1,fi];exists ixI eU3 #[4] (by show _ < (5:Int);lia) ?_;rw[GB Y #[4]];unfold cOr;rw[cX];have ob:=JP g0 g5 mb.1 mb.2 Y x1;generalize Builtin.bitOr mv (1*2^(x-1).toNat)=m9v at*;rw[cy (j _ _ M)];refine⟨by rw[MZ];exact aC #[4],?_⟩;have G:(upd H7 A (.lst (ms.map V.int++[V.int m9v]))) f=↥((fl++[x]).map V.int):=by rw[aj J];exact j _ _ s
   have ad:(upd H7 A (.lst (ms.map V.int++[V.int m9v]))) A=↥((ms++[m9v]).map V.int):=by rw[ah];simp
   have L:(upd H7 A (.lst (ms.map V.int++[V.int m9v]))) C=↥(cl.map V.int):=by rw[aj t.symm];exact j _ _ R
   have s8:Same H0 (upd H7 A (.lst (ms.map V.int++[V.int m9v]))):=(s5.trans j).own hA;generalize upd H7 A (.lst (ms.map V.int++[V.int m9v]))=H8 at*;exists⟨aZ L,?_⟩;refine ixI G #[4] #[4] ?_;rw[N1,fi];refine⟨lnR rfl,λU4 ac=>?_⟩;obtain⟨H9,z9,s9,eU4⟩:∃ z,upd H8 U4 (.lst [V.int 0,V.int x,V.int 0])=z/\Same H8 z/\z U4=↥(([0,x,0]:∅).map V.int):=aW _ ac;rw[z9];refine⟨⟨by decide,by decide⟩,by decide,?_⟩;refine ixI eU4 (NZ _ #[1]) (by have:=NQ (z/10) (show(0:Int)<3 by decide);show _ < (3:Int);lia) ?_
   have cb:([0,x,0]:∅).getD (z/10%3).toNat 0=0\/([0,x,0]:∅).getD (z/10%3).toNat 0=x:=by
    have e:(z/10%3).toNat=0\/(z/10%3).toNat=1\/(z/10%3).toNat=2:=by lia
    rcases e with e | e | e <;> rw[e]
    . exact .inl rfl
    . exact .inr rfl
    . exact .inl rfl
   generalize ([0,x,0]:∅).getD (z/10%3).toNat 0=cv at*;rw[cy (s9 _ _ L)];refine⟨by rw[MZ];exact aC #[4],_,_,fl++[x],ms++[m9v],cl++[cv],rfl,(s8.trans s9).own hC,by rw[aj I];exact s9 _ _ G,by rw[aj t];exact s9 _ _ ad,by rw[ah];simp,ae,by simp[mn],by simp[cn],aa,λu b=>?_,λu b=>?_,λk p=>?_⟩
   . rcases Ny.mp b with b | b
     . exact mx u b
     . rw[Nd.mp b];exact ob.1
   . rcases Ny.mp b with b | b
     . exact cx u b
     . rw[Nd.mp b];rcases cb with e | e <;> rw[e] <;> lia
   . have gf:=l9 (xs:=fl) (v:=x) (k:=k) (by simp;lia);have gm:=l9 (xs:=ms) (v:=m9v) (k:=k) (by simp;lia);have gc:=l9 (xs:=cl) (v:=cv) (k:=k) (by simp;lia);rcases gf with ⟨k1,e1⟩ | ⟨k1,e1⟩
     . have e2:=(gm.resolve_right λz=>by lia).2;have Z:=(gc.resolve_right λz=>by lia).2;rw[e1,e2,Z];exact N k #[4]
     . have e2:=(gm.resolve_left λz=>by lia).2;have Z:=(gc.resolve_left λz=>by lia).2;rw[e1,e2,Z];exact⟨ob.2,cb⟩
 . rintro σ S ⟨ab,r,fl,ms,cl,rfl,D,l,o,n,X,mn,cn,fx,mx,cx,N⟩;subst hW;exact Ff (D.seq E) hn ⟨F,m1,m9,g5,X,fx,⟨mn,mx⟩,λk p=>(N k #[4]).1,⟨cn,cx⟩,λk p=>(N k #[4]).2⟩ p ok (T0.same D) l o n q
end
def fl53:List (Int × Int):=[(1,2),(2,2),(1,5),(2,3),(3,3),(2,4)]
theorem HA:∀ p∈fl53,1<=p.1/\p.1<=6/\1<=p.2/\p.2<=6/\1<=p.1*p.2/\p.1*p.2<=9:=by decide
variable{c:QZ}{d:Q0}{Q:VK}{ns:∅}
theorem Fh{y h w:Int}(t:SqL K H a (ns.map V.int))(E:ns.length<=63)(h0:1<=h)(h6:h<=6)(L:1<=w)(N:w<=6)(M:1<=h*w)(I:h*w<=9)(D:∀ k,k≠.Rule->c.ok k=true)(J:d.ok .Puzzle=true)(T:jf K H)(q:∀ H',Q (.bl true) H'):
  sw K c d (eD9 Q) [↑a,⇑y,⇑h,⇑w,none,none,none,none,none,none,none,none,none,none,none,none,none,none] H:=by
 unfold sw;generalize G:nI K c d=W at*;exists⟨⟨by decide,by decide⟩,by decide,?_⟩;have R:=NZ (y/6) (show(5:Int)≠0 by decide);have P:=NQ (y/6) (show(0:Int)<5 by decide);have x:1<=1+y/6%5:=by lia
 have u:1+y/6%5<=5:=by lia
 generalize 1+y/6%5=g at*;refine⟨aP #[1],λf v=>?_⟩;obtain⟨H1,z9,s1,ef⟩:∃ z,upd H f (.lst [])=z/\Same H z/\z f=↥(([]:∅).map V.int):=aW _ v;rw[z9];refine⟨aP #[1],λA l=>?_⟩;have m:Same H1 (upd H1 A (.lst [])):=(M5 H1).laid l;have p:(upd H1 A (.lst [])) A=↥(([]:∅).map V.int):=ah;have s:f≠A:=λe=>by rw[← e,ef]at l;cases l
 generalize upd H1 A (.lst [])=H2 at*;refine⟨aP #[1],λC j=>?_⟩;have o:Same H2 (upd H2 C (.lst [])):=(M5 H2).laid j;have B:(upd H2 C (.lst [])) C=↥(([]:∅).map V.int):=ah;have r:f≠C:=λe=>by have:=m _ _ ef;rw[e,j]at this;cases this
 have n:A≠C:=λe=>by rw[e,j]at p;cases p
 generalize upd H2 C (.lst [])=H3 at*;refine⟨lnR rfl,λU O=>?_⟩;obtain⟨H4,z9,s4,eU⟩:∃ z,upd H3 U (.lst [V.int 1,V.int 3,V.int 7,V.int 15,V.int 31])=z/\Same H3 z/\z U=↥(([1,3,7,15,31]:∅).map V.int):=aW _ O;rw[z9];refine ixI eU #[4] (by show _ < (5:Int);lia) ?_;rw[Hz x u];have i:=s1.trans m;have b:=(i.trans o).trans s4;have F:FlOk h w g:=⟨h0,h6,L,N,by lia,by lia,by lia⟩;symm;subst G;exact Fg (b.seq t) E F M I u D J (T.same b) (((m.trans o).trans s4) _ _ ef) ((o.trans s4) _ _ p) (s4 _ _ B) s r n H b v (s1.free l) (i.free j) q t T
theorem Fi{n:Int}(o:SqL K H a (ns.map V.int))(r:ns.length<=63)(q:∀ k,k≠.Rule->c.ok k=true)(w:d.ok .Puzzle=true)(T:jf K H)(k:∀ H',Q (.bl true) H'):
  sy K c d (eD9 Q) [↑a,⇑n,none,none,none,none,none,none,none,none,none,none,none,none,none,none,none,none] H:=by
 unfold sy;rw[aG,bC,eI,c6];refine AN fl53 H _ λas H1 s1 p u=>?_;have s:as.length=6:=p;refine⟨by rw[MZ];exact aP #[4],λU y=>?_⟩;obtain⟨A,m,f,t⟩:=aW (.lst (as.map V.ref)) y;rw[m];exists⟨by decide,?_⟩;have z:=NZ n (show(6:Int)≠0 by decide);have B:=NQ n (show(0:Int)<6 by decide);have x:n%6=(((n%6).toNat:Nat):Int):=by lia
 have h:(n%6).toNat<fl53.length:=by show _<6;lia
 rw[x];generalize (n%6).toNat=j at*;have g:as[j]? =some (as[j]'#[4]):=M0 #[4];have i:fl53[j]? =some fl53[j]:=M0 h;have l:=u j _ _ g i;have b:=HA _ (NB h);generalize fl53[j]=pr at*;refine ixL t (v:=V.ref (as[j]'#[4])) (gr (by rw[M7,g];rfl)) ?_;refine Io (f _ _ l) rfl ?_;rw[FJ];symm;have e:=s1.trans f;exact Fh (e.seq o) r b.1 b.2.1 b.2.2.1 b.2.2.2.1 b.2.2.2.2.1 b.2.2.2.2.2 q w (T.same e) k
theorem Jg{vs:List V}{E:XK}(h:Fc K c d vs H Q E):A1 K c d (eD9 Q) (start ["_law_script","_law_cell","_law_high","_law_wide","_law_signs","_law_filling","_law_masks","_law_clues","_law_whole","_law_k","_law_more","_law_rows","_law_puzzle","_law_order_here","_law_kinds","_law_left","_law_settled","_law_one"] vs) H:=by
 obtain⟨a,ns,rfl,e,b,g,f,T,k⟩:=h;exists A1;refine⟨a,ns,0,rfl,e,b,by decide,by decide,?_⟩;exists⟨.inr ⟨by decide,by decide⟩,by decide,?_⟩;generalize AL ns 0*16807%65537=n at*;exact Fi e b g f (.inl T) k
section
variable{X:Cx}{e:Expr}{es rs:List Expr}{te:TE}{t:TA}
def kL{k}{p:Pos}(a:PE X (.Tuple rs k p) te)(b:PA X es t):PA X (.Tuple rs k p::es) (tCons te t):=ab a b
def c9{c:Const}{k}{p:Pos}(a:PE X (.Constant c k p) te)(b:PA X es t):PA X (.Constant c k p::es) (tCons te t):=ab a b
end
local macro_rules | `(tactic| walk_at "l")=>`(tactic| (intro vs H Q E h; (repeat obtain ⟨_,h⟩:=h); subst_vars; rfl))
local macro_rules | `(tactic| ac_rfl)=>`(tactic| exact ⟨rfl,rfl,rfl,by decide+kernel,rfl,by decide+kernel,by decide+kernel⟩)
def top(i:Nat):Stmt:=PySem.Challenge.pw_cluemaker_k53_whole_thinking_keeps_answe.main.body.getD i (.Pass ⟨0,0,0,0⟩)
def mtop(i j:Nat):Stmt:=match top i with
 | .ClassDef _ _ _ a _ _ _ _ _ _ _=>a.getD j (.Pass ⟨0,0,0,0⟩)
 | s=>s
abbrev ma Z:=Ca9 Z 1 "is_whole" ["value"] (iy Z.K)
abbrev dZ Z:=Ca9 Z 1 "many_cells" ["floor"] (cP Z.K)
abbrev sA Z:=Ca9 Z 1 "spot_of" ["floor","cell"] (lY Z.K)
abbrev uc Z:=Ca9 Z 1 "square_at" ["floor","corner"] (mC Z.K)
abbrev A2 Z:=Ca9 Z 1 "bit_of" ["sign"] (rS Z.K)
abbrev kM Z:=Ca9 Z 1 "stands" ["mask","sign"] (gQ Z.K)
abbrev lm Z:=Ca9 Z 1 "clashes" ["masks"] (g9 Z.K)
abbrev gh Z:=Ca9 Z 1 "masks_at" ["masks","cells"] (cV Z.K)
abbrev pc Z:=Ca9 Z 1 "clue_strikes" ["clues","cell","sign","more"] (jE Z.K)
abbrev kc Z:=Ca9 Z 1 "are_told_in_order" ["cells","more"] (fZ Z.K)
abbrev oP Z:=Ca9 Z 1 "with_sign" ["filling","cell","sign"] (jP Z.K)
abbrev qL Z:=Ca9 Z 1 "place_mores" ["floor","sign"] (kF Z.K)
abbrev ud Z:=Ca9 Z 1 "is_within" ["some","cells"] (mN Z.K)
abbrev ue Z:=Ca9 Z 1 "number_in" ["word"] (mH Z.K)
abbrev ph Z:=Ca9 Z 1 "_law_cell_at" ["_law_script","_law_k"] (fH Z.K)
abbrev mS Z:=Ca9 Z 1 "_law_order" ["_law_number","_law_many"] (gK Z.K)
abbrev qM Z:=Ca9 Z 1 "_law_beside" ["_law_high","_law_wide","_law_cell"] (ga Z.K)
abbrev jh Z:=Ca9 Z 2 "is_from_one_to" ["value","most"] (cO Z.K)
abbrev kN Z:=Ca9 Z 2 "beside" ["floor","cell"] (fJ Z.K)
abbrev uf Z:=Ca9 Z 2 "is_corner" ["floor","cell"] (my Z.K)
abbrev sB Z:=Ca9 Z 2 "without" ["mask","sign"] (l0 Z.K)
abbrev dM Z:=Ca9 Z 2 "signs_in" ["mask"] (bT Z.K)
abbrev yy Z:=Ca9 Z 2 "is_cell" ["floor","value"] (qm Z.K)
abbrev yz Z c:=Ca9 Z 2 "goes_by" ["kind","rule"] (qr Z.K c)
abbrev d0 Z c:=Ca9 Z 2 "others" ["rule","cell"] (b4 Z.K c)
abbrev md Z:=Ca9 Z 2 "many_may" ["some","sign"] (gw Z.K)
abbrev wo Z c:=Ca9 Z 2 "ahead_of" ["rule","cell"] (oE Z.K c)
abbrev A3 Z c:=Ca9 Z 2 "behind" ["rule","cell"] (rX Z.K c)
abbrev mT Z:=Ca9 Z 2 "with_each_sign" ["fillings","cell","signs"] (ik Z.K)
abbrev pi Z c d:=Ca9 Z 2 "cells_to_try" ["puzzle","kind","number"] (j3 Z.K c d)
abbrev j7 Z:=Ca9 Z 2 "number_within" ["word","least","most"] (fX Z.K)
abbrev mU Z:=Ca9 Z 2 "is_filling" ["floor","filling","least"] (iH Z.K)
abbrev qN Z:=Ca9 Z 2 "_law_region" ["_law_high","_law_wide","_law_word","_law_sign","_law_filling"] (jd Z.K)
abbrev wq Z:=Ca9 Z 3 "floor_of" ["high","wide","signs"] (ox Z.K)
abbrev nJ Z:=Ca9 Z 3 "squares" ["floor"] (jw Z.K)
abbrev nK Z:=Ca9 Z 3 "reached" ["floor","cells","start"] (f7 Z.K)
abbrev gi Z:=Ca9 Z 3 "has_only" ["mask","sign"] (dP Z.K)
abbrev uW Z:=Ca9 Z 3 "struck" ["masks","cell","sign"] (nv Z.K)
abbrev Fj Z:=Ca9 Z 3 "ways" ["masks"] (xB Z.K)
abbrev yA Z:=Ca9 Z 3 "is_sign" ["floor","value"] (qp Z.K)
abbrev nN Z:=Ca9 Z 3 "is_no_greater" ["sign","mask"] (iX Z.K)
abbrev sC Z:=Ca9 Z 3 "is_no_less" ["sign","mask"] (lD Z.K)
abbrev pj Z c:=Ca9 Z 3 "pair_strikes" ["rule","masks","cell","sign","more"] (jI Z.K c)
abbrev qO Z c:=Ca9 Z 3 "sum_strikes" ["rule","masks","cell","sign","more"] (kA Z.K c)
abbrev A4 Z:=Ca9 Z 3 "around" ["floor","middle","cell"] (sf Z.K)
abbrev sD Z:=Ca9 Z 3 "turn_mores" ["floor","cell"] (lJ Z.K)
abbrev sE Z c:=Ca9 Z 3 "pair_mores" ["rule","masks","cell"] (lL Z.K c)
abbrev pk Z c d:=Ca9 Z 3 "rule_numbers" ["puzzle","kind"] (jZ Z.K c d)
abbrev pq Z:=Ca9 Z 3 "first_within" ["words","least","most"] (e9 Z.K)
abbrev sF Z:=Ca9 Z 3 "told_cells" ["floor","words"] (ly Z.K)
abbrev yB Z c:=Ca9 Z 3 "rule_by" ["floor","words","cells","amount","mark"] (qj Z.K c)
abbrev nO Z:=Ca9 Z 3 "checked_clues" ["floor","clues"] (iR Z.K)
abbrev wr Z:=Ca9 Z 3 "_law_row" ["_law_high","_law_wide","_law_signs","_law_filling","_law_cell"] (lN Z.K)
abbrev kZ Z:=Ca9 Z 4 "many_only" ["some","sign"] (fG Z.K)
abbrev pA Z c:=Ca9 Z 4 "only_strikes" ["rule","masks","cell","sign","more"] (jG Z.K c)
abbrev nQ Z c:=Ca9 Z 4 "place_strikes" ["floor","rule","masks","cell","sign","more"] (iT Z.K c)
abbrev pB Z c:=Ca9 Z 4 "step_strikes" ["rule","masks","cell","sign","more"] (jK Z.K c)
abbrev mV Z:=Ca9 Z 4 "rest_of_square" ["floor","corner","cell"] (hX Z.K)
abbrev iE Z:=Ca9 Z 4 "is_another_with_only" ["floor","masks","cell","other","mark"] (eJ Z.K)
abbrev sG Z c:=Ca9 Z 4 "only_mores" ["rule","masks","cell","sign"] (lH Z.K c)
abbrev pC Z:=Ca9 Z 4 "square_mores" ["floor","cell"] (jU Z.K)
abbrev qP Z c:=Ca9 Z 4 "reach_mores" ["floor","rule","masks","cell","sign"] (kH Z.K c)
abbrev wt Z:=Ca9 Z 4 "cells_of" ["floor","name","words"] (ot Z.K)
abbrev nR Z:=Ca9 Z 4 "checked_floor" ["floor"] (iP Z.K)
abbrev lR Z c d:=Ca9 Z 5 "strikes_by_line" ["puzzle","masks","thought"] (gD Z.K c d)
abbrev nS Z c:=Ca9 Z 5 "count_strikes" ["rule","masks","cell","sign","more"] (iV Z.K c)
abbrev mW Z c:=Ca9 Z 5 "square_strikes" ["floor","rule","masks","cell","sign","more"] (ic Z.K c)
abbrev nT Z c:=Ca9 Z 5 "reach_strikes" ["floor","rule","masks","cell","sign","more"] (iZ Z.K c)
abbrev pD Z c:=Ca9 Z 5 "turn_strikes" ["floor","rule","masks","cell","sign","more"] (jS Z.K c)
abbrev pE Z c d:=Ca9 Z 5 "mores_to_try" ["puzzle","masks","kind","number","cell","sign"] (jX Z.K c d)
abbrev ug Z c:=Ca9 Z 5 "read_rule" ["floor","line"] (mJ Z.K c)
abbrev pF Z c:=Ca9 Z 6 "ways_strikes" ["rule","masks","cell","sign","more"] (jQ Z.K c)
abbrev ke Z c d:=Ca9 Z 6 "strikes_by_region" ["puzzle","masks","thought"] (fj Z.K c d)
abbrev sH Z c:=Ca9 Z 6 "read_rules" ["floor","lines"] (lA Z.K c)
abbrev kf Z c d:=Ca9 Z 7 "strikes_by_number" ["puzzle","masks","thought"] (fm Z.K c d)
abbrev yC Z c d:=Ca9 Z 8 "strikes" ["puzzle","masks","thought"] (oJ Z.K c d)
abbrev wu Z c d:=Ca9 Z 9 "first_at" ["puzzle","masks","kind","number","cell","sign"] (oM Z.K c d)
abbrev nU Z c d:=Ca9 Z 10 "found_by_rule" ["puzzle","masks","kind","number"] (i8 Z.K c d)
abbrev qQ Z c d:=Ca9 Z 11 "first_found" ["puzzle","masks","kinds"] (kJ Z.K c d)
abbrev Cv Z c d:=Ca9 Z 12 "think" ["puzzle","masks","kinds"] (uS Z.K c d)
abbrev Cw(Z:Z5)(c:QZ)(d:Q0):Prop:=MCal Z.P Z.w Z.K Z.mg Z.base d d.ok 1 "clues" ["self"] (uG Z.K c d)
abbrev uh(Z:Z5)(c:QZ)(d:Q0):Prop:=MCal Z.P Z.w Z.K Z.mg Z.base d d.ok 1 "has_clues" ["self","filling"] (mP Z.K c d)
abbrev mX(Z:Z5)(c:QZ):Prop:=MCal Z.P Z.w Z.K Z.mg Z.base c c.ok 3 "has_two_beside" ["self","cells","cell"] (hJ Z.K c)
abbrev xO(Z:Z5)(c:QZ):Prop:=MCal Z.P Z.w Z.K Z.mg Z.base c c.ok 5 "holds" ["self","filling"] (c7 Z.K c)
abbrev k9(Z:Z5)(c:QZ):Prop:=MCal Z.P Z.w Z.K Z.mg Z.base c c.ok 4 "is_joined" ["self","cells"] (jx Z.K c)
abbrev ji(Z:Z5)(c:QZ):Prop:=MCal Z.P Z.w Z.K Z.mg Z.base c c.ok 1 "marked" ["self","filling"] (jr Z.K c)
abbrev Cz(Z:Z5)(c:QZ)(d:Q0):Prop:=MCal Z.P Z.w Z.K Z.mg Z.base d d.ok 6 "meets" ["self","filling"] (uL Z.K c d)
abbrev Fk(Z:Z5)(c:QZ):Prop:=MCal Z.P Z.w Z.K Z.mg Z.base c c.ok 1 "name" ["self"] (xn Z.K c)
abbrev uX(Z:Z5)(c:QZ):Prop:=MCal Z.P Z.w Z.K Z.mg Z.base c c.ok 1 "number" ["self"] (jp Z.K c)
abbrev pG(Z:Z5)(c:QZ)(d:Q0):Prop:=MCal Z.P Z.w Z.K Z.mg Z.base d d.ok 1 "place" ["self"] (kx Z.K c d)
abbrev kO(Z:Z5)(c:QZ)(d:Q0):Prop:=MCal Z.P Z.w Z.K Z.mg Z.base d d.ok 1 "rules" ["self"] (ff Z.K c d)
abbrev pH(Z:Z5)(c:QZ):Prop:=MCal Z.P Z.w Z.K Z.mg Z.base c c.ok 1 "sign" ["self"] (jq Z.K c)
abbrev j8(Z:Z5)(c:QZ):Prop:=MCal Z.P Z.w Z.K Z.mg Z.base c c.ok 1 "signs_at" ["self","filling"] (gu Z.K c)
abbrev kP(Z:Z5)(c:QZ):Prop:=MCal Z.P Z.w Z.K Z.mg Z.base c c.ok 1 "spots" ["self"] (gO Z.K c)
abbrev lS(Z:Z5)(x:Str)(C:Addr)(c:QZ)(d:Q0):Prop:=KCal Z.P Z.w Z.K Z.mg Z.base 7 x C ["self","floor","lines","clues"] (cY Z.K c d)
abbrev aM(Z:Z5)(x:Str)(C:Addr)(c:QZ):Prop:=KCal Z.P Z.w Z.K Z.mg Z.base 1 x C ["self","floor","words","cells","amount","mark"] (aR Z.K c)
section
variable{Z:Z5}(Bz:Bt3 Z)
include Bz
set_option maxHeartbeats 4000000
abbrev wv:=top 10
theorem BR(D:De Z.K "is_whole" wv):ma Z:=okc Bz D Bv bd1 #[";eiRw~Ia~J~Kb0b~L.v~M'Wa'z'AacS'Bw~Ia~J~Kb0b~L.v~M'Xa'Y'Zac"]
abbrev sI:=top 13
theorem y8(D:De Z.K "many_cells" sI):dZ Z:=okc Bz D yP bd1 #[";eiv~tmd0hmd0h"]
abbrev yD:=top 14
theorem Dt(D:De Z.K "spot_of" yD):sA Z:=okc Bz D CQ bd2 #[";gs#2 nmd0hei~Nbv'C12bv~u12c"]
abbrev ui:=top 17
theorem A5(D:De Z.K "square_at" ui):uc Z:=okc Bz D Ac bd2 #[";gs#2 nvK1md0heiAb1bvK1hb2bvK2hc"]
abbrev A6:=top 21
theorem Fm(D:De Z.K "bit_of" A6):A2 Z:=okc Bz D EC bd1 #[";gs#1 nhgTOa~va]bvW0hct.i#2 naraes#1 nv~t1hei1"]
abbrev A7:=top 22
theorem Fn(D:De Z.K "stands" A7):kM Z:=okc Bz D EB bd2 #[";eiRx~dh1klRx~d1'D'E'F'G'H0klSxudv~uv'*0vW1hhhkl"]
abbrev yE:=top 27
theorem Du(D:De Z.K "clashes" yE):lm Z:=okc Bz D C6 bd1 #[";eix^dh0`0",(by with_unfolding_all rfl)]
abbrev ww:=top 36
theorem BS(D:De Z.K "masks_at" ww):gh Z:=okc Bz D BA bd2 #[";eiB.x&--0 `0za%aaaay1$t.i#1 @`0ara$L$md21",[".0","cell","masks"]]
abbrev pI:=top 41
theorem wx(D:De Z.K "clue_strikes" pI):pc Z:=okc Bz D vN bd4 #[";eiRxud3AcklRxIdmd01hklSxIdmd012kl"]
abbrev kg:=top 49
theorem qD(D:De Z.K "are_told_in_order" kg):kc Z:=okc Bz D qv bd2 #[";gpUXoIdwFaCDb1chklXo~edmd1h0`0/o~edmd1h0`0eiPqeixVMN~w~x~yd0bmd1hcMN~w~x~yd0bmd1hckl",(by with_unfolding_all rfl)]
abbrev uj:=top 57
theorem A8(D:De Z.K "with_sign" uj):oP Z:=okc Bz D Aq bd3 #[";eiB.x&---12 `0za%aaaa'da'eb0c$~Ua~kt.i#1 @`0ara~kt.i#2 @`0ara~V$L$~Ooud13kl42",[".0","place","other","cell","sign"]]
abbrev qR:=top 73
theorem xP(D:De Z.K "place_mores" qR):qL Z:=okc Bz D xD bd2 #[";eiB.x&--1 `0za%aaaa'Ia]bhbvKmd0hhc$t.i#1 @`0ara$JoId12kl$Ab1c",[".0","other","sign"]]
abbrev uk:=top 87
theorem A9(D:De Z.K "is_within" uk):ud Z:=okc Bz D Ap bd2 #[";eiw~faa~g~hbB.x&--1 `0za%aaaay0$t.i#1 @`0ara$L$x^d12`1c",[".0","cell","cells"],(by with_unfolding_all rfl)]
abbrev nV:=mtop 88 0
theorem uY{c:QZ}(JW:FldK Z.K c "amount")(JX:FldK Z.K c "cells")(J3:FldK Z.K c "floor")(Kb:FldK Z.K c "mark")(Ku:FldK Z.K c "words"){f:Addr}(D:Me Z.K "__init__" "Rule.__init__" nV f):Mo Z 1 f ["self","floor","words","cells","amount","mark"] (aR Z.K c):=okm D uB bd6 #[";g~l01~Wg~l0~i'Ja'f'gb2c'Kg~l0~i'Ja'f'gb3c~Xg~l04~Pe~l05'h"]
abbrev ul:=mtop 88 1
theorem Ba{c:QZ}(Ku:FldK Z.K c "words"){f:Addr}(D:Me Z.K "name" "Rule.name" ul f):Mo Z 1 f ["self"] (rN Z.K c):=okm D Ad bd1 #[";eimdQ0'Kh"]
abbrev sJ:=mtop 88 2
theorem y9{c:QZ}(JX:FldK Z.K c "cells"){f:Addr}(D:Me Z.K "spots" "Rule.spots" sJ f):Mo Z 1 f ["self"] (qH Z.K c):=okm D yQ bd1 #[";ei~i~qa~a~mbQ0~Xc"]
abbrev qS:=mtop 88 3
theorem xQ{c:QZ}(JW:FldK Z.K c "amount"){f:Addr}(D:Me Z.K "number" "Rule.number" qS f):Mo Z 1 f ["self"] (oZ Z.K c):=okm D xo bd1 #[";eiQ0~P"]
abbrev um:=mtop 88 4
theorem Bb{c:QZ}(Kb:FldK Z.K c "mark"){f:Addr}(D:Me Z.K "sign" "Rule.sign" um f):Mo Z 1 f ["self"] (rO Z.K c):=okm D Ae bd1 #[";eiQ0'h"]
abbrev nX:=mtop 88 8
theorem uZ{c:QZ}(JX:FldK Z.K c "cells"){f:Addr}(D:Me Z.K "signs_at" "Rule.signs_at" nX f):Mo Z 1 f ["self","filling"] (mG Z.K c):=okm D uC bd2 #[";eiB.x&--1 `0za%aaaa'iQ0~X$t.i#1 @`0ara$L$md21",[".0","cell","filling"]]
abbrev qT:=mtop 88 9
theorem kQ{c:QZ}(JX:FldK Z.K c "cells")(Kb:FldK Z.K c "mark"){f:Addr}(D:Me Z.K "marked" "Rule.marked" qT f):Mo Z 1 f ["self","filling"] (o6 Z.K c):=okm D xy bd2 #[";eiB.x&--10 `0za%aaaa'iQ0~X$t.i#1 @`0ara$Joudmd21Q3'hkl$1",[".0","cell","filling","self"]]
abbrev uo:=top 104
theorem Bc{t_FIGURES:Tok}(LL:Z.mg "FIGURES"=some (.str (tx s!"0123456789") t_FIGURES)){t_MOST_FIGURES:Tok}(KN:Z.mg "MOST_FIGURES"=some (.int 9 t_MOST_FIGURES))(D:De Z.K "number_in" uo):ue Z:=okc Bz D Af bd1 #[";gpUXoud0EklXo:wFaCDb0c`0kl/U~roudmd0hEkl~zoId0Eklei~QqgpYGw~faa~g~hbB.x&-- `1za%aaaa'+0$t.i#1 @`1ara$L$x^d1`2`3cei~Qqei~i'-a'z'Ab0c",(dQ rfl KN ⟨t_MOST_FIGURES,rfl⟩),[".0","figure"],(dQ rfl LL ⟨t_FIGURES,rfl⟩),(by with_unfolding_all rfl)]
abbrev pJ:=mtop 117 1
theorem wy{c:QZ}{d:Q0}(J7:FldK Z.K d "floor"){f:Addr}(D:Me Z.K "place" "Puzzle.place" pJ f):Mo Z 1 f ["self"] (nn Z.K c d):=okm D vK bd1 #[";eiQ0~R"]
abbrev pK:=mtop 117 3
theorem wz{c:QZ}{d:Q0}(Kf:FldK Z.K d "given"){f:Addr}(D:Me Z.K "clues" "Puzzle.clues" pK f):Mo Z 1 f ["self"] (no Z.K c d):=okm D vL bd1 #[";ei~i~qa~a~mbQ0'jc"]
abbrev pM:=mtop 117 4
theorem wA{c:QZ}{d:Q0}(Kj:FldK Z.K d "laws"){f:Addr}(D:Me Z.K "rules" "Puzzle.rules" pM f):Mo Z 1 f ["self"] (np Z.K c d):=okm D vM bd1 #[";ei~i~qa~a~mbQ0'kc"]
abbrev lq:=mtop 117 5
theorem rj{c:QZ}{d:Q0}(Kf:FldK Z.K d "given"){f:Addr}(D:Me Z.K "has_clues" "Puzzle.has_clues" lq f):Mo Z 1 f ["self","filling"] (kb Z.K c d):=okm D rd bd2 #[";eiw~faa~g~hbB.x&--- `0za%aaaa'/a':bQ0'jb1c$~Ua~kt.i#1 @`0ara~kt.i#2 @`0ara~V$L$~Axud1hklSxud12klc",[".0","clue","sign"]]
abbrev pN:=top 119
theorem wB(D:De Z.K "_law_cell_at" pN):ph Z:=okc Bz D AM bd2 #[";gpoV1w';aCDb0cklei'?'[01`0qeih",(λ_ _=>rfl)]
abbrev sK:=top 120
theorem za(D:De Z.K "_law_order" sK):mS Z:=okc Bz D wn bd2 #[";gs#2 n'laaa~a]b1cgs#3 nAcgTOa~va]b1ct.i#4 naraeZMN;?[3bMN']'^{a2bv~uv'C0vKv~th4hwFaCDb2cccei3"]
abbrev qU:=top 121
theorem xR(D:De Z.K "_law_beside" qU):qM Z:=okc Bz D uU bd3 #[";gs#3 nAcgpo:v~u21hkleZMN;?[3bvW2hcqgpoVv~u21vW1hkleZMN;?[3bvK2hcqgpo~Y21kleZMN;?[3bvW21cqgpoVvK21v~t01kleZMN;?[3bvK21cqei3"]
abbrev mY:=top 11
theorem tO(Kg:ma Z)(D:De Z.K "is_from_one_to" mY):jh Z:=okc Bz D tF bd2 #[";eiRj'mfb0cRx~dh0klSx~d01kl"]
abbrev Be:=top 15
theorem Fo(KC:sA Z)(D:De Z.K "beside" Be):kN Z:=okc Bz D Ep bd2 #[";gs#2 nmd0hgs#3 nmd0hgs#4 nj'Lfb0b1cgs#5 nAcgpo:md4hhkleZMN;?[5bvW13cqgpo:md4hhkleZMN;?[5bvW1hcqgpoVmd4hvW3hkleZMN;?[5bvK1hcqgpoVmd4hvW2hkleZMN;?[5bvK13cqei5"]
abbrev uq:=top 16
theorem Bf(KC:sA Z)(D:De Z.K "is_corner" uq):uf Z:=okc Bz D Ab bd2 #[";gs#2 nj'Lfb0b1ceiRxVmd2hvWmd0hhklSxVmd2hvWmd0hhkl"]
abbrev yF:=top 23
theorem Dv(LX:A2 Z)(J5:kM Z)(D:De Z.K "without" yF):sB Z:=okc Bz D CY bd2 #[";ei~OGj~Sfb0b1cvW0j{bfb1c0"]
abbrev wC:=top 25
theorem BT(J5:kM Z)(D:De Z.K "signs_in" wC):dM Z:=okc Bz D By bd1 #[";eiB.x&--0 `0za%aaaa'Ia]bhbvK'D'E'F'G'H0hc$t.i#1 @`0ara$JGj~Sfb2b1c$1",[".0","sign","mask"]]
abbrev yG:=top 32
theorem Dw(Kg:ma Z)(JT:dZ Z)(D:De Z.K "is_cell" yG):yy Z:=okc Bz D CZ bd2 #[";eiRj'mfb1cRx~dh1klSxV1j~Bfb0ckl"]
abbrev yH:=top 34
theorem Dx{c:QZ}(Mn:Fk Z c)(KF:GDict Z.w Z.K Z.mg "RULES_OF_KIND" gd_RULES_OF_KIND)(D:De Z.K "goes_by" yH):yz Z c:=okc Bz D C1 bd2 #[";ei~Axud0EklSx{cH{df!1{e{f0a`0`1",(λ_ _=>rfl),(by with_unfolding_all rfl)]
abbrev Bg:=top 35
theorem Fp{c:QZ}(J1:kP Z c)(D:De Z.K "others" Bg):d0 Z c:=okc Bz D ED bd2 #[";eiB.x&--1 `0za%aaaayH~Cf!0$t.i#1 @`0ara$JoId12kl$1",[".0","spot","cell"]]
abbrev wD:=top 38
theorem BU(J5:kM Z)(D:De Z.K "many_may" wD):md Z:=okc Bz D BB bd2 #[";eiwFaCDbB.x&--1 `0za%aaaay0$t.i#1 @`0ara$JGj~Sfb1b2c$1c",[".0","mask","sign"]]
abbrev wE:=top 44
theorem BV{c:QZ}(J1:kP Z c)(D:De Z.K "ahead_of" wE):wo Z c:=okc Bz D BC bd2 #[";gs#2 nH~Cf!0gs#3 nMN~w~x~yd2b1cei~Oo:3hkl~D~E2~nvW3h~n3Ac"]
abbrev Bh:=top 45
theorem Fq{c:QZ}(J1:kP Z c)(D:De Z.K "behind" Bh):A3 Z c:=okc Bz D EG bd2 #[";gs#2 nH~Cf!0gs#3 nMN~w~x~yd2b1cei~D~E2~nvK3h~nvK3h"]
abbrev mZ:=top 58
theorem tP(Kp:oP Z)(D:De Z.K "with_each_sign" mZ):mT Z:=okc Bz D tL bd3 #[";gs#3 nAcgTOay0t.i#4 na-aeZMN'n'o'p3bB.x&--14 `0za%aaaay2$t.i#1 @`0ara$L$j'Mfb3b2b1ccei3",[".0","sign","cell","filling"]]
abbrev pO:=top 81
theorem wF{c:QZ}{d:Q0}(JT:dZ Z)(Ki:pG Z c d)(JY:kO Z c d)(J1:kP Z c)(D:De Z.K "cells_to_try" pO):pi Z c d:=okc Bz D we bd3 #[";gpoud1Eklei'laaa~a]bj~BfbH~Zf!0ccqeiw~*a~+~-bH~Cf!mdH~of!02c"]
abbrev pP:=mtop 89 0
theorem wG{c:QZ}(J4:j8 Z c){f:Addr}(D:Me Z.K "holds" "Unlike.holds" pP f):Mo Z 2 f ["self","filling"] (nk Z.K c):=okm D vI bd2 #[";gs#2 n*~/f!0b1ceixud'qaaaC'r2wFaCDb2ckl"]
abbrev ur:=mtop 90 1
theorem Bi{c:QZ}(JW:FldK Z.K c "amount")(J4:j8 Z c){f:Addr}(D:Me Z.K "holds" "Sum.holds" ur f):Mo Z 2 f ["self","filling"] (r8 Z.K c):=okm D Ao bd2 #[";eixudw'saa't'ub*~/f!0b1ccQ0~Pkl"]
abbrev pQ:=mtop 91 1
theorem wH{c:QZ}(J4:j8 Z c){f:Addr}(D:Me Z.K "holds" "Rising.holds" pQ f):Mo Z 2 f ["self","filling"] (nq Z.K c):=okm D vT bd2 #[";g~b.i#2 na-a*~/f!0b1ceiw~faa~g~hbB.x&--2 `0za%aaaa~va]bvWwFaCDb2chc$t.i#1 @`0ara$L$xVmd21md2vK1hklc",[".0","place","signs"]]
abbrev sL:=mtop 92 1
theorem zd{c:QZ}(JW:FldK Z.K c "amount")(J4:j8 Z c){f:Addr}(D:Me Z.K "holds" "Seen.holds" sL f):Mo Z 2 f ["self","filling"] (qJ Z.K c):=okm D yV bd2 #[";gs#2 nhgs#3 nhgTOay*~/f!0b1ct.i#4 naraepo:42klgs#2 n4es#3 nvK3hqeixud3Q0~Pkl"]
abbrev qV:=mtop 93 0
theorem xS{c:QZ}(JW:FldK Z.K c "amount")(Kl:ji Z c){f:Addr}(D:Me Z.K "holds" "Count.holds" qV f):Mo Z 2 f ["self","filling"] (o7 Z.K c):=okm D xA bd2 #[";eixudwFaCDb*~:f!0b1ccQ0~Pkl"]
abbrev nY:=top 105
theorem u6(Lr:ue Z)(D:De Z.K "number_within" nY):j7 Z:=okc Bz D uD bd3 #[";gs#3 nj{gfb0cgpUXo{h3~QklXoV31kl/o:32kle+qei3"]
abbrev sM:=top 115
theorem ze(Kg:ma Z)(JT:dZ Z)(D:De Z.K "is_filling" sM):mU Z:=okc Bz D yT bd3 #[";gpUXYGw~Ia~J~Kb1b~L.v~M{ia~a~mac/oIdwFaCDb1cj~Bfb0ckleiPqeiw~faa~g~hbB.x&--02 `0za%aaaay1$t.i#1 @`0ara$L$Rj'mfb1cRx~d31klSx~d1md2hklc",[".0","sign","floor","least"]]
abbrev qW:=top 122
theorem xT(Kx:qM Z)(D:De Z.K "_law_region" qW):qN Z:=okc Bz D uV bd5 #[";g~b.i#6 na-aB.x&--43 `0za%aaaa~va]bwFaCDb4cc$t.i#1 @`0ara$Joudmd213kl$1gTOay6t.i#5 narags#7 nwFaCDbB.x&--6 `1za%aaaayj'Nfb0b1b5c$t.i#1 @`1ara$Jo^d12`2$1cgpU~roud2Ekl~zoId7hkleiPqgs#8 nAbvK5hbvK51bvKvK51hcepU~roud2Ekl~roVv~u51vW1hkl~zoudwFaCDbB.x&--6 `3za%aaaay8$t.i#1 @`3ara$Jo^d12`2$1chkleiPqg~b.i#9 na-a~D~E6~;~nhgTOa~va]bwFaCDb6cct.i#10 naraeTOay~i~qa~a~mb9ct.i#5 naraeZMN'n'o'p9bB.x&--69 `4za%aaaayj'Nfb0b1b5c$t.i#1 @`4ara$JU~ro^d12`2~zo~ed13`2$1cei~Axud2EklSxud'qaaaC'r9wFaCDb6ckl",[".0","_law_cell","_law_filling","_law_sign"],[".0","_law_other","_law_cells"],(by with_unfolding_all rfl),[".0","_law_one","_law_cells"],[".0","_law_one","_law_cells","_law_reach"]]
abbrev wI:=top 12
theorem BW(JZ:jh Z){t_MOST_CELLS:Tok}(Le:Z.mg "MOST_CELLS"=some (.int 16 t_MOST_CELLS)){t_MOST_SIDE:Tok}(K4:Z.mg "MOST_SIDE"=some (.int 6 t_MOST_SIDE)){t_MOST_SIGNS:Tok}(Lf:Z.mg "MOST_SIGNS"=some (.int 6 t_MOST_SIGNS))(D:De Z.K "floor_of" wI):wq Z:=okc Bz D Bw bd3 #[";gpYGj~?fb0b`0ce+qgpYGj~?fb1b`0ce+qgpo:v~t01`1kle+qgpYGj~?fb2b`2ce+qei~Nb0b1b2c",(dQ rfl K4 ⟨t_MOST_SIDE,rfl⟩),(dQ rfl Le ⟨t_MOST_CELLS,rfl⟩),(dQ rfl Lf ⟨t_MOST_SIGNS,rfl⟩)]
abbrev yI:=top 18
theorem Dy(Ls:uf Z)(JT:dZ Z)(Lu:uc Z)(D:De Z.K "squares" yI):nJ Z:=okc Bz D CV bd1 #[";eiB.x&--0 `0za%aaaa~va]bj~Bfb0cc$t.i#1 @`0ara$JGj{jfb2b1c$j{kfb2b1c",[".0","cell","floor"]]
abbrev yJ:=top 19
theorem Dz(J0:kN Z)(D:De Z.K "reached" yJ):nK Z:=okc Bz D C7 bd3 #[";gpo~ed21`0eiAcqgs#3 nAb2cgs#4 nhg'OOoV4wFaCDb3cklgTOayj~Ffb0bmd34ct.i#5 naraepU~ro^d51`0~zo~ed53`0eZMN;?[3b5cqes#4 nvK4heiw~*a~+~-b3c",(by with_unfolding_all rfl)]
abbrev wJ:=top 24
theorem BX(KD:sB Z)(D:De Z.K "has_only" wJ):gi Z:=okc Bz D Bx bd2 #[";eixudj'Pfb0b1chkl"]
abbrev Bj:=top 26
theorem Fs(KD:sB Z)(D:De Z.K "struck" Bj):uW Z:=okc Bz D EV bd3 #[";eiB.x&---12 `0za%aaaa'da'eb0c$~Ua~kt.i#1 @`0ara~kt.i#2 @`0ara~V$L$~Ooud13klj'Pfb2b4c2",[".0","place","mask","cell","sign"]]
abbrev Ft:=top 28
theorem HB(JR:dM Z)(D:De Z.K "ways" Ft):Fj Z:=okc Bz D Hd bd1 #[";gs#1 nhgTOay0t.i#2 naraes#1 nv~t1wFaCDbj~jfb2ccei1"]
abbrev yK:=top 33
theorem DA(JZ:jh Z)(D:De Z.K "is_sign" yK):yA Z:=okc Bz D C0 bd2 #[";eij~?fb1bmd0hc"]
abbrev nZ:=top 46
theorem u8(JR:dM Z)(D:De Z.K "is_no_greater" nZ):nN Z:=okc Bz D uJ bd2 #[";eiw~faa~g~hbB.x&--0 `0za%aaaayj~jfb1c$t.i#1 @`0ara$L$x~d21klc",[".0","other","sign"]]
abbrev sN:=top 47
theorem zg(JR:dM Z)(D:De Z.K "is_no_less" sN):sC Z:=okc Bz D yU bd2 #[";eiw~faa~g~hbB.x&--0 `0za%aaaayj~jfb1c$t.i#1 @`0ara$L$x~Y21klc",[".0","other","sign"]]
abbrev pR:=top 50
theorem wK{c:QZ}(Kq:kc Z)(JS:d0 Z c)(JR:dM Z)(D:De Z.K "pair_strikes" pR):pj Z c:=okc Bz D vR bd5 #[";gpYGj{lfbj~cfb0b2cb4ceiPqgs#5 nj~jfbv{mmd1md4hmd1md4hceix~dwFaCDbB.x&--3 `0za%aaaay5$t.i#1 @`0ara$JoId12kl$1chkl",[".0","other","sign"]]
abbrev qX:=top 56
theorem xU{c:QZ}(J8:lm Z)(JU:gh Z)(JS:d0 Z c)(JR:dM Z)(Kt:uX Z c)(D:De Z.K "sum_strikes" qX):qO Z c:=okc Bz D xw bd5 #[";gpoId4AckleiPqgs#5 nj~sfb1bj~cfb0b2ccgpGj~[fb5ceiPqgs#6 nvK3w'saa't'ubB.x&-- `0za%aaaay5$t.i#1 @`0ara$L$mdj~jfb1chcgs#7 nvK3w'saa't'ubB.x&-- `0za%aaaay5$t.i#1 @`0ara$L$mdj~jfb1c{n{ohcei~Ax:6H~]f!0klSxV7H~]f!0kl",[".0","mask"]]
abbrev Bl:=top 66
theorem Fu(J0:kN Z)(D:De Z.K "around" Bl):A4 Z:=okc Bz D ET bd3 #[";eiB.x&--2 `0za%aaaayj~Ffb0b1c$t.i#1 @`0ara$JoId12kl$1",[".0","other","cell"]]
abbrev sO:=top 76
theorem zh(J0:kN Z)(D:De Z.K "turn_mores" sO):sD Z:=okc Bz D yY bd2 #[";eivKAbAccB.x&-- `0za%aaaayj~Ffb0b1c$t.i#1 @`0ara$L$Ab1c",[".0","other"]]
abbrev sP:=top 77
theorem zi{c:QZ}(JS:d0 Z c)(JR:dM Z)(J1:kP Z c)(D:De Z.K "pair_mores" sP):sE Z c:=okc Bz D yZ bd3 #[";g~b.i#3 na-aH~Cf!0g~^.k#4 naraa.x&--1 `0za%aaaayw~*a~+~-bj~cfb0b2cc$t.i#1 @`0ara$Jo~dwFaCDbj~jfbmd21cchkl$1gs#5 nAcgTOay4t.i#6 na-aeZMN'n'o'p5bB.x&--63 `1za%aaaay4$t.i#1 @`1ara$JoVMN~w~x~yd3b2cMN~w~x~yd3b1ckl$Ab2b1ccei5",[".0","other","masks"],[".0","second","first","spots"]]
abbrev pS:=top 80
theorem wL{c:QZ}{d:Q0}(LN:yz Z c)(JY:kO Z c d)(D:De Z.K "rule_numbers" pS):pk Z c d:=okc Bz D wd bd2 #[";gpoud1EkleiAbhcqeiB.x&---1 `0za%aaaa'da'ebH~of!0c$~Ua~kt.i#1 @`0ara~kt.i#2 @`0ara~V$JGj{pfb3b2c$1",[".0","number","rule","kind"]]
abbrev js:=mtop 96 1
theorem oQ{c:QZ}(J0:kN Z)(J3:FldK Z.K c "floor"){f:Addr}(D:Me Z.K "has_two_beside" "Ring.has_two_beside" js f):Mo Z 3 f ["self","cells","cell"] (iB Z.K c):=okm D oG bd3 #[";eixudwFaCDbB.x&--1 `0za%aaaayj~FfbQ0~Wb2c$t.i#1 @`0ara$Jo^d12`1$1chkl",[".0","other","cells"],(by with_unfolding_all rfl)]
abbrev pT:=top 106
theorem wM(Kc:j7 Z)(D:De Z.K "first_within" pT):pq Z:=okc Bz D vD bd3 #[";gpoud0Ackle+qeij'Qfbmd0hb1b2c"]
abbrev sQ:=top 107
theorem zj(JT:dZ Z)(Kc:j7 Z)(D:De Z.K "told_cells" sQ):sF Z:=okc Bz D yR bd2 #[";g~^.k#2 naraa.x&--0 `0za%aaaay1$t.i#1 @`0ara$L$j'Qfb1bhbvWj~Bfb2chcgpoud2Ackle+qgpoId'qaaaC'r2wFaCDb2ckle+qei2",[".0","word","floor"]]
abbrev yL:=top 109
theorem DB{c:QZ}(Mb:aM Z "Count" (c.A .Count) c)(LY:aM Z "Joined" (c.A .Joined) c)(LE:aM Z "NoSquare" (c.A .NoSquare) c)(Mp:aM Z "Ring" (c.A .Ring) c)(LZ:aM Z "Rising" (c.A .Rising) c)(Mq:aM Z "Seen" (c.A .Seen) c)(K_Sum:aM Z "Sum" (c.A .Sum) c)(L0:aM Z "Unlike" (c.A .Unlike) c)(D:De Z.K "rule_by" yL):yB Z c:=okc Bz D CW bd5 #[";gs#5 nmd1hgpoud5Eklei~p{qf!ab0b1b2b3b4cqgpoud5Eklei~p{rf!ab0b1b2b3b4cqgpoud5Eklei~p{sf!ab0b1b2b3b4cqgpoud5Eklei~p{tf!ab0b1b2b3b4cqgpoud5Eklei~p{uf!ab0b1b2b3b4cqgpoud5Eklei~p{vf!ab0b1b2b3b4cqgpoud5Eklei~p{wf!ab0b1b2b3b4cqgpoud5Eklei~p{xf!ab0b1b2b3b4cqe+"]
abbrev n6:=top 116
theorem u9(Kn:mU Z)(D:De Z.K "checked_clues" n6):nO Z:=okc Bz D uF bd2 #[";gpYGj'Rfb0b1bhce+qei~i~qa~a~mb1c"]
abbrev wN:=top 123
def BY(h:mS Z)(l:qN Z){c0 d:Addr}(f:PySem.W.tabIn Z.K "_law_row"=some (c0,d))(k:PySem.W.CodeHd Z.base c0 d)(g:Z.base.BuiltinsAt Z.mg d)(j:mainGlobals≠d)(D:De Z.K "_law_row" wN):wr Z:=okcT Bz D y7 bd5 f λe a b=>(ad (kset 5 b (aB (ab aI (ab aI (ab aI ac)))))
   (ad (kset 6 b (kix a (pv 5) (ar a9 (pv 4) af)))
   (ad (e6 (i:=7) b rfl (Or.inr rfl) (ar aJ af (ar a9 (ar cR (pv 4) af) (pv 2))))
   (ad (av (Pq (lc (ao (aw a) (ar a9 (ar cR (pv 4) af) af) af (ak _)) (km (aT (kcal l e (ab (pv 0) (ab (pv 1) (ab (pv 6) (ab (pv 7) (ab (pv 3) ac)))))))))) (ae (ai (ar aJ (ar aJ (pv 6) aI) (bX yj rfl Bz.str_ zU (ab (pv 7) ac))))) ap)
   (ad (kset 8 b (fL lX (kcal h e (ab (ar cR (pv 4) af) (ab (au aE rfl Bz.len_ aO (ab (pv 3) ac)) ac))) kn (fC (ar aJ af (ar a9 (ar cR (pv 4) af) (au aE rfl Bz.len_ aO (ab (pv 3) ac)))))))
   (ad (kset 6 b (kix a (aB (ab aI (ab aI (ab aI (ab aI (ab aI ac)))))) (ar a9 (ar cR (pv 4) af) af)))
   (ad (av (ao (gl a) (pv 6) (fA (ab aI (ab aI ac))) (by with_unfolding_all rfl)) (ad (kset 9 b (aB ac))
   (ad (bw NL rfl (ay (pv 8)) (aq (i:=10) b rfl (Or.inl rfl))
   (ae (av (ao (cW a) (kix a (pv 3) (pv 10)) (aF (ix:=[none,none,some 3]) [".0","_law_other","_law_filling"] (aA rfl (by decide+kernel) rfl rfl rfl) rfl (ay (pv 9)) (λcl s H c=>(aq (i:=1) (show([".0","_law_other","_law_filling"]:List Str).Nodup by decide+kernel) rfl (Or.inl rfl))) (λcl s H c=>a7) (λcl s H c=>(kix a (pv 2) (pv 1)))) (by with_unfolding_all rfl)) (ae (bv (bu No NE NF bc (pv 9) (ab (pv 10) ac)))) ap)))
   (ae (kset 8 b (pv 9))))) ap)
   (ad (av (ao (aw a) (pv 6) aI (ak _)) (ae (kset 8 b (BK (x:="_law_row") (i:=3) f rfl Bz.sorted_ e.depth rfl k g j (pv 8) rfl rfl rfl rfl rfl rfl (λ_ _ _ _ _ _=>rfl) rfl rfl rfl rfl rfl))) ap)
   (ad (e6 (i:=11) b rfl (Or.inr rfl) (aF (ix:=[none,none,some 3]) [".0","_law_spot","_law_filling"] (aA rfl (by decide+kernel) rfl rfl rfl) rfl (ay (pv 8)) (λcl s H c=>(aq (i:=1) (show([".0","_law_spot","_law_filling"]:List Str).Nodup by decide+kernel) rfl (Or.inl rfl))) (λcl s H c=>a7) (λcl s H c=>(kix a (pv 2) (pv 1)))))
   (ad (kset 12 b (aB ac))
   (ad (av (ao (aw a) (pv 6) aI (ak _)) (ae (kset 12 b (aB (ab (au (ng rfl) rfl Bz.sum_ vw (ab (pv 11) ac)) ac)))) ap)
   (ad (av (ao (aw a) (pv 6) aI (ak _)) (ae (kset 12 b (aB (ab (au aE rfl Bz.len_ aO (ab (aF (ix:=[none,none,some 7]) [".0","_law_one","_law_sign"] (aA rfl (by decide+kernel) rfl rfl rfl) rfl (ay (pv 11)) (λcl s H c=>(aq (i:=1) (show([".0","_law_one","_law_sign"]:List Str).Nodup by decide+kernel) rfl (Or.inl rfl))) (λcl s H c=>(aX (ao (aw a) (pv 1) (pv 2) (ak _)))) (λcl s H c=>(pv 1))) ac)) (ab (pv 7) ac))))) ap)
   (ad (av (ao (aw a) (pv 6) aI (ak _)) (ae (kset 12 b (aB (ab (au aE rfl Bz.len_ aO (ab (aF (ix:=[none,none,some 11]) [".0","_law_k","_law_told"] (aA rfl (by decide+kernel) rfl rfl rfl) rfl (dN rfl Bz.range_ (ab (au aE rfl Bz.len_ aO (ab (pv 11) ac)) ac)) (λcl s H c=>(aq (i:=1) (show([".0","_law_k","_law_told"]:List Str).Nodup by decide+kernel) rfl (Or.inl rfl))) (λcl s H c=>(aX (Pq (d3 (ao (aw a) (pv 1) af (ak _)) (e5 (ao fD (kix a (pv 2) (pv 1)) (au (C2 rfl) rfl Bz.max_ Ie (ab (fL lX (pv 2) kn (fC (pv 1))) ac)) (ak _))))))) (λcl s H c=>(pv 1))) ac)) ac)))) ap)
   (ae (ai (bu QB PySem.F.slot_str_join PySem.F.type_str_join Eu aI (ab (ar aJ (aB (ab (pv 6) ac)) (aF (ix:=[none,none]) [".0","_law_one"] (aA rfl (by decide+kernel) rfl rfl rfl) rfl (ay (ar aJ (pv 12) (pv 8))) (λcl s H c=>(aq (i:=1) (show([".0","_law_one"]:List Str).Nodup by decide+kernel) rfl (Or.inl rfl))) (λcl s H c=>a7) (λcl s H c=>(bX yj rfl Bz.str_ zU (ab (pv 1) ac))))) ac)))))))))))))))))
abbrev ut:=top 37
theorem Bm(JV:gi Z)(D:De Z.K "many_only" ut):kZ Z:=okc Bz D Al bd2 #[";eiwFaCDbB.x&--1 `0za%aaaay0$t.i#1 @`0ara$JGj~Gfb1b2c$1c",[".0","mask","sign"]]
abbrev pU:=top 42
theorem wO{c:QZ}(JV:gi Z)(JS:d0 Z c)(D:De Z.K "only_strikes" pU):pA Z c:=okc Bz D vO bd5 #[";eiRxudwFaCDb4chklRx^dmd4hj~cfb0b2c`0Sj~Gfbmd1md4hb3c",(by with_unfolding_all rfl)]
abbrev oe:=top 43
theorem va{c:QZ}(LO:yA Z)(Ka:md Z)(JU:gh Z)(JS:d0 Z c)(J1:kP Z c)(D:De Z.K "place_strikes" oe):nQ Z c:=okc Bz D uH bd6 #[";gpUXoIdwFaCDbH~Cf!1cmd0hkl/oIdwFaCDb5chkleiPqgpUXoudmd5h4kl/YGj{yfb0bmd5hceiPqeixudj'afbj~sfb2bj~cfb1b3ccbmd5hchkl"]
abbrev pV:=top 48
theorem wP{c:QZ}(LF:wo Z c)(L1:A3 Z c)(KG:nN Z)(Lg:sC Z)(D:De Z.K "step_strikes" pV):pB Z c:=okc Bz D vS bd5 #[";gpoId4AckleiPqgpGw'vaa'w'xbB.x&--13 `0za%aaaayj{zfb0b2c$t.i#1 @`0ara$L$j{Afb3bmd21cceiPqeiw'vaa'w'xbB.x&--13 `0za%aaaayj{Bfb0b2c$t.i#1 @`0ara$L$j{Cfb3bmd21cc",[".0","other","masks","sign"]]
abbrev m3:=top 62
theorem tQ(Kk:nJ Z)(D:De Z.K "rest_of_square" m3):mV Z:=okc Bz D tG bd3 #[";gTOayj'yfb0ct.i#3 naraepU~roudmd3h1kl~zo^d23`0eiB.x&--2 `1za%aaaay3$t.i#1 @`1ara$JoId12kl$1qeiAc",(by with_unfolding_all rfl),[".0","other","cell"]]
abbrev iF:=top 64
theorem m8(JV:gi Z)(LQ:yy Z)(D:De Z.K "is_another_with_only" iF):iE Z:=okc Bz D m7 bd5 #[";eiRj{Dfb0b3cRxId32klSj~Gfbmd13b4c"]
abbrev sR:=top 72
theorem zk{c:QZ}(JV:gi Z)(JS:d0 Z c)(D:De Z.K "only_mores" sR):sG Z c:=okc Bz D yX bd4 #[";eiB.x&--13 `0za%aaaayw~*a~+~-bj~cfb0b2cc$t.i#1 @`0ara$JGj~Gfbmd21b3c$Ab1c",[".0","other","masks","sign"]]
abbrev pW:=top 74
theorem wQ(Kk:nJ Z)(D:De Z.K "square_mores" pW):pC Z:=okc Bz D wb bd2 #[";eiB.x&--1 `0za%aaaayj'yfb0c$t.i#1 @`0ara$Jo^d21`1$Abmd1hc",[".0","square","cell"],(by with_unfolding_all rfl)]
abbrev qY:=top 75
theorem xV{c:QZ}(JV:gi Z)(JS:d0 Z c)(J9:nK Z)(J5:kM Z)(Ke:pH Z c)(D:De Z.K "reach_mores" qY):qP Z c:=okc Bz D xE bd5 #[";g~b.i#5 na-aH~Hf!1g~b.i#6 na-aB.x&--52 `0za%aaaayj~cfb1b3c$t.i#1 @`0ara$JGj~Gfbmd31b2c$1g~^.k#7 naraa.x&--52 `0za%aaaayj~cfb1b3c$t.i#1 @`0ara$JGj~Sfbmd31b2c$1gpoud45klg~b.i#8 na-aj~Tfb0bvK7Ab3cb3ceiB.x&--8 `1za%aaaay6$t.i#1 @`1ara$Jo~ed12`2$Ab1cqg~b.i#8 na-a~OoId6Acklj~Tfb0b7bmd6hcAceiB.x&--86 `3za%aaaay6$t.i#1 @`3ara$Jo~ed12`2$Abmd3hb1c",[".0","other","mark","masks"],[".0","other","joined"],(by with_unfolding_all rfl),[".0","other","joined","sure"]]
abbrev lr:=mtop 94 1
theorem kh{c:QZ}(J9:nK Z)(J3:FldK Z.K c "floor"){f:Addr}(D:Me Z.K "is_joined" "Joined.is_joined" lr f):Mo Z 4 f ["self","cells"] (ka Z.K c):=okm D rb bd2 #[";ei~Axud1AcklSxudj~TfbQ0~Wb1bmd1hc1kl"]
abbrev m5:=mtop 95 0
theorem tR{c:QZ}(Lv:ud Z)(Kk:nJ Z)(J3:FldK Z.K c "floor")(Kl:ji Z c){f:Addr}(D:Me Z.K "holds" "NoSquare.holds" m5 f):Mo Z 4 f ["self","filling"] (lP Z.K c):=okm D tK bd2 #[";g~b.i#2 na-a*~:f!0b1cei'Bw'vaa'w'xbB.x&--2 `0za%aaaayj'yfbQ0~Wc$t.i#1 @`0ara$L$j{Efb1b2cc",[".0","square","cells"]]
abbrev wR:=top 108
theorem BZ(JT:dZ Z)(Lh:sF Z)(KO:GTup Z.K Z.mg "OF_ALL_CELLS" gH)(D:De Z.K "cells_of" wR):wt Z:=okc Bz D Bs bd3 #[";gp{F{G1aeij{Hfb0b2cqgpoId2Ackle+qei'laaa~a]bj~Bfb0cc"]
abbrev og:=top 113
theorem vb(LG:wq Z)(D:De Z.K "checked_floor" og):nR Z:=okc Bz D uE bd1 #[";gpUXYGw~Ia~J~Kb0b~L.v~M{Ia'f'gac/oIdwFaCDb0chkle+qeij{Jfbmd0hbmd0hbmd0hc"]
abbrev lT:=top 51
theorem sS{c:QZ}{d:Q0}(KP:pc Z)(KQ:pA Z c)(KR:pj Z c)(KH:nQ Z c)(KS:pB Z c)(Mc:Cw Z c d)(Ki:pG Z c d)(JY:kO Z c d)(D:De Z.K "strikes_by_line" lT):lR Z c d:=okc Bz D rh bd3 #[";gs#3 nmd2hgs#4 nmd2hgs#5 nmd2hgs#6 nmd2hgpoud3Ekleij{KfbH{Lf!0b4b5b6cqgs#7 nmdH~of!0md2hgpoud3Ekleij{Mfb7b1b4b5b6cqgpoud3Ekleij{NfbH~Zf!0b7b1b4b5b6cqgpoud3Ekleij{Ofb7b1b4b5b6cqeij{Pfb7b1b4b5b6c"]
abbrev oh:=top 55
theorem vc{c:QZ}(Ka:md Z)(J6:kZ Z)(JU:gh Z)(JS:d0 Z c)(Kt:uX Z c)(Ke:pH Z c)(D:De Z.K "count_strikes" oh):nS Z c:=okc Bz D uI bd5 #[";gpoId4AckleiPqgs#5 nj~sfb1bj~cfb0b2ccgpoud3H~Hf!0kleix~Yj'bfb5b3cH~]f!0klqeixVj'afb5bH~Hf!0cH~]f!0kl"]
abbrev m6:=top 63
theorem tS{c:QZ}(J6:kZ Z)(JU:gh Z)(Ky:mV Z)(Ke:pH Z c)(D:De Z.K "square_strikes" m6):mW Z c:=okc Bz D tH bd6 #[";gpUXoId4H~Hf!1kl/oIdwFaCDb5chkleiPqgs#6 nj{Qfb0bmd5hb3ceiRxId6AcklSxudj'bfbj~sfb2b6cb4cwFaCDb6ckl"]
abbrev oi:=top 65
theorem vd{c:QZ}(Km:iE Z)(JS:d0 Z c)(J9:nK Z)(J5:kM Z)(Ke:pH Z c)(D:De Z.K "reach_strikes" oi):nT Z c:=okc Bz D uN bd6 #[";g~b.i#6 na-aH~Hf!1gpYGw~faa~g~hbB.x&--3062 `0za%aaaay5$t.i#1 @`0ara$L$j{Rfb3b5b2b1b4cceiPqg~^.k#7 naraa.x&--62 `1za%aaaayj~cfb1b3c$t.i#1 @`1ara$JGj~Sfbmd31b2c$1gpoud46kleiRxudwFaCDb5chklSx~edmd5hj~Tfb0bvK7Ab3cb3c`2qgpUXoIdwFaCDb5chkl/oudmd5hmd5hkleiPqeix~edmd5hj~Tfb0b7bmd5hc`2",[".0","other","cell","floor","mark","masks"],[".0","other","mark","masks"],(by with_unfolding_all rfl)]
abbrev pX:=top 67
theorem wS{c:QZ}(L3:A4 Z)(J0:kN Z)(JV:gi Z)(Ka:md Z)(J6:kZ Z)(JU:gh Z)(Ke:pH Z c)(D:De Z.K "turn_strikes" pX):pD Z c:=okc Bz D vZ bd6 #[";gs#6 nH~Hf!1gpoud5Acklgs#7 nj~sfb2bj~Ffb0b3cceiRxud46klS~AxVj'afb7b6chklSx:j'bfb7b6chklqgpUXoIdwFaCDb5chklXo~edmd5hj~Ffb0b3c`0/YGj~Gfbmd2md5hb6ceiPqgs#7 nj~sfb2bj{Sfb0bmd5hb3ccgpoud46kleix~Yj'bfb7b6chklqeixVj'afb7b6chkl",(by with_unfolding_all rfl)]
abbrev pY:=top 78
theorem wT{c:QZ}{d:Q0}(Li:sG Z c)(Lj:sE Z c)(K6:qL Z)(K7:qP Z c)(KU:pC Z)(Ll:sD Z)(Ki:pG Z c d)(JY:kO Z c d)(D:De Z.K "mores_to_try" pY):pE Z c d:=okc Bz D wc bd6 #[";gs#6 nH~Zf!0gpoud2Ekleij{Tfb6b5cqgpoud2Ekleij{Ufb6b4cqgpoud2Ekleij{Vfb6b4cqgpoud2Ekleij{WfbmdH~of!03b1b4b5cqgpoud2Ekleij{Xfb6bmdH~of!03b1b4b5cqgpoud2Ekleij{YfbmdH~of!03b1b4cqeiAbAcc"]
abbrev pZ:=mtop 94 0
theorem wU{c:QZ}(Lw:k9 Z c)(Kl:ji Z c){f:Addr}(D:Me Z.K "holds" "Joined.holds" pZ f):Mo Z 5 f ["self","filling"] (nr Z.K c):=okm D vV bd2 #[";ei*'Sf!0b*~:f!0b1cc"]
abbrev sU:=mtop 96 0
theorem zl{c:QZ}(L4:mX Z c)(Lw:k9 Z c)(Kl:ji Z c){f:Addr}(D:Me Z.K "holds" "Ring.holds" sU f):Mo Z 5 f ["self","filling"] (qK Z.K c):=okm D yW bd2 #[";g~b.i#2 na-a*~:f!0b1ceiR*'Sf!0b2cSw~faa~g~hbB.x&--20 `0za%aaaay2$t.i#1 @`0ara$L$*{Zf!3b2b1cc",[".0","cell","cells","self"]]
abbrev uu:=top 110
theorem Bn{c:QZ}(LH:wt Z)(Kv:pq Z)(LR:yB Z c){t_MOST_NUMBER:Tok}(K8:Z.mg "MOST_NUMBER"=some (.int 99 t_MOST_NUMBER))(K9:GTup Z.K Z.mg "WITH_NUMBER" g8)(Lx:GTup Z.K Z.mg "WITH_SIGN" gN)(D:De Z.K "read_rule" uu):ug Z c:=okc Bz D Ai bd2 #[";gpYGw~Ia~J~Kb1b~L.v~M{*a{+{-ace+qgs#2 nM{/{:{;{?1bEcgs#3 nmd2hgs#4 n~D~E2~nh~;gs#5 nhgs#6 nhgp'c{[3ags#5 nj'Tfb4bhb`0ces#4 n~D~E4~nh~;qgp'c{]3ags#6 nj'Tfb4bhbmd0hces#4 n~D~E4~nh~;qeij{^fb0b2bj}afb0b3b4cb5b6c",(dQ rfl K8 ⟨t_MOST_NUMBER,rfl⟩)]
abbrev p5:=top 59
theorem wV{c:QZ}(J8:lm Z)(JU:gh Z)(JS:d0 Z c)(JR:dM Z)(Mr:Fj Z)(Kz:mT Z)(Kp:oP Z){t_MOST_WAYS:Tok}(Ly:Z.mg "MOST_WAYS"=some (.int 32 t_MOST_WAYS))(Lc:xO Z c)(D:De Z.K "ways_strikes" p5):pF Z c:=okc Bz D vY bd5 #[";gs#5 nj~cfb0b2cgs#6 nj~sfb1b5cgpUXoId4Ackl/o:j}bfb6c`0kleiPqgpGj~[fb6ceiPqgs#7 nAbj'Mfbv}cAbhcwFaCDb1cb2b3ccgTOay5t.i#8 naraes#7 nj}dfb7b8bj~jfbmd18ccgTOay7t.i#9 naraepG*'Uf!0b9ceiPqeiP",(dQ rfl Ly ⟨t_MOST_WAYS,rfl⟩)]
abbrev ki:=top 68
theorem qE{c:QZ}{d:Q0}(KI:nT Z c)(KA:mW Z c)(KW:pD Z c)(Ki:pG Z c d)(JY:kO Z c d)(D:De Z.K "strikes_by_region" ki):ke Z c d:=okc Bz D oH bd3 #[";gs#3 nH~Zf!0gs#4 nmdH~of!0md2hgpoudmd2hEkleij}efb3b4b1bmd2hbmd2hbmd2hcqgpoudmd2hEkleij}ffb3b4b1bmd2hbmd2hbmd2hcqeij}gfb3b4b1bmd2hbmd2hbmd2hc"]
abbrev sV:=top 114
theorem zn{c:QZ}(Lz:ug Z c){t_MOST_RULES:Tok}(Lm:Z.mg "MOST_RULES"=some (.int 12 t_MOST_RULES))(D:De Z.K "read_rules" sV):sH Z c:=okc Bz D yS bd2 #[";gpo:wFaCDb1c`0kle+qeiB.x&--0 `1za%aaaay1$t.i#1 @`1ara$L$j}hfb2b1c",(dQ rfl Lm ⟨t_MOST_RULES,rfl⟩),[".0","line","floor"]]
abbrev p6:=mtop 117 6
theorem wW{c:QZ}{d:Q0}(Kn:mU Z)(J7:FldK Z.K d "floor")(Kj:FldK Z.K d "laws")(LA:uh Z c d)(Lc:xO Z c){f:Addr}(D:Me Z.K "meets" "Puzzle.meets" p6 f):Mo Z 6 f ["self","filling"] (nt Z.K c d):=okm D vW bd2 #[";gpUXYGj'RfbQ0~Rb1bhc/YG*}if!0b1ceiPqeiw~faa~g~hbB.x&--1 `0za%aaaayQ0'k$t.i#1 @`0ara$L$*'Uf!1b2cc",[".0","rule","filling"]]
abbrev kj:=top 60
theorem qF{c:QZ}{d:Q0}(KJ:nS Z c)(La:qO Z c)(KY:pF Z c)(JY:kO Z c d)(D:De Z.K "strikes_by_number" kj):kf Z c d:=okc Bz D oI bd3 #[";gs#3 nmdH~of!0md2hgpoudmd2hEkleij}jfb3b1bmd2hbmd2hbmd2hcqgpoudmd2hEkleij}kfb3b1bmd2hbmd2hbmd2hcqeij}lfb3b1bmd2hbmd2hbmd2hc"]
abbrev lU:=mtop 117 0
theorem sW{c:QZ}{d:Q0}(KK:nO Z)(KL:nR Z)(Lo:sH Z c)(J7:FldK Z.K d "floor")(Kf:FldK Z.K d "given")(Kj:FldK Z.K d "laws"){f:Addr}(D:Me Z.K "__init__" "Puzzle.__init__" lU f):Mo Z 7 f ["self","floor","lines","clues"] (cY Z.K c d):=okm D rQ bd4 #[";g~l0j}mfb1c~Rg~l0j}nfbQ0~Rb2c'ke~l0j}ofbQ0~Rb3c'j"]
abbrev yM:=top 70
theorem DC{c:QZ}{d:Q0}(Kw:lR Z c d)(Kr:kf Z c d)(Ks:ke Z c d)(Lp:GTup Z.K Z.mg "LINE_KINDS" iI)(KZ:GTup Z.K Z.mg "NUMBER_KINDS" gJ)(D:De Z.K "strikes" yM):yC Z c d:=okc Bz D BE bd3 #[";gp'c}pmd2haeij}qfb0b1b2cqgp'c}rmd2haeij}sfb0b1b2cqeij}tfb0b1b2c"]
abbrev wX:=top 79
theorem B0{c:QZ}{d:Q0}(K0:pE Z c d)(LS:yC Z c d)(D:De Z.K "first_at" wX):wu Z c d:=okc Bz D BG bd6 #[";gTOayj}ufb0b1b2b3b4b5ct.i#6 narags#7 n~Nb2b3b4b5b6cepGj}vfb0b1b7cei7qei~Q"]
abbrev oj:=top 82
theorem ve{c:QZ}{d:Q0}(K1:pi Z c d)(J8:lm Z)(LI:wu Z c d)(JR:dM Z)(K2:uW Z)(D:De Z.K "found_by_rule" oj):nU Z c d:=okc Bz D uQ bd4 #[";gs#4 n~i~qa~a~mb1cgs#5 nAcgTOayj}wfb0b2b3ct.i#6 naragTOayj~jfbmd46ct.i#7 narags#8 nj}xfb0b4b2b3b6b7cepo}y8~QklgZMN;?[5b8ces#4 nj'Vfb4b6b7cqepGj~[fb4cei5qei5"]
abbrev qZ:=top 84
theorem xW{c:QZ}{d:Q0}(KM:nU Z c d)(K3:pk Z c d)(Ld:GTup Z.K Z.mg "KINDS" gt_KINDS)(D:De Z.K "first_found" qZ):qQ Z c d:=okc Bz D xG bd3 #[";gTOayB.x&--2 `0za%aaaa'i}z}Aa$t.i#1 @`0ara$Jo}B12`1$1t.i#3 naraeTOayj}Cfb0b3ct.i#4 narags#5 nj}Dfb0b1b3b4cepoId5Acklei5qeiAc",[".0","word","kinds"],(by with_unfolding_all rfl)]
abbrev CA:=top 85
theorem Gh{c:QZ}{d:Q0}(J8:lm Z)(Lb:qQ Z c d)(K2:uW Z)(D:De Z.K "think" CA):Cv Z c d:=okc Bz D FZ bd3 #[";gs#3 n~i~qa~a~mb1cgs#4 nAcg'OOYGj~[fb3cgs#5 nj}Efb0b3b2cgpoud5Acklei~Nb3b4cqeTOay5t.i#6 naragZMN;?[4b6ces#3 nj'Vfb3bmd6hbmd6hcei~Nb3b4c"]
abbrev wY:=top 124
def Jh{c:QZ}{d:Q0}(h:ph Z)(q:mS Z)(y:wr Z)(t:Cv Z c d)(u:Cz Z c d)(o:lS Z "Puzzle" (d.A .Puzzle) c d)(r:GTup Z.K Z.mg "KINDS" gt_KINDS){f:Addr}{n:FuncData}(F:Fun Z.K "law" "law" wY f n):FnOk Z.P Z.w Z.K Z.mg Z.base CX0 13 f n ["_law_script"] (Fc Z.K c d):=okf F (by ac_rfl) Jg (λe b a=>by
 refine ad ?s0 ?r0
 case s0=>exact(kset 1 a (ar a9 (ar cZ (kcal h e (ab (pv 0) (ab af ac))) af) af))
 case r0=>
  refine ad ?s1 ?r1
  case s1=>
   refine HH (te:=?te) (g:=gTup Z.K 2 (gCons (gName 2) (gCons (gName 3) gNil))) ?h1 ?h2 ?h4 ?h5 ?h6
   case h2=>exact(ro rfl (fe (aq (i:=2) a rfl (Or.inl rfl)) (fe (aq (i:=3) a rfl (Or.inl rfl)) oS)))
   case h4=>rfl
   case h5=>rfl
   case h6=>rfl
   case h1=>
    refine vh ?x ?l ?j ?p
    case x=>exact(Ia b)
    case p=>exact(λ_ _=>rfl)
    case j=>exact(ar a9 (pv 1) af)
    case l=>
     refine aB ?_;refine kL ?_ ?_
     . exact fA (c9 af (c9 af ac))
     refine kL ?_ ?_
     . exact fA (c9 af (c9 af ac))
     refine kL ?_ ?_
     . exact fA (c9 af (c9 af ac))
     refine kL ?_ ?_
     . exact fA (c9 af (c9 af ac))
     refine kL ?_ ?_
     . exact fA (c9 af (c9 af ac))
     refine kL ?_ ?_
     . exact fA (c9 af (c9 af ac))
     exact ac
  case r1=>
   exact(ad (kset 4 a (ar aJ af (ar a9 (ar cR (pv 1) af) af)))
   (ad (kset 5 a (aB ac))
   (ad (kset 6 a (aB ac))
   (ad (kset 7 a (aB ac))
   (ad (kset 8 a (kix b (aB (ab af (ab af (ab af (ab af (ab af ac)))))) (ar bB (pv 4) af)))
   (ad (bw NL rfl (dN rfl Bz.range_ (ab (ar cZ (pv 2) (pv 3)) ac)) (aq (i:=9) a rfl (Or.inl rfl))
   (ad (kset 10 a (ar a9 (ar cZ (ar aJ (kcal h e (ab (pv 0) (ab (ar aJ af (pv 9)) ac))) (ar cZ (ar cZ af (pv 9)) (pv 9))) af) af))
   (ad (bv (bu No NE NF bc (pv 5) (ab (ar aJ af (ar a9 (pv 10) (kix b (aB (ab af (ab (pv 4) (ab (au (Ec rfl) rfl Bz.min_ Id (ab af (ab (pv 4) ac))) ac)))) (ar a9 (ar cR (pv 1) af) af)))) ac)))
   (ad (bv (bu No NE NF bc (pv 6) (ab (ar Eh (kix b (aB (ab (pv 8) (ab (ar aJ af (ar a9 (ar cR (pv 10) af) (pv 8))) ac))) (ar a9 (ar cR (pv 10) af) af)) (kix b (aB (ab af (ab af (ab af (ab af (ab af ac)))))) (ar bB (kix b (pv 5) (pv 9)) af))) ac)))
   (ae (bv (bu No NE NF bc (pv 7) (ab (kix b (aB (ab af (ab (kix b (pv 5) (pv 9)) (ab af ac)))) (ar a9 (ar cR (pv 10) af) af)) ac))))))))
   (ad (kset 11 a (aB ac))
   (ad (bw NL rfl (dN rfl Bz.range_ (ab (ar aJ af (ar a9 (ar cR (pv 1) af) af)) ac)) (aq (i:=9) a rfl (Or.inl rfl))
   (ae (bv (bu No NE NF bc (pv 11) (ab (kcal y e (ab (pv 2) (ab (pv 3) (ab (pv 4) (ab (pv 5) (ab (ar a9 (ar cZ (ar aJ (kcal h e (ab (pv 0) (ab (ar aJ af (pv 9)) ac))) (ar cZ af (pv 9))) af) af) ac)))))) ac)))))
   (ad (kset 12 a (lZ o e #[1] rfl (ab (fA (ab (pv 2) (ab (pv 3) (ab (pv 4) ac)))) (ab (pv 11) (ab (pv 7) ac)))))
   (ad (kset 13 a (kcal q e (ab (ar a9 (ar cZ (kcal h e (ab (pv 0) (ab af ac))) af) af) (ab af ac))))
   (ad (oU (k:=14) a rfl (Or.inl rfl) rfl (ix:=[none,none]) [".0","_law_k"] (aA rfl (by decide+kernel) rfl rfl rfl) rfl (ay (fL lX (pv 13) kn (fC (ar aJ af (ar a9 (ar cR (pv 1) af) af))))) (λcl s H m=>(aq (i:=1) (show([".0","_law_k"]:List Str).Nodup by decide+kernel) rfl (Or.inl rfl))) (λcl s H m=>a7) (λcl s H m=>(vh DP (Gu r rfl) (pv 1) (λ_ _=>rfl))))
   (ad (kset 15 a (kix b (kcal t e (ab (pv 12) (ab (pv 6) (ab (pv 14) ac)))) af))
   (ad (av (Pq (d3 (db (aT (au jl rfl Bz.isinstance_ eV (ab (pv 15) (ab (me (v:=.ty "list") rfl Bz.list_ fE rfl) ac))))) (e5 (ao (bb b) (au aE rfl Bz.len_ aO (ab (pv 15) ac)) (au aE rfl Bz.len_ aO (ab (pv 5) ac)) (ak _))))) (ae (ai bU)) ap)
   (ad (kset 16 a bU)
   (ad (bw NL rfl (dN rfl Bz.range_ (ab (au aE rfl Bz.len_ aO (ab (pv 5) ac)) ac)) (aq (i:=9) a rfl (Or.inl rfl))
   (ad (kset 17 a (kix b (aB (ab af (ab af (ab af (ab af (ab af ac)))))) (ar bB (kix b (pv 5) (pv 9)) af)))
   (ad (av (ao (aw b) (ar a9 (ar cR (kix b (pv 15) (pv 9)) (pv 17)) af) af (ak _)) (ae (ai bU)) ap)
   (ae (kset 16 a (bR (pv 16) (bQ (az (aw b) (kix b (pv 15) (pv 9)) (pv 17) (ak _)))))))))
   (ae (ai (p7 (zD (pv 16)) (bQ (az Jf (bV u e #[1] (pv 12) (ab (bX e7 rfl Bz.list_ fE (ab (pv 5) ac)) ac)) bU (ak _)))))))))))))))))))))) (by walk_at "l")
end
variable{l:PySem.W.OpenLaw}
theorem Ji {w:World} {K:Frag} {h:Heap} {mg:Str->Option Value} {fa:Addr} (X:K.In h) (G:h.Ns mainGlobals mg) (cf:mg "law"=↑fa) {x1 x2 x3 x4 x5 x6 x7 x8 y1 ac bk aV aI aN aU bc aS br aX bd aL aT bm bf bs aZ aD aW aK bb aO bg c0 P0:Addr} {ak N B J M T P U:Tok}
  (D:ClsP K "Unlike" x1 ac) (ap:ClsP K "Sum" x2 ac) (C:ClsP K "Rising" x3 ac) (ad:ClsP K "Seen" x4 ac) (O:ClsP K "Count" x5 ac) (o:ClsP K "Joined" x6 ac) (q:ClsP K "NoSquare" x7 ac) (t:ClsP K "Ring" x8 ac) (j:ClsP K "Puzzle" y1 bg) (eP:At8 K "name" ↑bk x1 x2 x3 x4 x5 x6 x7 x8) (eR:At8 K "spots" ↑aV x1 x2 x3 x4 x5 x6 x7 x8) (bX:At8 K "number" ↑aI x1 x2 x3 x4 x5 x6 x7 x8) (ci:At8 K "sign" ↑aN x1 x2 x3 x4 x5 x6 x7 x8) (cz:At8 K "signs_at" ↑aU x1 x2 x3 x4 x5 x6 x7 x8) (aC:At8 K "marked" ↑bc x1 x2 x3 x4 x5 x6 x7 x8) (Mw:findIn K (.ref y1) "place"=some ↑aS) (Mx:findIn K (.ref y1) "clues"=some ↑br) (My:findIn K (.ref y1) "rules"=some ↑aX) (Mz:findIn K (.ref y1) "has_clues"=some ↑bd) (MA:findIn K (.ref x1) "holds"=some ↑aL) (MM:findIn K (.ref x2) "holds"=some ↑aT) (MC:findIn K (.ref x3) "holds"=some ↑bm) (MI:findIn K (.ref x4) "holds"=some ↑bf) (MH:findIn K (.ref x5) "holds"=some ↑bs) (MJ:findIn K (.ref x8) "has_two_beside"=some ↑aZ) (MD:findIn K (.ref x6) "is_joined"=some ↑aD) (MK:findIn K (.ref x8) "is_joined"=some ↑aD) (Mt:findIn K (.ref x7) "holds"=some ↑aW) (ME:findIn K (.ref x6) "holds"=some ↑aK) (ML:findIn K (.ref x8) "holds"=some ↑bb) (MF:findIn K (.ref y1) "meets"=some ↑aO) (ai:At8 K "amount" none x1 x2 x3 x4 x5 x6 x7 x8) (al:At8 K "cells" none x1 x2 x3 x4 x5 x6 x7 x8) (am:At8 K "floor" none x1 x2 x3 x4 x5 x6 x7 x8) (az:At8 K "mark" none x1 x2 x3 x4 x5 x6 x7 x8) (aq:At8 K "words" none x1 x2 x3 x4 x5 x6 x7 x8) (ar:findIn K (.ref y1) "floor"=some none) (ao:findIn K (.ref y1) "given"=some none) (as:findIn K (.ref y1) "laws"=some none) (D0:De K "is_whole" wv) (D1:De K "many_cells" sI) (D2:De K "spot_of" yD) (D3:De K "square_at" ui) (D4:De K "bit_of" A6) (D5:De K "stands" A7) (D6:De K "clashes" yE) (D7:De K "masks_at" ww) (D8:De K "clue_strikes" pI) (D9:De K "are_told_in_order" kg) (er:De K "with_sign" uj) (da:De K "place_mores" qR) (et:De K "is_within" uk) (eo:Me K "__init__" "Rule.__init__" nV ac) (cZ:Me K "name" "Rule.name" ul bk) (eb:Me K "spots" "Rule.spots" sJ aV) (bw:Me K "number" "Rule.number" qS aI) (dK:Me K "sign" "Rule.sign" um aN) (eF:Me K "signs_at" "Rule.signs_at" nX aU) (aF:Me K "marked" "Rule.marked" qT bc) (ep:De K "number_in" uo) (en:Me K "place" "Puzzle.place" pJ aS) (bT:Me K "clues" "Puzzle.clues" pK br) (ff:Me K "rules" "Puzzle.rules" pM aX) (eU:Me K "has_clues" "Puzzle.has_clues" lq bd) (dk:De K "_law_cell_at" pN) (fe:De K "_law_order" sK) (es:De K "_law_beside" qU) (fc:De K "is_from_one_to" mY) (cW:De K "beside" Be) (eO:De K "is_corner" uq) (ew:De K "without" yF) (cL:De K "signs_in" wC) (ea:De K "is_cell" yG) (eT:De K "goes_by" yH) (ch:De K "others" Bg) (eh:De K "many_may" wD) (ej:De K "ahead_of" wE) (eV:De K "behind" Bh) (eE:De K "with_each_sign" mZ) (cQ:De K "cells_to_try" pO) (cR:Me K "holds" "Unlike.holds" pP aL) (cY:Me K "holds" "Sum.holds" ur aT) (fb:Me K "holds" "Rising.holds" pQ bm) (dS:Me K "holds" "Seen.holds" sL bf) (eM:Me K "holds" "Count.holds" qV bs) (bV:De K "number_within" nY) (fi:De K "is_filling" sM) (fg:De K "_law_region" qW) (bU:De K "floor_of" wI) (el:De K "squares" yI) (co:De K "reached" yJ) (eQ:De K "has_only" wJ) (dQ:De K "struck" Bj) (ca:De K "ways" Ft) (eN:De K "is_sign" yK) (cu:De K "is_no_greater" nZ) (eY:De K "is_no_less" sN) (cy:De K "pair_strikes" pR) (dx:De K "sum_strikes" qX) (cv:De K "around" Bl) (dP:De K "turn_mores" sO) (eK:De K "pair_mores" sP) (eX:De K "rule_numbers" pS) (fh:Me K "has_two_beside" "Ring.has_two_beside" js aZ) (fj:De K "first_within" pT) (cO:De K "told_cells" sQ) (ed:De K "rule_by" yL) (dU:De K "checked_clues" n6) (eg:De K "_law_row" wN) (eu:De K "many_only" ut) (bx:De K "only_strikes" pU) (bQ:De K "place_strikes" oe) (bA:De K "step_strikes" pV) (dV:De K "rest_of_square" m3) (eA:De K "is_another_with_only" iF) (dv:De K "only_mores" sR) (dZ:De K "square_mores" pW) (eH:De K "reach_mores" qY) (bu:Me K "is_joined" "Joined.is_joined" lr aD) (dO:Me K "holds" "NoSquare.holds" m5 aW) (ec:De K "cells_of" wR) (eL:De K "checked_floor" og) (eZ:De K "strikes_by_line" lT) (cn:De K "count_strikes" oh) (dM:De K "square_strikes" m6) (cx:De K "reach_strikes" oi) (eq:De K "turn_strikes" pX) (cU:De K "mores_to_try" pY) (dN:Me K "holds" "Joined.holds" pZ aK) (eG:Me K "holds" "Ring.holds" sU bb) (eC:De K "read_rule" uu) (bR:De K "ways_strikes" p5) (eD:De K "strikes_by_region" ki) (ey:De K "read_rules" sV) (db:Me K "meets" "Puzzle.meets" p6 aO) (ee:De K "strikes_by_number" kj) (eJ:Me K "__init__" "Puzzle.__init__" lU bg) (cd:De K "strikes" yM) (em:De K "first_at" wX) (bv:De K "found_by_rule" oj) (aP:De K "first_found" qZ) (aR:De K "think" CA) (aJ:De K "law" wY) (aA:GT0 K "KINDS" gt_KINDS) (Y:GT0 K "LINE_KINDS" iI) (L:GT0 K "NUMBER_KINDS" gJ) (I:GT0 K "OF_ALL_CELLS" gH) (R:GT0 K "WITH_NUMBER" g8) (ab:GT0 K "WITH_SIGN" gN) (u:GD0 w K "RULES_OF_KIND" gd_RULES_OF_KIND) (MG:nsIn K mainGlobals "FIGURES"=some (some (.str (tx s!"0123456789") ak))) (Mi:nsIn K mainGlobals "MOST_CELLS"=some (some (.int 16 N))) (L8:nsIn K mainGlobals "MOST_FIGURES"=some (some (.int 9 B))) (Mg:nsIn K mainGlobals "MOST_NUMBER"=some (some (.int 99 J))) (Mj:nsIn K mainGlobals "MOST_RULES"=some (some (.int 12 M))) (Mu:nsIn K mainGlobals "MOST_SIDE"=some (some (.int 6 T))) (Ml:nsIn K mainGlobals "MOST_SIGNS"=some (some (.int 6 P))) (Mv:nsIn K mainGlobals "MOST_WAYS"=some (some (.int 32 U))) (z:Zn K) (LT:PySem.W.tabIn K "_law_row"=some (c0,P0)) (LK:CdP K c0 P0) (LM:mainGlobals≠P0):
  ∃ fd:FuncData,(∀(s:Shared) (v:Value),BindsTo s fd ⟨[v],[]⟩ [("_law_script",v)])/\∀ aa:Heap,K.In aa->aa.Ns mainGlobals mg->aa.BuiltinsAt mg P0->FnOk l.prog w K mg aa CX0 13 fa fd ["_law_script"] (xM K):=by
 obtain⟨f,fd,a,F⟩:=aJ.ex;have e:=cf.symm.trans (PySem.W.mg_of X G a);cases e;obtain⟨oc,od,kV,cp,pm,an,MQ,ct,fl,rfl,lk,fk⟩:=F.ex;refine⟨fnOf "law" "law" (dR wY) (cI wY) (aQ wY) .none kV cp pm an MQ ct,λs v=>.of_eq rfl,λaa KB _ LB=>?_⟩;let Z:Z5:=⟨l.prog,w,K,mg,aa⟩;have b:Bt3 Z:=IW X G z;have LC:=LK.hd KB;let c:QZ:=mkC x1 x2 x3 x4 x5 x6 x7 x8;let d:Q0:=mkD y1;have CC:C8 K x1 x2 x3 x4 x5 x6 x7 x8:=⟨D.cl,ap.cl,C.cl,ad.cl,O.cl,o.cl,q.cl,t.cl⟩;have LL:=b.ns MG;have Le:=b.ns Mi;have KN:=b.ns L8;have K8:=b.ns Mg;have Lm:=b.ns Mj;have K4:=b.ns Mu;have Lf:=b.ns Ml;have Ly:=b.ns Mv;have JW:FldK Z.K c "amount":=fk8 CC ai;have JX:FldK Z.K c "cells":=fk8 CC al;have J3:FldK Z.K c "floor":=fk8 CC am;have Kb:FldK Z.K c "mark":=fk8 CC az;have Ku:FldK Z.K c "words":=fk8 CC aq;have J7:FldK Z.K d "floor":=⟨λ_ _=>⟨j.cl,ar⟩⟩;have Kf:FldK Z.K d "given":=⟨λ_ _=>⟨j.cl,ao⟩⟩;have Kj:FldK Z.K d "laws":=⟨λ_ _=>⟨j.cl,as⟩⟩;have Ld:=aA.of b;have Lp:=Y.of b;have KZ:=L.of b;have KO:=I.of b;have K9:=R.of b;have Lx:=ab.of b;have KF:=GD0.of (Z:=Z) u b;have Kg:=BR b D0;have JT:=y8 b D1;have KC:=Dt b D2;have Lu:=A5 b D3;have LX:=Fm b D4;have J5:=Fn b D5;have J8:=Du b D6;have JU:=BS b D7;have KP:=wx b D8;have Kq:=qD b D9;have Kp:=A8 b er;have K6:=xP b da;have Lv:=A9 b et;have ae:=uY b JW JX J3 Kb Ku eo;have L0:aM Z "Unlike" (c.A .Unlike) c:=ae.mke b D;have aE:aM Z "Sum" (c.A .Sum) c:=ae.mke b ap;have LZ:aM Z "Rising" (c.A .Rising) c:=ae.mke b C;have Mq:aM Z "Seen" (c.A .Seen) c:=ae.mke b ad;have Mb:aM Z "Count" (c.A .Count) c:=ae.mke b O;have LY:aM Z "Joined" (c.A .Joined) c:=ae.mke b o;have LE:aM Z "NoSquare" (c.A .NoSquare) c:=ae.mke b q;have Mp:aM Z "Ring" (c.A .Ring) c:=ae.mke b t;have eW:=Ba b Ku cZ;have Mn:Fk Z c:=⟨λi S=>eW.at (c8 CC i) (at8 eP i) λ_ _ _ _ h=>⟨i,h⟩⟩;have ek:=y9 b JX eb;have J1:kP Z c:=⟨λi S=>ek.at (c8 CC i) (at8 eR i) λ_ _ _ _ h=>⟨i,h⟩⟩;have dp:=xQ b JW bw;have Kt:uX Z c:=⟨λi S=>dp.at (c8 CC i) (at8 bX i) λ_ _ _ _ h=>⟨i,h⟩⟩;have dl:=Bb b Kb dK;have Ke:pH Z c:=⟨λi S=>dl.at (c8 CC i) (at8 ci i) λ_ _ _ _ h=>⟨i,h⟩⟩;have dm:=uZ b JX eF;have J4:j8 Z c:=⟨λi S=>dm.at (c8 CC i) (at8 cz i) λ_ _ _ _ h=>⟨i,h⟩⟩;have LV:=fk1 (k:=.Joined) rfl JX;have L6:=fk1 (k:=.Joined) rfl Kb;have ah:=kQ (c:=(mk1 c .Joined)) b LV L6 aF;have L9:ji Z (mk1 c .Joined):=⟨λi S=>by cases o8 S;exact ah.at o.cl (at8 aC .Joined) λ_ _ _ _ h=>⟨.Joined,h⟩⟩;have Ma:=fk1 (k:=.Ring) rfl JX;have Mh:=fk1 (k:=.Ring) rfl Kb;have ax:=kQ (c:=(mk1 c .Ring)) b Ma Mh aF;have Mm:ji Z (mk1 c .Ring):=⟨λi S=>by cases o8 S;exact ax.at t.cl (at8 aC .Ring) λ_ _ _ _ h=>⟨.Ring,h⟩⟩;have cr:=kQ b JX Kb aF;have Kl:ji Z c:=⟨λi S=>cr.at (c8 CC i) (at8 aC i) λ_ _ _ _ h=>⟨i,h⟩⟩;have Lr:=Bc b LL KN ep;have dT:=wy (c:=c) b J7 en;have Ki:pG Z c d:=⟨λi S=>by cases i;exact dT.at j.cl Mw λ_ _ _ _ h=>h⟩;have dy:=wz (c:=c) b Kf bT;have Mc:Cw Z c d:=⟨λi S=>by cases i;exact dy.at j.cl Mx λ_ _ _ _ h=>h⟩;have ez:=wA (c:=c) b Kj ff;have JY:kO Z c d:=⟨λi S=>by cases i;exact ez.at j.cl My λ_ _ _ _ h=>h⟩;have cV:=rj (c:=c) b Kf eU;have LA:uh Z c d:=⟨λi S=>by cases i;exact cV.at j.cl Mz λ_ _ _ _ h=>h⟩;have Kh:=wB b dk;have Ko:=za b fe;have Kx:=xR b es;have JZ:=tO b Kg fc;have J0:=Fo b KC cW;have Ls:=Bf b KC eO;have KD:=Dv b LX J5 ew;have JR:=BT b J5 cL;have LQ:=Dw b Kg JT ea;have LN:=Dx b Mn KF eT;have JS:=Fp b J1 ch;have Ka:=BU b J5 eh;have LF:=BV b J1 ej;have L1:=Fq b J1 eV;have Kz:=tP b Kp eE;have K1:=wF b JT Ki JY J1 cQ;have ev:=wG b J4 cR;have bz:=Bi b JW J4 cY;have eB:=wH b J4 fb;have eS:=zd b JW J4 dS;have di:=xS b JW Kl eM;have Kc:=u6 b Lr bV;have Kn:=ze b Kg JT fi;have K5:=xT b Kx fg;have LG:=BW b JZ Le K4 Lf bU;have Kk:=Dy b Ls JT Lu el;have J9:=Dz b J0 co;have JV:=BX b KD eQ;have K2:=Fs b KD dQ;have Mr:=HB b JR ca;have LO:=DA b JZ eN;have KG:=u8 b JR cu;have Lg:=zg b JR eY;have KR:=wK b Kq JS JR cy;have La:=xU b J8 JU JS JR Kt dx;have L3:=Fu b J0 cv;have Ll:=zh b J0 dP;have Lj:=zi b JS JR J1 eK;have K3:=wL b LN JY eX;have Lq:=fk1 (k:=.Ring) rfl J3;have av:=oQ (c:=(mk1 c .Ring)) b J0 Lq fh;have LD:mX Z (mk1 c .Ring):=⟨λi S=>by cases o8 S;exact av.at t.cl MJ λ_ _ _ _ h=>h⟩;have Kv:=wM b Kc fj;have Lh:=zj b JT Kc cO;have LR:=DB b Mb LY LE Mp LZ Mq aE L0 ed;have KK:=u9 b Kn dU;have LJ:=BY b Ko K5 LT LC LB LM eg;have J6:=Bm b JV eu;have KQ:=wO b JV JS bx;have KH:=va b LO Ka JU JS J1 bQ;have KS:=wP b LF L1 KG Lg bA;have Ky:=tQ b Kk dV;have Km:=m8 b JV LQ eA;have Li:=zk b JV JS dv;have KU:=wQ b Kk dZ;have K7:=xV b JV JS J9 J5 Ke eH;have LW:=fk1 (k:=.Joined) rfl J3;have af:=kh (c:=(mk1 c .Joined)) b J9 LW bu;have LU:k9 Z (mk1 c .Joined):=⟨λi S=>by cases o8 S;exact af.at o.cl MD λ_ _ _ _ h=>⟨.Joined,h⟩⟩;have aw:=kh (c:=(mk1 c .Ring)) b J9 Lq bu;have L7:k9 Z (mk1 c .Ring):=⟨λi S=>by cases o8 S;exact aw.at t.cl MK λ_ _ _ _ h=>⟨.Ring,h⟩⟩;have ds:=tR b Lv Kk J3 Kl dO;have LH:=BZ b JT Lh KO ec;have KL:=vb b LG eL;have Kw:=sS b KP KQ KR KH KS Mc Ki JY eZ;have KJ:=vc b Ka J6 JU JS Kt Ke cn;have KA:=tS b J6 JU Ky Ke dM;have KI:=vd b Km JS J9 J5 Ke cx;have KW:=wS b L3 J0 JV Ka J6 JU Ke eq;have K0:=wT b Li Lj K6 K7 KU Ll Ki JY cU;have ag:=wU (c:=(mk1 c .Joined)) b LU L9 dN;have ay:=zl (c:=(mk1 c .Ring)) b LD L7 Mm eG;have Lc:xO Z c:=⟨λi S=>by cases i with | Rule=>exact(Nc S).elim | Unlike=>exact ev.at D.cl MA λ_ _ _ _ h=>h | Sum=>exact bz.at ap.cl MM λ_ _ _ _ h=>h | Rising=>exact eB.at C.cl MC λ_ _ _ _ h=>h | Seen=>exact eS.at ad.cl MI λ_ _ _ _ h=>h | Count=>exact di.at O.cl MH λ_ _ _ _ h=>h | Joined=>exact ag.at o.cl ME (λvs H Q E h=>by obtain⟨r,p,f,ws,cs,xs,n,m,h,w,g,e,x,y⟩:=h;exact⟨r,p,f,ws,cs,xs,n,m,h,w,g,e,⟨rfl,x.ex⟩,y⟩) | NoSquare=>exact ds.at q.cl Mt λ_ _ _ _ h=>h | Ring=>exact ay.at t.cl ML (λvs H Q E h=>by obtain⟨r,p,f,ws,cs,xs,n,m,h,w,g,e,x,y⟩:=h;exact⟨r,p,f,ws,cs,xs,n,m,h,w,g,e,⟨rfl,x.ex⟩,y⟩)⟩;have Lz:=Bn b LH Kv LR K8 K9 Lx eC;have KY:=wV b J8 JU JS JR Mr Kz Kp Ly Lc bR;have Ks:=qE b KI KA KW Ki JY eD;have Lo:=zn b Lz Lm ey;have bB:=wW b Kn J7 Kj LA Lc db;have Mf:Cz Z c d:=⟨λi S=>by cases i;exact bB.at j.cl MF λ_ _ _ _ h=>h⟩;have Kr:=qF b KJ La KY JY ee;have cP:=sW b KK KL Lo J7 Kf Kj eJ;have L5:lS Z "Puzzle" (d.A .Puzzle) c d:=cP.mke b j;have LS:=DC b Kw Kr Ks Lp KZ cd;have LI:=B0 b K0 LS em;have KM:=ve b K1 J8 LI JR K2 bv;have Lb:=xW b KM K3 Ld aP;have Md:=Gh b J8 Lb K2 aR;exact(Jh b Kh Ko LJ Md Mf L5 Ld F).imp λvs H Q E h=>by obtain⟨a,ns,e,hS,hn,T9,k⟩:=h;exact⟨a,ns,e,hS,hn,λk hk=>by cases k <;> first | rfl | exact absurd rfl hk,rfl,T9,k⟩
def walk {q:Program} {c:List Str} {B:(Str->Option Value)->Heap->Prop} {m:World->Heap->Prop} {d:DefRec} {K:Params->Frag} {c0 g:Addr} (y:l.most=some 63) (i:d.params.defaults=[])
  (C:∀(w:World) (h:Heap),m w h->(K w.params).In h/\h.get? g=some (PySem.W.tabObj #[])) (D:∀ w:World,PySem.W.tabIn (K w.params) "_law_row"=some (c0,g)) (r:∀ w:World,CdP (K w.params) c0 g) (A:∀ w:World,(K w.params).lookup g=none)
  (F:∀(w:World) (e:Str->Option Value) (j:Addr) (h:Heap),(K w.params).In h->h.Ns mainGlobals e->e d.name=↑j->
   ∃ o:FuncData,(∀(s:Shared) (u:Value),BindsTo s o ⟨[u],[]⟩ [("_law_script",u)])/\∀ b:Heap,(K w.params).In b->b.Ns mainGlobals e->b.BuiltinsAt e g->FnOk l.prog w (K w.params) e b CX0 13 j o ["_law_script"] (xM (K w.params))):
  PySem.W.WalkO q c B m l.row.toRowW d [] (λf vs=>PySem.call f vs):=
 L2.F3 (n:=63) (k:=13) (x:="_law_script") (CX:=λ_=>CX0) (sp:=λw=>xM (K w.params)) (c':=c0) y #[1] i ⟨rfl,by decide,by decide⟩ C A (λw h X=>(r w).tab X) F (λw _ a ns t p v=>⟨a,ns,rfl,v,t,by rw[Cq (D w)];exact p,λ_=>rfl⟩) λ_ _ _ _ _ z=>z
variable{P:Program}{w:World}{K:Frag}{mg:Str->Option Value}{base:Heap}
def tT {w:World} {K:Frag} {p:Addr} {ep:Nat} {o:Int} {ai:Tok} {T:Addr} {M:Option Addr} {ar:Nat} {R:Array (Option Value)} {k:Tok} {L:Int} {aq:Tok} {E:Addr} {U:Option Addr} {ap:Nat} {S:Array (Option Value)} {d:Tok} {m:Int} {aa:Tok} {J:Addr} {t:Option Addr} {ah:Nat} {v:Array (Option Value)} {h:Tok} {O:Int} {ak:Tok} {D:Addr} {A:Option Addr} {ao:Nat} {y:Array (Option Value)} {c:Tok} {C:Int} {ag:Tok} {G:Addr} {N:Option Addr} {ac:Nat} {B:Array (Option Value)} {i:Tok} {Z:Int} {af:Tok} {Y:Addr} {n:Option Addr} {ab:Nat} {P:Array (Option Value)} {l:Tok} {r:Int} {am:Tok} {H:Addr} {Q:Option Addr} {al:Nat} {X:Array (Option Value)} {f j:Tok} {W:Int} {ae:Tok} {s:Addr} {u:Option Addr} {ad:Nat} {q:Array (Option Value)} {g:Tok} {z:Int} {av:Tok} {I:Addr} {x:Option Addr} {as:Nat} {F:Array (Option Value)} {e:Tok}
  (a:nsIn K mainGlobals "RULES_OF_KIND"=some ↑p) (b:K.lookup p=some ⟨.type "dict",none,.dict #[⟨o,.str (tx s!"only") ai,.ref T⟩,⟨L,.str (tx s!"place") aq,.ref E⟩,⟨m,.str (tx s!"count") aa,.ref J⟩,⟨O,.str (tx s!"step") ak,.ref D⟩,⟨C,.str (tx s!"sum") ag,.ref G⟩,⟨Z,.str (tx s!"square") af,.ref Y⟩,⟨r,.str (tx s!"reach") am,.ref H⟩,⟨W,.str (tx s!"turn") ae,.ref s⟩,⟨z,.str (tx s!"pair") av,.ref I⟩] ep,#[]⟩) (k0:K.lookup T=some ⟨.type "tuple",M,.seq #[.str (tx s!"unlike") k] ar,R⟩) (h0:o=hashStr w (tx s!"only")) (k1:K.lookup E=some ⟨.type "tuple",U,.seq #[.str (tx s!"unlike") d] ap,S⟩) (h1:L=hashStr w (tx s!"place")) (k2:K.lookup J=some ⟨.type "tuple",t,.seq #[.str (tx s!"count") h] ah,v⟩) (h2:m=hashStr w (tx s!"count")) (k3:K.lookup D=some ⟨.type "tuple",A,.seq #[.str (tx s!"rising") c] ao,y⟩) (h3:O=hashStr w (tx s!"step")) (k4:K.lookup G=some ⟨.type "tuple",N,.seq #[.str (tx s!"sum") i] ac,B⟩) (h4:C=hashStr w (tx s!"sum")) (k5:K.lookup Y=some ⟨.type "tuple",n,.seq #[.str (tx s!"nosquare") l] ab,P⟩) (h5:Z=hashStr w (tx s!"square")) (k6:K.lookup H=some ⟨.type "tuple",Q,.seq #[.str (tx s!"joined") f,.str (tx s!"ring") j] al,X⟩) (h6:r=hashStr w (tx s!"reach")) (k7:K.lookup s=some ⟨.type "tuple",u,.seq #[.str (tx s!"ring") g] ad,q⟩) (h7:W=hashStr w (tx s!"turn")) (k8:K.lookup I=some ⟨.type "tuple",x,.seq #[.str (tx s!"unlike") e] as,F⟩) (h8:z=hashStr w (tx s!"pair")):GD0 w K "RULES_OF_KIND" gd_RULES_OF_KIND:=
 ⟨p,_,_,_,a,b,⟨rfl,rfl,rfl⟩,rfl,(.cons h0 k0 rfl rfl (NU (aC (N7 rfl))) (.cons ⟨_,rfl⟩ .nil) (.cons h1 k1 rfl rfl (NU (aC (N7 rfl))) (.cons ⟨_,rfl⟩ .nil) (.cons h2 k2 rfl rfl (NU (aC (N7 rfl))) (.cons ⟨_,rfl⟩ .nil) (.cons h3 k3 rfl rfl (NU (aC (N7 rfl))) (.cons ⟨_,rfl⟩ .nil) (.cons h4 k4 rfl rfl (NU (aC (N7 rfl))) (.cons ⟨_,rfl⟩ .nil) (.cons h5 k5 rfl rfl (NU (aC (N7 rfl))) (.cons ⟨_,rfl⟩ .nil) (.cons h6 k6 rfl rfl (NU (aC (N7 rfl))) (.cons ⟨_,rfl⟩ (.cons ⟨_,rfl⟩ .nil)) (.cons h7 k7 rfl rfl (NU (aC (N7 rfl))) (.cons ⟨_,rfl⟩ .nil) (.cons h8 k8 rfl rfl (NU (aC (N7 rfl))) (.cons ⟨_,rfl⟩ .nil) .nil))))))))),by decide+kernel⟩
end L2
end
open PySem PySem.W PyProof.Rows
namespace PySem.W.Fast
theorem Z:True:=⟨⟩
section
local macro_rules|`(universe $x*)=>do return Lean.mkNullNode (<-x.mapM fun x=>do return (<-`(theorem $(Lean.mkIdent (.mkSimple s!"tw{x.getId.toString.foldl (fun n c=>n*62+if c<'A' then c.toNat+4 else if c<'a' then c.toNat-65 else c.toNat-71) 0}")):ident:True:=Z)).raw)
universe ODGD8PxZTIc Hw8dqk9OF9L K2AaGwZ9TCI NAQMp7FwbqC EJvVpEG6oLa LvNv1MW5qvH D6vUYteCEA6 QFosj2Kp4ti HCgwy1Foa35 TmhkJRxEVp2 HmmZWMZwEeU V3T2cWpucvk VXcn0I2hN4M OiNdSMPobEp InhERp1GEyG KCEeTgIWydg TGg8HpwbHOn Ixh3RjtwALm DcdzzyTpXxM GQvzQ4qQckN JjrW5b68qUi DM78pQVfC5S O0pBEzAOvwl DwLu9aL1NBQ MqQwYr0EB80 L5fwlqvcIRM GCv3ONvi752 Chkxnud6kDc Js7GgesRBq8 JUaFGs14POl Q3zO5slQ3df PHR7upukdte HsXoXIaAGbP OJF75em64SG M9i3lzlxxho NL72gtWIeIT FrpH0gjXgv0 DSsUCD2XcKW URxNFtP5rHZ HXza0F2xued KlQrv3ZO7vA VqR1H2vH8kD Da6EJrZd87F Lk8mPqKUeNV K2kPz7HggUY BuwahYBO8gH IV1NXCWjrEs SpRqBvnsQ0d Ar9Z1s3KHk6 Eg9Yw4NMIfo OGI0ZVPMrBB HS75e4uXP2t Re6L3h552OR GPBRIBx8tku Dgq3ESm6hmg Vzc3qjrPXDl BZzDQTwolEu GrXD1y8DEzl Qox002rD4Kx QUEQpCfMjIK SAdmNswmdvF LcFK3b3PrhS CRs1vf4G9LM Uq9uB9ldeLT PkGbepuHHoZ HR492D4BW3D N3ZG6B1j4CU J9wSdaKy14s OftPZvGQ7aH Tse9OigVmtA ObZRLjOHzmO RR2ZtQ9YZxO GtohaEHgLPH GFnTEYLGL7t I4NPpZg7emA DINoqI0VUcB NEx9RiVRl1y BHhetbRiqox ROaYySWCKcR HnpoqukNpVV R8vZikDRyo7 CwOhPNxJXe5 FAlQnLS87ym Ptgj4FHNlr0 AyuKOgevDQG FxEnWOH6Izu MsqBfJem1AA D1kWMVd4OIL UkaZ52kVqJl UOXyP0H6rGm FyKUbHE102k Ed2lafeF0eJ LwJc4EofwBv HqryUt7ta49 A29usnwGqqg Jh5JZHyMUi0 ORRb1qIj5cx EAo8hpfefCJ AkNRf8HwKla ODvtDs9shX0 JkbxfuJytUJ RoGBIuVgRsB DFLWtR4csJc Rij2lJZm2Wl IHUqPtlCz2N Ra3oRtbeHYU CnnIlbR501h Mfd9pyUYEGp QwG0b41UDG8 UmAMNzherxu GCUlIipGIen Lei2nCzYcm5 M6OrtzOgTy1 ArOIGc6LFUp LsTCOXYkS5c Jj9B9smztaF JTzSSr91yLl IXA4soEgTv2 TNaX7akAXt2 Pi2l2OjFLTL JPyfkWqbfj1 K0sFmsCNstD BQu0sz6ASE9 AvjLFdjaZpR PkDHN7Y3hD7 HNXn753ODij IPB5xslUn7E LyitTSDvofo NVd1eFJlM2p IJAGnenyDpu DN7D2hsCkqG UKyXE2jqoj0 LCoz26lzegZ MmksQdZPBmw ANodE0gMz3H UCNZddJF4p9 Cl7eUZU2rsp QgVVGaCPUqs VsxxuY2pWcd U1yJiGCwL1t OD3qHjfJiAR Cln8FMtKAfa G9H1HRHn6ld IIm4qP0ASV4 Nzdlk9KeVSR SAq5WFKrLce KiIXLSTrRvt GrPYjIUP20d OIGETH91Bwp EckUodB4Qoz EqXbHjY29oL I63WgEc3yaC SPz4apRsnAp UjBmON1HlQz LTeUihzkSD5 As8H5cLPFWO IHN4WtCx5QE KcrcusxtVan UXQj2H3o0PD VSP21aksQf4 VZL8AWyjKX0 SulNlPi84r2 LEwop9AAVP8 LvJ5XGkMV4m P4FtSbYF8JF GwTFDuEcBY4 OJcPjp1Xuod CCYMeXP5YUp O4tS3E7VKMT CNCyOhbTWJf MlucdyMM9rW OkIjkJSQltG D0XFxcTr1eY S6bLNQ57iEw MLVjjjd3WjI VAP3CwWXLIf UkLy3mJkq1y P37iuqaiSHL DSpytgBVZ0R UTRtvGEvCtm UTgLX8x3f8d UMYgZno1oAt Mwo1fZQnky7 RWm0zI0zpFf S5JE9JMUfgr QLxodkfa84n IDVFN67oq8M SazIzXrE4HE FJJUXjcT7Fk Uk8udEmUy3f KKW2hq3dU7z BjgqVkThTd9 RZzQFwVt43K UmPgN5OtrW7 Ak26Qo2Ib9d HWoJwv0LdC4 PVu37abH5jE LZ6kkMYQ5Ec EYwWcB1bzMP Mf8hRo73s62 KG7d97lneuM UDigkrPERIa TXT9g2gpWD2 ElhNFzfOEnu EKkYhtRb7xC RdTAc98STvT SGfCAn7xWvS DmQBqc12DIH TuKKa0xy3wL PYnDTkVpZWe C7nqLEYHjY3 SprIiQssFMp UexyWfQ0GT3 AJjCkTA3N7T UHIjCVtKiJI MnNQ6qBBjjM HmiqEA8E3ir U8uJnqXlB88 LS08hvQYH35 NygxeSzl3HK AtU5W8SM80F VdBw5HyjSKD QfDXHzpnFTD SRKRZ19bLZi NyfBekezxjo SnLsBPJcxPm JL2qtyeFYbM IQkNnSF3ni9 SSyifgtCv6b FcxCqhBCBSJ V0TnOr80ggQ GHdNhGUA22L NrSqGqICdhU Tr8he5Rzew2 KgEAZ40o3yQ D081m7stV4i MbcPMphYUTT LHaZ3rL5vtr MELDtuPOjlP LUN8YWCRVXt S58VlT6cDXI OvKbUGnMqzg DFt9QWwKZFl Ph29NtLxmf1 SdjMiJvtpFS EcR02poKFp6 HjYS2ptsvkH Hc2gwloqJg7 VthzI7ibrtE QJwcFc5EydF I7h07AS8zSN QioFOBpSKep GQ5AB3AdBSW GtCD9Vl8ZAO NVXJdO8QvDC PWGDoIx4tMO E8p2eYjue39 Npcb2CkZHqs PNWEN3bn5H5 R7kekmcXPnJ JNHqjO2u0Vp V0O6ojBVWmt OvYJTqfQ2bn NqzAey6Frx6 LN7dViA5xhi VQKoRxXwtzB PG0eSJ7qY5A AsMmNf1xXaQ Ua1c3mU6qjI Rr4BLa25KRV LYniYgAq1JR UGbKeu5HmGp BRjBZ4UwtzQ L9L3V9Wpqk7 BMC6XiLosft HdFF1EPVq13 FCBLyKrZEwx VN40ibajZIQ Ku118V3Ktf0 RdFVFjitlT9 HFdViV445vh PrhqWB912LB GMS9R1Q0Pzk S9GDIZICatU PvJ2yi1b9OV UHuc8UNlGeI Vnz9pHZX10W PbV7a3umIfe Dch0eMz5nvr UBK6R17ILki A9LAm1ZyxfV QBROCoOiA5E LtyuQeG8HOm R2z3WWd5XRe Rg2ADH0zwto LwAZxwLBHCp ABdshoSuyl0 EhWAI7nw74Z OoKBIq9xWl6 Atd2nLFuKPJ BnAg94bbPrd IZ1UNGZauc5 SGmWTbaf3bL MtnRBfld9AG IqBYmfxYasO ACnIwGSwQig V8G2gpvHnoc QhFpsd7LCS5 N9QRHWVoyUF PWq4SzwExOW Ei6km5fFWal PSYUQ5ajvXf LGPFxns0JNZ PBhh5b8RWiD Kdr4dOjBLqC Kfbe0lgCayp Ep7g9lIMG8t J0s4GDqXonh HxNnUstJtbt HPkPoj5CnE0 V2ArUtU0KNh UnLHodB7JjD T206UEcR88b MnPRM7qdzMJ FONOA8PwOzS MDjwo432pSh T7pComGd4d0 ArQP95EafBv UfuDogycOXm CboKh27Ezli N3B4rODsp96 EkjFeRXTkPo KhQiNs7z02y G913TvS2NVO L5NxcHRfKOx DFkucxT0At9 NXbhdUtUfei VOClfpz2QQL PvQEJE9ljZ8 JBdUB509RCs U8GKQ2cYQai UIwU8nqwE9Q R14tDfUmKl9 MWJIhNUP6lm H65BF9lq77z ANNSzqk53JL IgM4FK2SFLM Qw7FR0ckYgi NDMJdMpO3Ne P7JSGD5uKZu IxnZehSvO8d RB5SA2y5CWs Ml58tMkWxKL VL5V0yNdLQW HoZ4yq8zCV6 LgrYIGlQ2Oq PElqqYSlj12 UMaLKTHbuDw GEKOiQWfWld Iy2ylUOEx0l DolZiAPb33W SBvMc7luNUB GTk0ixBQeiU VXisgSElEvh HpKa1XwKiXp Ujc0zfQwKjX MunoFVZqBZS SB3znZI6tl8 OA2wMJcEm8J GufSnR1Til0 ANctMFAhdVa IhUhgs6mGwa Dh9Zgl6sDhl Oqn5TE8kXRH CYxcrjikoOC G2BFiLFxupp Ew6rWqmq2AY CxQceDIWOGD PJsUhYAnL4e DMT3ucYk7pa L1k51RYAIfi NlpvL3tRd4h MPMQl2BsB0r AIa4cQ6DOUY PtFfIr0P9jc StuiztoVtvE FlKq4wzKWVB KOgrS9SG7X1 PWozNrhYut4 RPWJaWrUFJr IQzaikj0avY MIgGQmGZuQn BmtXZP0pJty EIoI5oJzdI5 BMBtv1oleqP MM0hKRmLiqs LwXa01RhFtW GwIHjyIOENP OfvB3UrL86H DZ1LtrWKIm3 StRYwGiafFZ RtWM8wUL0n3 AfoJEzVCOcQ JO6yLAmshXq KIX5ds9GfbD LuNiytIMDwY O0Qksl5yDER PC6jHq2jWD5 JSs2khFqFdK LWane5XdbWy RxRlV8cwzae BJLygAfk2KB SZdfghCxP7P T6EXofkLF8a JTkZYkJm0RY Exw5Nw6gITt FYPcnY2OMRw McbpRsaii2k Lc94X1MIc1C CBF4mOjrJU6 BlSOP36rr9a HTwxE48OnuR LWPkIyD3QRL S9CLXAGhus0 REfx4m0twaz SGFquMY8UBi RWHdX4qZdI1 UGbsM1NBvIo Bq74jMC2ZVm PMKJf8uRU08 VQC8HM5TkVT HhhQ32roVq0 L9VsYNd0sLi JI9AQhYvI2X TZImCFDNrA2 IE1w50iPIk7 I2s2VgLJSRX Soe2yVnjnmB Bg54lwIEaOM S7I4ML3aERZ LVeNpjOLqxQ QXfJvIZBGik FN8Z96vKYXM LoULzB8acIe Phkv7tYR44v H2N9HQiRzSA TRKvMttAHYJ C1eu4aXrpLK D78oTMKcNJh KO9rBWLFAoY SUR5UqFVY51 QW2LVhv9N13 HzvBpRlnEHv U30mYbUIcSs GuP5t8D6ehv EJ6llDsmno5 SZFWjIE4ZmH DzqShMqtj7t UPKv49ckEws Lu4cu6O23eg UQ1XTJrKZoi RXMgat5c0SA HBdkoEc1IY2 KXSNv3dB2cR QgejVi9D01l DlsAHsc69Jx DVAtRJa9fmP GMbIUbvfHzg IMUOmp9iH1Y DJ4eMTBvwMS A34CZZgApMn VpKYQVm9pKc LpAAOYejsc6 KLik00ItrB5 Iw6SCm0O1Yp HoZl91x7WiL JjVbVQiVmks UmOZ17ZzWaG PJoukqNBkcs ON8fDkqkthl II4X7ADmBcJ OymAG0aj2pj KhGYdGdRiEG LCZ9Yi3O61B TXVBCH1JhXl CkNfmp1Akuv BnEONQWN3YJ BSWiofHE90B DN8wwTDwQuo HhMgMflV5NE RPq0CzclfhD UkBEQsNnVA3 RApunoCjA6f LcBH1Pzve8f BkbI7QHky45 LGc7GR612ao KDrWRy49XWn GaBvGBn3Cjx USY5lF9xjcA SPtJz37hKyr O81SrKbrMph ITpCcjDbI8r AX3cp4vodaf Ckuuxdhrf59 BItG7t3Uygc VBt8Z3oUNVe FJAd8BeHKI9 EFLm5h90Q1N By9Evdpw4L0 F1jDfy8wACD MQmenFGh6FS U1rJScnghLm Q5KwS7GvGRE LOLtLZf7msX QKPpsPf41Rx S1ZOas58UB5 OOAz6EobRkv QenDTf9wHrT M84wP39nORl BUxDI7zFr4k IBMy6ERgwIO AEe4SqhICWk KiTP6L0iGIK Pj9tdqE2dFi PvxDcsWtm6o KXfkxX7Fpvz J83KfNP8KDT UPVJLiUdicQ ULY5P0om5NE EWnUjZ7aOXd EmKL348ssYs Qc4TuLrOG5d LP78xgnE3pi OMLXoyuQ6x9 UmLEDumutPS GqCicVBS1Fm OY0Esx6yb0K ONYVQhriXZU MLjpxAK5bDX ObKDQlCPRr4 Hk8nBDxJKns A5i1xM6ScIH Cl9cz7ke5Y7 Bldw2oJmb09 OpxYDQCtDbz Ae9Ph3nM8wY SOgIpO5GpOu ODNutnkvhHb
end
end PySem.W.Fast
set_option maxRecDepth 100000 in
set_option maxHeartbeats 0 in
theorem PySem.Challenge.cw_cluemaker_k53_whole_thinking_keeps_answe_holds : PySem.Challenge.rw_cluemaker_k53_whole_thinking_keeps_answe.Holds := by
  w_on; o_law; k_head; (case hw => w_witness2)
  k_fill
  refine' L2.walk (l := PySem.Challenge.rw_cluemaker_k53_whole_thinking_keeps_answe) (c0 := _) rfl rfl (fun w h Y => ⟨Y.1, Y.2 _ (List.Mem.head _)⟩) ?T ?C ?L ?F
  case T => intro w; (refine' L2.AO ?a ?b ?e ?l ?v; (case a => k_is); (case b => k_is); (case e => rfl); (case l => k_is); case v => rfl)
  case C => intro w; (refine' L2.CdP.mk' ?a ?b ?d ?e ?f ?g ?i ?j ?k ?l; (case a => k_is); (case b => rfl); (case d => rfl); (case e => rfl); (case f => rfl); (case g => rfl); (case i => rfl); (case j => rfl); (case k => rfl); case l => decide)
  case L => intro w; first | k_is | rfl | decide
  case F =>
    intro w mg fa h KX G hmg
    refine' L2.Ji KX G hmg ?_ ?_ ?_ ?_ ?_ ?_ ?_ ?_ ?_ ?_ ?_ ?_ ?_ ?_ ?_ ?_ ?_ ?_ ?_ ?_ ?_ ?_ ?_ ?_ ?_ ?_ ?_ ?_ ?_ ?_ ?_ ?_ ?_ ?_ ?_ ?_ ?_ ?_ ?_ ?_ ?_ ?_ ?_ ?_ ?_ ?_ ?_ ?_ ?_ ?_ ?_ ?_ ?_ ?_ ?_ ?_ ?_ ?_ ?_ ?_ ?_ ?_ ?_ ?_ ?_ ?_ ?_ ?_ ?_ ?_ ?_ ?_ ?_ ?_ ?_ ?_ ?_ ?_ ?_ ?_ ?_ ?_ ?_ ?_ ?_ ?_ ?_ ?_ ?_ ?_ ?_ ?_ ?_ ?_ ?_ ?_ ?_ ?_ ?_ ?_ ?_ ?_ ?_ ?_ ?_ ?_ ?_ ?_ ?_ ?_ ?_ ?_ ?_ ?_ ?_ ?_ ?_ ?_ ?_ ?_ ?_ ?_ ?_ ?_ ?_ ?_ ?_ ?_ ?_ ?_ ?_ ?_ ?_ ?_ ?_ ?_ ?_ ?_ ?_ ?_ ?_ ?_ ?_ ?_ ?_ ?_ ?_ ?_ ?_ ?_ ?_ ?_ ?_ ?_ ?_ ?_ ?_ ?_ ?_ ?_ ?_ ?_
    all_goals first
      | (refine' L2.AO ?a ?b ?e ?l ?v; (case a => k_is); (case b => k_is); (case e => rfl); (case l => k_is); case v => rfl)
      | (refine' L2.CdP.mk' ?a ?b ?d ?e ?f ?g ?i ?j ?k ?l; (case a => k_is); (case b => rfl); (case d => rfl); (case e => rfl); (case f => rfl); (case g => rfl); (case i => rfl); (case j => rfl); (case k => rfl); case l => decide)
      | (refine' L2.De.of ?a (L2.DU ?l ?c ?k); (case a => k_is); (case l => k_is); (case c => k_is); case k => k_is)
      | (refine' L2.Me.of (L2.DU ?l ?c ?k) ?n; (case l => k_is); (case c => k_is); (case k => k_is); case n => k_is)
      | (refine' L2.ClsP.mk ?a ?b ?c ?d ⟨?e, ?f, ?g, ?h⟩; (case a => k_is); (case b => k_is); (case c => k_is); (case d => k_is); (case e => k_is); (case f => k_is); (case g => k_is); case h => k_is)
      | (unfold L2.At8; refine' ⟨?_, ?_, ?_, ?_, ?_, ?_, ?_, ?_⟩ <;> k_is)
      | (refine' L2.GT0.mk' ?a ?b ?x ?y ?c ?d; (case a => k_is); (case b => k_is); (case x => rfl); (case y => rfl); (case c => exact Nat.le_of_lt (L2.aC (by decide))); (case d => repeat' (first | exact .nil | refine' .cons ⟨_, rfl⟩ ?_)))
      | (refine' L2.tT ?a ?b ?k0 ?h0 ?k1 ?h1 ?k2 ?h2 ?k3 ?h3 ?k4 ?h4 ?k5 ?h5 ?k6 ?h6 ?k7 ?h7 ?k8 ?h8; (case a => k_is); (case b => k_is); (case k0 => k_is); (case h0 => first | exact rfl | with_unfolding_all rfl); (case k1 => k_is); (case h1 => first | exact rfl | with_unfolding_all rfl); (case k2 => k_is); (case h2 => first | exact rfl | with_unfolding_all rfl); (case k3 => k_is); (case h3 => first | exact rfl | with_unfolding_all rfl); (case k4 => k_is); (case h4 => first | exact rfl | with_unfolding_all rfl); (case k5 => k_is); (case h5 => first | exact rfl | with_unfolding_all rfl); (case k6 => k_is); (case h6 => first | exact rfl | with_unfolding_all rfl); (case k7 => k_is); (case h7 => first | exact rfl | with_unfolding_all rfl); (case k8 => k_is); case h8 => first | exact rfl | with_unfolding_all rfl)
      | (unfold L2.Zn; refine' ⟨?_, ?_, ?_, ?_, ?_, ?_, ?_, ?_, ?_, ?_, ?_, ?_, ?_, ?_, ?_, ?_, ?_, ?_, ?_⟩ <;> (unfold L2.Nn; k_is))
      | (unfold L2.Nn; k_is)
      | k_is
      | decide
      | skip
