import PyProof.Rows.All
import Wide.All
import OpenK.AllK
import Wide.FinOn
import Lean
import PyProof.EqAt
import PyProof.EqKinds
import PyProof.TupleCall
import PyProof.ZipIter
import PyProof.ConsumeS
import PyProof.StrCalls2
import PyProof.StrWalks
import PyProof.SliceStr2
import PyProof.StrBlock
import PyProof.StrBlockL
import PyProof.ListIndex
import PyProof.StrLawsTight
import PyProof.StrLawsChain
import PyProof.StrLaws
import PyProof.StrLawsFirst
import PyProof.StationsW
import PyProof.ExcClass3
import PyProof.NsDelKeeps
import PyProof.RulesAs
import PyProof.ExcBaseAll.ValueError
import PyProof.ExcArgsOwn
import PyProof.ExcAttrAll.ValueError
import KE.KTryMore
import KE.RegKTryMore
import KE.RegKIsAll
import PyProof.Rows.Range3
import PyProof.Rows.SumGenD
import PyProof.Rows.RuleM_int
import PyProof.EnumMake
import PyProof.EnumFor
import PyProof.EnumStmt
import PyProof.Rows.EnumRows
import KE.KRevIter
import PyProof.ListNew
import PyProof.CollectIter
import PyProof.ListRange
import PyProof.CallStr
import PyProof.StrBlock2
import PyProof.Rows.StrMadeLen
import PyProof.Rows.SetFrom
import PyProof.SetRoads
import PyProof.MeetsStr2
import KE.KRevSl
import PyProof.Conv_int
import KE.KListMore
import PyProof.AutoSeq1
import PyProof.WalkInts
import PyProof.ExcInit
import PyProof.InstStoreFacts
import Open.Tops
import PySem.Challenge.RW_cluemaker_k75_a_desk_refuses
set_option Elab.async false
section
open PySem PySem.W PyProof.Rows
set_option Elab.async false
set_option maxRecDepth 100000
set_option maxHeartbeats 0
section
local macro_rules|`(universe $x)=>do
 let mut a:=#[`PySem.Challenge.rw_cluemaker_k75_a_desk_refuses,`PySem.Challenge.pw_cluemaker_k75_a_desk_refuses]
 for i in [0:1813] do a:=a.push (x.getId.str s!"o_{i}")
 for g in ["env 1","sts 4 21 37 53 69 85 101 117 133 149 165 181 232 280 363 386 416 444 474 497 527 548 582 654 721 805 880 971 1030 1106 1177 1260 1338 1419 1495 1569 1646 1705 1764","tree 4 19 35 51 67 83 99 115 131 147 163 179 230 278 361 384 414 442 472 495 525 546 580 652 719 803 878 969 1026 1104 1175 1258 1336 1417 1493 1567 1644 1703 1762 1812"] do
  let l:=g.splitOn " "
  for i in l.tail! do a:=a.push (x.getId.str (l.head!++"_"++i))
 return Lean.mkNullNode (<-a.mapM fun n=>do return (<-`(theorem $(Lean.mkIdent (.mkStr4 "PySem" "W" "Fast" s!"tw{n.hash}")):ident:True:=trivial)).raw)
universe PySem.Challenge.s9
end
theorem H9.sa9 (h : PySem.Challenge.rw_cluemaker_k75_a_desk_refuses.row.wellSaid = true → PySem.Challenge.rw_cluemaker_k75_a_desk_refuses.row.Holds) : PySem.Challenge.rw_cluemaker_k75_a_desk_refuses.Holds := by
  w_on; o_law
  exact h (by assumption)
open_shared PySem.Challenge.s9 for PySem.Challenge.pw_cluemaker_k75_a_desk_refuses leaving 0
namespace H9
open PySem.Challenge
noncomputable abbrev p9 : Program := PySem.Challenge.pw_cluemaker_k75_a_desk_refuses
noncomputable abbrev r9 : PySem.W.OpenRow := PySem.Challenge.rw_cluemaker_k75_a_desk_refuses.row
noncomputable abbrev c9 : Code := Code.body (behindTheImports p9) s9.env_1
noncomputable abbrev o9 : Pos := ⟨0, 0, 0, 0⟩
noncomputable abbrev Sb (w : World) (os : OsState) : Shared := (⟨s9.tree_4 w.params, 15, {}, ⟨[]⟩, {}, 187, os⟩ : SharedT).abs
noncomputable abbrev Sk (w : World) (os : OsState) : Shared := (⟨s9.tree_1812 w.params, 1686, {}, ⟨[]⟩, {}, 2509, os⟩ : SharedT).abs
theorem obs9 {t : BT} {n : Nat} {l : Life} {as : List Addr} : ∀ {K : List (Addr × Obj)}, K.map (fun p => (Nat.blt p.1 n, t.get p.1, alive p.2)) = K.map (fun p => (true, some p.2, some p.2)) → as = K.map (·.1) → as.map (absHeap t n l).get? = K.map fun p => some p.2
  | K, h, e => by
    subst e
    rw [List.map_map]
    refine List.map_congr_left fun p hp => ?_
    have := List.map_inj_left.mp h p hp
    simp only [Prod.mk.injEq] at this
    obtain ⟨h1, h2, h3⟩ := this
    exact (abs_get (Nat.le_of_ble_eq_true h1) h2).trans h3
theorem pre9 (w : World) (os : OsState) : topGo treeTable p9 w 11 (some (Value.ref 6)) 12 ⟨boot_heap w.params, ⟨[]⟩, boot_drawn, boot_toks, os⟩ (topStub p9) = some (Sb w os, ⟨denote treeTable c9, c9, o9, [topFrame o9]⟩) := by kernel_rfl
theorem blk9 (w : World) (os : OsState) : segRun treeTable p9 w 11 (some (Value.ref 6)) 1 1 (Sb w os) (blockOf (behindTheImports p9) s9.env_1 c9 o9 [topFrame o9]) = some (.next, Sb w os, c9, o9) := by kernel_rfl
theorem fin9 (w : World) (os : OsState) : topRun treeTable p9 w 11 (some (Value.ref 6)) 2 (Sk w os) ⟨doneF .next, c9, { line := 1145, col := 0, endLine := 1168, endCol := 146 }, [topFrame o9]⟩ = some (Sk w os) := by kernel_rfl
theorem bod9 : behindTheImports p9 = s9.sts_4 ++ (s9.sts_21 ++ (s9.sts_37 ++ (s9.sts_53 ++ (s9.sts_69 ++ (s9.sts_85 ++ (s9.sts_101 ++ (s9.sts_117 ++ (s9.sts_133 ++ (s9.sts_149 ++ (s9.sts_165 ++ (s9.sts_181 ++ (s9.sts_232 ++ (s9.sts_280 ++ (s9.sts_363 ++ (s9.sts_386 ++ (s9.sts_416 ++ (s9.sts_444 ++ (s9.sts_474 ++ (s9.sts_497 ++ (s9.sts_527 ++ (s9.sts_548 ++ (s9.sts_582 ++ (s9.sts_654 ++ (s9.sts_721 ++ (s9.sts_805 ++ (s9.sts_880 ++ (s9.sts_971 ++ (s9.sts_1030 ++ (s9.sts_1106 ++ (s9.sts_1177 ++ (s9.sts_1260 ++ (s9.sts_1338 ++ (s9.sts_1419 ++ (s9.sts_1495 ++ (s9.sts_1569 ++ (s9.sts_1646 ++ (s9.sts_1705 ++ (s9.sts_1764 ++ [])))))))))))))))))))))))))))))))))))))) := by kernel_rfl
theorem run9 (w : World) (os : OsState) : topRun treeTable p9 w 11 (some (Value.ref 6)) (12 + (1 + (196 + (214 + (214 + (214 + (214 + (214 + (214 + (214 + (214 + (214 + (214 + (401 + (223 + (505 + (246 + (276 + (272 + (279 + (245 + (277 + (241 + (385 + (355 + (436 + (391 + (386 + (400 + (396 + (374 + (379 + (396 + (396 + (395 + (399 + (376 + (394 + (245 + (392 + (221 + 2))))))))))))))))))))))))))))))))))))))))) ⟨boot_heap w.params, ⟨[]⟩, boot_drawn, boot_toks, os⟩ (topStub p9) = some (Sk w os) :=
  go_top (pre9 w os) (piece_block (blk9 w os) (bod9 ▸ s9.chain p9 (behindTheImports p9) w os [] 2 _ (piece_nil (fin9 w os))))
noncomputable def q9 : Program := view p9 [258]
noncomputable def l9 : List Str := (p9.main.scope.names.map (·.1)).filter fun n => !(n == Str.ofString "law")
noncomputable def H1 (P : Params) : Heap := absHeap (s9.tree_1812 P) 1686 {}
noncomputable abbrev T9 (w : World) (os : OsState) : Shared := ⟨H1 w.params, ⟨[]⟩, {}, 2509, os⟩
section
local macro_rules|`(universe $x)=>do
 let mut p:=#[]
 let mut a:=0
 let mut o:=0
 let mut b:=false
 for t in (x.getId.getString!).splitOn " " do
  let c:=t.toList
  if c.head?==some 'o'||c.head?==some 'b' then
   o:=(String.ofList c.tail!).toNat!
   b:=c.head?==some 'b'
  else
   for y in c do
    a:=a+(if y.isDigit then y.toNat-48 else y.toNat-55)
    p:=p.push (a,if b then Lean.Name.mkSimple s!"boot_o_{a+o-3000}" else (`s9).str s!"o_{a+o-3000}")
 let mut k<-`([])
 let mut l<-`([])
 for (n,m) in p.reverse do
  let u:=Lean.Syntax.mkNumLit (toString n)
  k<-`((nat_lit $u,$(Lean.mkIdent m) P)::$k)
  l<-`(List.cons $u $l)
 return Lean.mkNullNode #[<-`(noncomputable def $(Lean.mkIdent `K9):ident:Params→PySem.W.Frag:=fun P=>$k),<-`(noncomputable def $(Lean.mkIdent `a9):ident:List Addr:=$l)]
universe «b3000 2 o4761 1 o2992 C71 o3159 1 o2992 1 o2996 3711 o3000 3711 o3004 3711 o3008 3711 o3012 3711 o3016 3711 o3020 3711 o3024 3711 o3028 3711 o3032 3711 o3036 37212111132121121211212112121 o3039 1212112121121211212113112121131 o3042 821211212112121121211212112121121211212113113111 o3214 1 o3042 11 o3046 372121111 o3050 37212112121111 o3054 372121131111 o3058 37212112121111 o3062 372121111 o3066 3721211212111 o3093 1 o3070 3731111 o3074 3731131111311131 o3077 13112121121211311212112121121211212113113112121 o3080 821211212113112121121211311311212111111 o3083 321211212112121121211212112121131121211311212112121112121 o3086 131131113113112121112121131121211311311212112121 o3089 121211212112121121211212112121131131121211311212112121131131 o3092 1111111111112121121211212112121131131131 o3097 1311311121211212112121121211212113113113112121131 o3100 1212111212113113113112121121211311212112121131 o3103 13112121121211212112121121211212112121121211311212112121 o3106 1212112121121211311311212113112121131131131131131 o3109 131121211212113112121121211311212112121121211212112121 o3112 13113112121131121211212113113113113112121131131 o3115 1212112121121211212113112121121211311212112121131 o3118 1311212112121121211212113112121111121211311212112121 o3121 1212112121121211212112121121211212112121 o3124 82121121211212112121121211111132121 o3127 121211212112121121211212112121131»
end
noncomputable abbrev Xt9 (s : Shared) : Bool := xlAt q9 [] s && recOk (RowW.records r9.toRowW) s
theorem lk1 (w : World) (os : OsState) : (staticsOk (importedModules p9.main.body) (boot_heap w.params) (H1 w.params) && namesBound p9 (H1 w.params) && gensDone (T9 w os) && laidKept (boot_heap w.params) (H1 w.params)) = true := by kernel_rfl
theorem lk2 (w : World) (os : OsState) : seen ((recsOf q9).map (·.name)) (ownsOf q9) [] { T9 w os with gens := #[] } = expectedOf q9 := by kernel_rfl
theorem lk3 (w : World) : (H1 w.params).bltView = bltViewBooted := by kernel_rfl
theorem lk4 (w : World) (os : OsState) : ((H1 w.params).keysOk (looseW q9 l9) ((recsOf q9).map (·.name)) ((litsOf q9).map (·.1)) ((clssOf q9 (looseW q9 l9)).map (·.name)) && (H1 w.params).accountedOkI (importedModules p9.main.body) && (H1 w.params).isNs mainGlobals && (H1 w.params).isNs builtinsNs && tablesOk q9 (H1 w.params) && Xt9 (T9 w os) && (if true then (T9 w os).gens.size == 0 else !leftWithCleanup (T9 w os).gens)) = true := by kernel_rfl
theorem lk5 (w : World) (os : OsState) : (tabsOk q9 (T9 w os), pinSeenD q9 (drecsOf q9) (T9 w os), plainSeenE q9 (looseW q9 l9) (T9 w os), plainSeenD q9 l9 (T9 w os), wideSeen q9 (T9 w os), clsSeenW q9 l9 (T9 w os)) = (true, pinGoodD (drecsOf q9), plainGoodE q9 (looseW q9 l9), plainGoodD q9 l9, wideGood q9, clsGoodW q9 l9) := by kernel_rfl
theorem cK9 (P : Params) : (K9 P).map (fun p => (Nat.blt p.1 1686, (s9.tree_1812 P).get p.1, alive p.2)) = (K9 P).map fun p => (true, some p.2, some p.2) := by kernel_rfl
theorem aK9 (P : Params) : a9 = (K9 P).map (·.1) := by kernel_rfl
noncomputable abbrev k9 : PySem.W.Hook := PySem.W.kHook K9 a9 aK9
theorem lk6 (w : World) (os : OsState) : k9.obs (T9 w os) = k9.val w := obs9 (cK9 w.params) (aK9 w.params)
theorem sz9 (w : World) : ((boot_heap w.params).isNs mainGlobals && (Array.mk [] : Array GenState).size == 0, (boot_heap w.params).objs.size, (boot_heap w.params).nsMap mainGlobals "__annotations__") = (true, 11, (some (Value.ref 6))) := by kernel_rfl
theorem ope9 : opening p9 = plainProg p9.main.scope.names := by kernel_rfl
theorem fen9 (s : Shared) : fenceModules? p9 s = some s := by kernel_rfl
theorem left9 : LeftO p9 q9 l9 Xt9 k9.obs k9.val 24156 :=
  LeftO.of_pieces (H₁ := H1) (boot_open ope9 (by decide) fen9) sz9 run9 (by decide +kernel) fun w => funext fun os => looks_pair (lk1 w os) (looks_pair (looks_pair (lk2 w os) (looks_pair (lk3 w) (looks_pair (lk4 w os) (lk5 w os)))) (lk6 w os))
noncomputable def d9 : DefRec := (fun x => ⟨Str.ofString "law", x.1, x.2.1, x.2.2, { line := 1145, col := 0, endLine := 1168, endCol := 146 }⟩) ((p9.theDef (Str.ofString "law")).get (by kernel_rfl))
theorem df9 : defOf q9 r9.name = some (d9, []) := by kernel_rfl
theorem td9 : r9.prog.theDef r9.name = some (d9.params, d9.body, d9.scope) := by kernel_rfl
theorem kw9 : kwWritten? d9.params.kwonlyargs d9.params.kw_defaults = some [] := by kernel_rfl
theorem ok9 : (chainsOk q9 && opensWell r9.prog && (frees r9.toRowW && r9.within.isEmpty)) = true := by kernel_rfl
theorem wi9 : PySem.Challenge.rw_cluemaker_k75_a_desk_refuses.row.toRowW.promised := by w_witness2
theorem t9 (walk : WalkO q9 l9 (XL q9 []) (PySem.W.kHook K9 a9 aK9).says PySem.Challenge.rw_cluemaker_k75_a_desk_refuses.row.toRowW d9 [] fun f vs => PySem.call f vs) : PySem.Challenge.rw_cluemaker_k75_a_desk_refuses.Holds :=
  sa9 fun said => holds_open (r := r9) (Xt := Xt9) (XP := XL q9 []) left9 k9.of k9.keeps (fun s e => xl_of s (Bool.and_eq_true_iff.mp e).1) XL.keeps df9 td9 kw9 (fun s e => recFacts_of (Bool.and_eq_true_iff.mp e).2) (by rfl) said ok9 ⟨rfl, rfl, rfl, rfl, rfl, by decide +kernel⟩ wi9 walk
end H9
end
set_option compiler.extract_closed false
set_option Elab.async false
set_option linter.all false
set_option maxRecDepth 100000
open PySem.W (Frag nsIn findIn fnOf isFn codeIn keepIn)
set_option maxHeartbeats 40000000
namespace O9
section
variable{A B C D E F I J:Type}{G a b c d e f g i:Prop}
theorem ex1{P:A->Prop}(h:∃a,P a)(k:∀a,P a->G):G:=h.elim k
theorem ex2{P:A->B->Prop}(h:∃a b,P a b)(k:∀a b,P a b->G):G:=h.elim fun a h=>ex1 h (k a)
theorem ex3{P:A->B->C->Prop}(h:∃a b c,P a b c)(k:∀a b c,P a b c->G):G:=h.elim fun a h=>ex2 h (k a)
theorem ex4{P:A->B->C->D->Prop}(h:∃a b c d,P a b c d)(k:∀a b c d,P a b c d->G):G:=h.elim fun a h=>ex3 h (k a)
theorem ex5{P:A->B->C->D->E->Prop}(h:∃a b c d e,P a b c d e)(k:∀a b c d e,P a b c d e->G):G:=h.elim fun a h=>ex4 h (k a)
theorem ex6{P:A->B->C->D->E->F->Prop}(h:∃a b c d e f,P a b c d e f)(k:∀a b c d e f,P a b c d e f->G):G:=h.elim fun a h=>ex5 h (k a)
theorem ex7{P:A->B->C->D->E->F->I->Prop}(h:∃a b c d e f g,P a b c d e f g)(k:∀a b c d e f g,P a b c d e f g->G):G:=h.elim fun a h=>ex6 h (k a)
theorem ex8{P:A->B->C->D->E->F->I->J->Prop}(h:∃a b c d e f g i,P a b c d e f g i)(k:∀a b c d e f g i,P a b c d e f g i->G):G:=h.elim fun a h=>ex7 h (k a)
theorem an2(h:a∧b)(k:a->b->G):G:=k h.1 h.2
theorem an3(h:a∧b∧c)(k:a->b->c->G):G:=an2 h.2 (k h.1)
theorem an4(h:a∧b∧c∧d)(k:a->b->c->d->G):G:=an3 h.2 (k h.1)
theorem an5(h:a∧b∧c∧d∧e)(k:a->b->c->d->e->G):G:=an4 h.2 (k h.1)
theorem an6(h:a∧b∧c∧d∧e∧f)(k:a->b->c->d->e->f->G):G:=an5 h.2 (k h.1)
theorem an7(h:a∧b∧c∧d∧e∧f∧g)(k:a->b->c->d->e->f->g->G):G:=an6 h.2 (k h.1)
theorem an8(h:a∧b∧c∧d∧e∧f∧g∧i)(k:a->b->c->d->e->f->g->i->G):G:=an7 h.2 (k h.1)
end
open Lean
abbrev PL:=Array (TSyntax ``Parser.Tactic.rcasesPatLo)
def ob(h:TSyntax `term)(ps:Array Syntax):MacroM Syntax:=do
 let n:=ps.size
 let mut xs:Array (TSyntax `ident):=#[]
 let mut q<-`(tactic|skip)
 for j in [0:n] do
  let r:=ps[n-1-j]![0]
  let p:=r[0][0]
  if p.isOfKind ``Parser.Tactic.rcasesPat.one&&p[0].getId != `rfl then xs:=xs.push ⟨p[0]⟩
  else if p.isOfKind ``Parser.Tactic.rcasesPat.ignore then xs:=xs.push (mkIdent `o0_)
  else
   let v:=mkIdent (<-Macro.addMacroScope (.mkSimple s!"e{j}"))
   xs:=xs.push v
   q<-`(tactic|(obtain $(⟨r⟩):rcasesPatMed:=$v:ident;$q))
 xs:=xs.reverse
 let x:=mkIdent `o1
 let mut t<-`(tactic|rcases $h:term with⟨$((ps.map (⟨·⟩):PL)),*⟩)
 let m:=min (n-1) 8
 let mut al:=#[(0,min n 8)]
 for j in [0:m] do al:=al.push (1,m-j)
 for j in [0:min n 8-2] do al:=al.push (0,min n 8-1-j)
 for (s,k) in al.reverse do
  let l:=mkIdent (.mkStr2 "O9" ((if s=1 then "ex" else "an")++toString k))
  let k:=k+s
  let (ys,r)<-if k=n then pure (xs,q) else
   let zs:PL:=(xs.extract (k-1) n).map fun y=>⟨mkNode ``Parser.Tactic.rcasesPatLo #[mkNode ``Parser.Tactic.rcasesPatMed #[mkNullNode #[mkNode ``Parser.Tactic.rcasesPat.one #[y]]],mkNullNode]⟩
   pure ((xs.extract 0 (k-1)).push x,(<-`(tactic|(obtain⟨$zs,*⟩:=$x:ident;$q))))
  t<-`(tactic|first|(refine $l $h ?_;(try clear $h);intro $ys*;$r)|($t:tactic))
 return t
def rn(ps:Array Syntax):MacroM Syntax:=do
 let n:=ps.size-1
 let t:=ps[n]![0]
 unless t.isOfKind ``Parser.Tactic.rcasesPat.tuple do Macro.throwUnsupported
 let mut xs:Array Term:=#[]
 for j in [0:n] do
  let p:=ps[j]![0]
  if p.isOfKind ``Parser.Tactic.rcasesPat.one&&p[0].getId != `rfl then xs:=xs.push ⟨p[0]⟩
  else if p.isOfKind ``Parser.Tactic.rcasesPat.ignore then xs:=xs.push ⟨mkNode ``Parser.Term.hole #[mkAtom "_"]⟩
  else Macro.throwUnsupported
 let x:=mkIdent `o2
 xs:=xs.push x
 `(tactic|(intro $xs*;obtain $(⟨mkNode ``Parser.Tactic.rcasesPatMed #[mkNullNode #[t]]⟩):rcasesPatMed:=$x:ident))
def W9(p:Prop):=p
theorem w9{p9:Prop}(h9:p9):W9 p9=True:=eq_true h9
theorem w8{p9:Prop}(h9:W9 p9):p9:=h9
end O9
section
local macro_rules|`(by%$k $t)=>if k.getTrailing?.any (·.toString=="\n ") then `(by refine @O9.w8 _ ?_;simp (disch:=k_dflt (refine @id _ ?_;($t))) only[↓O9.w9]) else Lean.Macro.throwUnsupported
local macro_rules|`(tactic|obtain⟨$ps,*⟩:=$h:term)=>let p:=ps.getElems.map (·.raw);if p.size<2||p.any (fun q=>q[0][0].getNumArgs != 1||q[1].getNumArgs>0) then Lean.Macro.throwUnsupported else O9.ob h p
local macro_rules|`(tactic|rintro $ps*)=>O9.rn (ps.map (·.raw))
namespace O9
open Lean
abbrev DS:=StateT (List Char) MacroM
def nx:DS Char:=do
 let l<-get
 set l.tail
 return l.head?.getD ' '
def num:DS Nat:=do
 let k<-get
 let r:=k.takeWhile (·.isDigit)
 set (k.drop (r.length+1))
 return r.foldl (fun x d=>10*x+(d.toNat-48)) 0
def hd(tb:List String):DS (Term×Nat):=do
 let c<-nx
 let c<-if "~'{}_".toList.contains c then pure (toString c++toString (<-nx)) else pure (toString c)
 let e:=((tb.find? (·.startsWith c)).getD "").toList.drop c.length
 let n:=String.ofList e.dropLast
 let r:=String.ofList (e.dropLast.drop 1)
 let m:Term:=if n="_" then ⟨mkNode ``Parser.Term.hole #[mkAtom "_"]⟩ else if n.startsWith "." then ⟨mkNode ``Parser.Term.dotIdent #[mkAtom ".",mkIdent r.toName]⟩ else if n.startsWith "%" then quote r else mkIdent n.toName
 return (m,(e.getLast?.getD '0').toNat-48)
def cmp(c:Char):MacroM Term:=do
 let t<-if c='>' then `(fun i j=>decide (j<i)) else if c='<' then `(fun i j=>decide (i<j)) else if c='(' then `(fun i j=>decide (i<=j)) else `(fun i j=>decide (j<=i))
 `($(mkIdent `cCmp) $t)
def ixs:Nat->DS (Array Term)
|0=>return #[]
|n+1=>do
 let c<-nx
 if c=' ' then return #[]
 let x<-if c='-' then `(none) else `(some $(quote (c.toNat-48)))
 return #[x]++(<-ixs n)
def dec(v:Name)(ts:Array Term)(tb:List String):Nat->DS Term
|0=>return mkIdent v
|n+1=>do
 let c<-nx
 if c.isDigit then `($(mkIdent v) $(quote (c.toNat-48)))
 else if c='|' then
  let d<-nx
  `($(mkIdent v) $(quote (d.toNat-87)))
 else if c='#' then return quote (<-num)
 else if c='`' then return ts[(<-nx).toNat-48]!
 else if c='$' then
  let t<-dec v ts tb n
  `(fun cl s H fp=>$t)
 else if c='!' then `(by decide)
 else if c='=' then `([])
 else if c=',' then
  let a<-dec v ts tb n
  let b<-dec v ts tb n
  `($(mkIdent `tCall) $a [] $(mkIdent `E0) $b)
 else if c='%' then `(by decide +kernel)
 else if c='@' then
  let t<-dec v ts tb n
  `(show ($t : List $(mkIdent `Str)).Nodup by decide +kernel)
 else if c='&' then
  let a<-ixs 99
  `([$a,*])
 else if "<>()".toList.contains c then cmp c
 else if c='.' then
  let d<-nx
  let t<-dec v ts tb n
  return ⟨mkNode ``Parser.Term.namedArgument #[mkAtom "(",mkIdent (if d='x' then `ix else .mkSimple (toString d)),mkAtom ":=",t,mkAtom ")"]⟩
 else
  modify (c::·)
  let (h,k)<-hd tb
  if k=0 then return h
  let mut a:=#[]
  for _ in [0:k] do a:=a.push (<-dec v ts tb n).raw
  return ⟨mkNode ``Parser.Term.app #[h,mkNullNode a]⟩
def tbR:List String:="atCons2 btC1 ctOp3 dtNil0 eK0 f.str1 gtx1 htSeq2 i.int1 jcAdd0 ktRet1 lgName1 mcIx0 nc0 oE0 pd0 qtAsg2 rtIfS3 stNext0 ttTest1 utLst1 vtCB2 wtB1 xcEq1 ytCall4 ze0 AtTup1 Bbx3 CtBM5 D%str0 Efalse0 FtAndV2 GtNot1 HkLen0 IcNe1 JbW6 Ka0 Lcx0 MtOr2 NtTrue0 Od.ok0 P.ref1 QtFldK3 RtComp5 S.non0 T.ty1 UiList2 VkIsi0 W.bl1 XtInG3 YE00 ZcMul0 *tMake5 +kIsX1 -tFor3 /tPart1 :tDrop1 ;sFldK4 ?cMod0 [tSl4 ]lz0 ^a.NoText0 ~aiC0 ~btIf3 ~c%place0 ~die3 ~ejk0 ~fa.NoRule0 ~gc.A1 ~hbn2 ~igCons2 ~je.ok0 ~k%list0 ~lcIn2 ~mjM7 ~n%floor0 ~okList0 ~piD0 ~qfS1 ~rdC1 ~scSub0 ~tmO1 ~un0 ~va.NoFloor0 ~wa.NoFilling0 ~x%kept0 ~ykAll0 ~zc.ok0 ~AtAnd2 ~Bdy1 ~Ctrue0 ~DcRepL0 ~EgTup3 ~FgNil0 ~Gj41 ~Ha.BadThought0 ~I%say0 ~Ji74 ~KcDiv0 ~L%words0 ~M%laws0 ~NiStr1 ~OmW1 ~PmX1 ~Q%tuple0 ~Rge0 ~SkJoin0 ~Tmq0 ~Udz1 ~VrIsN0 ~Wa.NoPuzzle0 ~XdA1 ~Ya.NoRow0 ~Za.NoName0 ~*iEnum2 ~+db3 ~-rNotN0 ~/%at0 ~:oo1 ~;%cells0 ~?%int0 ~[tNotV1 ~]%given0 ~^%spots0 'arz2 'b%rules0 'crB3 'dnU1 'enX1 'f%clues0 'grA3 'hkStr0 'ijt1 'jjs1 'k%lines0 'lrC3 'msComp6 'njZ1 'oqu0 'pdl2 'qeV1 'rfq1 'sfH1 'tjh1 'ud.A1 'v.Puzzle0 'wbU3 'xdm0 'yft0 'zj51 'AfG4 'Bvg4 'CspF0 'Da.TooMany0 'EcX3 'F%named0 'GnY4 'HkIsXT1 'Ia.NoMove0 'Ja.NotOne0 'Kva0 'Liu1 'MC0 'N%amount0 'O%mark0 'P%bool0 'Q%line0 'Rvb2 'SEN0 'Tke1 'UG84 'Vu60 'WcShr0 'XrF1 'YtOrV2 'ZrInS1 '*%name0 '+yV2 '-tIxG3 '/gd_RULES_OF_KIND0 ':rK2 ';lJ3 '?lL3 '[tS2 ']pU1 '^lM1 {alO2 {bkE0 {cfL3 {dlI0 {eoA3 {foE3 {gpW1 {hiTup2 {inI3 {jiG3 {kmY3 {lkEnds0 {mtUn2 {nkPart0 {oig4 {pvd0 {qgq2 {rju1 {sgK1 {til2 {uyU1 {vjN3 {wfC0 {xjx1 {ytG1 {z.Unlike0 {A.Sum0 {B.Rising0 {C.Seen0 {D.Count0 {E.Joined0 {F.NoSquare0 {G.Ring0 {HlT2 {IkF1 {JiE0 {Kkf4 {LfX0 {Mkg4 {Nkh4 {Oj22 {PjO4 {Qm91 {RgN1 {Sjz2 {TgP1 {UkFind0 {ViU1 {WuY0 {XkI1 {Y%clued0 {ZrT3 {*jo5 {+jB1 {-mj5 {/kLenS1 {:rIxL1 {;By0 {?FO2 {[mx3 {]sC3 {^iw0 }aiY3 }biZ3 }ci03 }dkR3 }eyR2 }ftDGet2 }goN1 }hsDPut3 }ibC3 }joP1 }kjp3 }liy1 }mlQ3 }ngh3 }onj1 }pE74 }qgf3 }rId5 }si53 }tzn1 }umR3 }vj01 }wlX4 }xnM4 }ytGT2 }zmZ4 }AfJ3 }Bfe3 }CjE3 }DsD4 }ElY3 }Fdn3 }GcQ3 }Hi85 }IrV3 }Ji95 }K%drop0 }Lzm4 }MkS5 }Nja5 }O%put0 }PrX4 }QkT5 }RkK1 }SkU5 }TtXat3 }UiI2 }Vdc2 }WiJ2 }XiK2 }YGD: }Za.ClueError0 }*gS1 }+jP1 }-fO1 }/fP1 }:fQ1 };fR1 }?fD1 }[fE1 }]fF1 }^gs1 _agt1 _bgu1 _cgw1 _dgy1 _egz1 _fgA1 _ggB1 _hgW1 _igX1 _jgY1 _kgZ1 _lg71 _mg81 _ng91 _ohJ1 _phX1 _qlZ4 _rFd4 _sl81 _tFe4 _ukq1 _vjQ1 _wFf4 _xFg4 _ypD4 _zpE4 _ApF4 _Be.A1 _C.Desk0 _DiX4 _EpG4 _Fut4 _Gl61 _Huu4 _ItXini2 _Jx0 _KsXset4 _Lf0".splitOn " "
def tbF:List String:="aaa2 bae0 caj3 dac0 erfl0 fah0 ghu0 haf1 iad2 jam1 kai0 lhr0 mnd0 nkix3 okset3 paw1 q_0 rkcal3 saE1 tbo1 ubh4 vaA3 war0 xbO2 yax4 zaY1 AaD5 Bdh1 Cbv1 Dbj4 EOr.inl1 Fcj1 GbL4 HfA8 Idw5 JbM0 Kii2 LBz.len_0 Mck0 NeX0 Oly0 Pc65 Qcm6 Rbr0 ScW1 TkC0 UkcaO3 VdB0 WBz.isinstance_0 XaN0 YfU5 Z.ty1 *iB0 +fB2 -PH0 /Qu0 :Qv0 ;SW1 ?gH0 [jX3 ]Bz.list_0 ^jm0 ~ajd1 ~bMb0 ~clf0 ~doi1 ~ejU0 ~ffV1 ~gBz.tuple_0 ~hoj0 ~ipj1 ~jBz.all_0 ~kxj0 ~lkz5 ~mRp0 ~nlc3 ~oBz.range_0 ~pn40 ~qjH3 ~rjI2 ~sBz.int_0 ~txg0 ~uMr0 ~vjV0 ~wqk0 ~x%list0 ~yMa0 ~zMC0 ~AMD0 ~BMc0 ~CMd0 ~DFz1 ~EvS0 ~FML0 ~GBJ1 ~HMy0 ~I%tuple0 ~Jwr0 ~Kji1 ~Lrn0 ~MNy0 ~NMI0 ~OyS3 ~PBz.enumerate_0 ~QwZ2 ~RuR0 ~Sjl1 ~TuV0 ~UNz0 ~VNA0 ~WMU0 ~XMV0 ~YlD3 ~ZMs0 ~*%int0 ~+%bool0 ~-Bz.bool_0 ~/IM0 ~:N00 ~;NS0 ~?Oa0 ~[oh0 ~]wY2 ~^uQ1 'aEO0 'bMm0 'cMM0 'dKg5 'ePySem.F.plainAttrs_int0 'fPySem.F.slot_int_bit_length0 'gPySem.F.type_int_bit_length0 'hED0 'iIN0 'jJ51 'kz40 'lBz.str_0 'mql0 'nHd0 'oMl0 'ptz0 'qEx4 'rDv0 'sOI0 'tLj2 'uKA0 'vOJ0 'wKz4 'xMW0 'yIL1 'zBm5 'AOr.inr1 'BN10 'CiM4 'DnR0 'EMt0 'Fxo0 'GRl0 'HRG0 'IRH0 'Jri0 'KNU0 'LOc0 'MMg0 'NFS0 'OOd0 'PNB0 'QMv0 'RMu0 'SyY3 'TMN0 'UM80 'VOp0 'WN40 'XNq0 'YM90 'ZNd0 '*NH0 '+MQ0 '-Nf0 '/NX0 ':Of0 ';Nh0 '?Og0 '[MA0 ']N50 '^MS0 {aME0 {byN0 {cIe? {dM_say0 {eEM.ClueError0".splitOn " "
def run(s:String)(ts:Array Term):MacroM Term:=do
 let l:=s.toList
 let r:=l.head?==some ':'
 unless (r||(l.head?==some ';')) do Macro.throwUnsupported
 let (t,_)<-(dec (if r then `tVar else `pv) ts (if r then tbR else tbF) 500).run l.tail
 let h:=mkIdent `hr;let u:=mkIdent `hu;let n:=mkIdent `nd;if r then `(by exact $t) else `(fun $h $u $n=>by exact $t)
end O9
local macro_rules|`(tactic|ac_nf)=>`(tactic|dsimp only[$(Lean.mkIdent `L2.start):ident,List.map,List.length_cons,List.length_nil,Nat.reduceAdd,Nat.reduceSub,List.replicate_succ,List.replicate_zero,List.cons_append,List.nil_append])
local macro_rules|`(↑$x)=>`(some (.ref $x))
local macro_rules|`(⇑$x)=>`(some (.int $x))
local macro_rules|`(↥$x)=>`(some (.lst $x))
local macro_rules|`(∅)=>`(List Int)
local macro_rules|`(#[$ts,*])=>let a:=ts.getElems;match a[0]? with|none=>Lean.Macro.throwUnsupported|some e=>match e.raw.isStrLit? with|some s=>O9.run s (a.extract 1 a.size)|none=>match e.raw.isNatLit? with|some 0=>`(by omega)|some 4=>`(by lia)|some 1=>`(by decide)|some 3=>let i:=Lean.mkIdent;`(fun $(i `vs) $(i `H) $(i `Q) _=>$(a[1]!))|_=>Lean.Macro.throwUnsupported
local macro_rules|`(tactic|exists $t)=>if t.raw.isIdent then `(tactic|(ac_nf;unfold $(⟨t.raw⟩):ident;symm)) else `(tactic|(symm;refine $t))
local macro_rules|`(tactic|lia)=>`(tactic|first|lia-verbose|omega)
local macro_rules|`(s!$x)=>do
 let some s:=x.raw[0].isInterpolatedStrLit?|Lean.Macro.throwUnsupported
 `([$((s.toList.map fun c=>Lean.Syntax.mkNumLit (toString c.toNat)).toArray),*])
open List renaming length_map→Pj,mem_cons_of_mem→Pm,mem_cons_self→Pn,getElem?_map→Pp,length_append→Pq,getElem?_eq_some_iff→Ps,mem_cons→Pw,getElem?_eq_getElem→Px,map_cons→Pz,mem_of_getElem?→PD,mem_singleton→PJ,all_eq_true→PL,mem_map→PM,mem_append→PN,length_cons→PR,getElem?_append_left→PV,getElem?_eq_none→PX,size_toArray→PY,mem_append_right→PZ,filterMap_cons→P0,getElem?_append_right→P4,map_map→P8,flatten_cons→Qe,not_mem_nil→Qf,mem_append_left→Qi,append_assoc→Qj,mem_range→Qk,lookup_cons→Qn,forall_mem_cons→Qs,getElem?_drop→Qt,eq_nil_of_length_eq_zero→Qy,length_take→QB,filter_cons→QC,getElem?_range→QE,filter_append→QH,append_nil→QI,replicate_succ→QJ,map_congr_left→QK,ext_getElem?→QL,foldl_cons→QO,range_succ→QP,take_length→QU,getElem?_take_of_lt→QV,nil_append→QX,take_of_length_le→QZ,drop_left→Q4,nodup_cons→Q7,find?_cons→Q8,any_cons→Re,length_drop→Rg,drop_drop→Ri,set_set→Rn,length_filter_le→Rq,take_append_drop→Rs,mem_iff_getElem→Ry,cons_append→RB,map_append→RM,getElem?_set_self→RW,length_range→Sb,take_succ→Se,find?_cons_of_pos→Sf,find?_cons_of_neg→Sg,length_singleton→Sj,all_cons→Sr,getElem?_set_ne→Ss,mem_filter→Sw,of_mem_zip→Sx,getLast?_eq_some_iff→SZ,append_eq_append_iff→S0,sum_cons→S6,getElem_mem→Ta,getElem?_cons_succ→Td,append_eq_nil_iff→Tj,length_nil→To,map_id→Tu,mapM_cons→Tw,map_nil→TB,all_map→TD
open Nat renaming le_trans→Pk,le_refl→Py,lt_of_lt_of_le→PU,ne_of_lt→P5,le_of_lt→Qd,zero_le→Qg,le_of_ble_eq_true→Ql,lt_of_le_of_lt→QG,lt_irrefl→QM,lt_succ_of_lt→Q9,mod_eq_of_lt→Rj,le_succ→RU,succ_mul→R9,le_add_right→Sq,mul_le_mul_right→Sv,add_le_add_left→SE,mul_le_mul_left→SH,ne_of_gt→SI,ofDigitChars_toDigits→SY,lt_succ_self→S8,toDigits_of_lt_base→Tc
open Bool renaming false_ne_true→Pt,and_eq_true→P3,true_and→Qb,false_and→Qc,eq_iff_iff→QS,eq_false_iff→Rc,or_eq_true→Sz,false_eq_true→SU,not_eq_true'→S3
open Int renaming eq_ofNat_of_zero_le→QQ,emod_lt_of_pos→Q5,emod_nonneg→Ro,toNat_natCast→Rv,toNat_of_nonneg→RD,mul_nonneg→Sd,zero_add→SJ,fdiv_eq_ediv_of_nonneg→SM
open Array renaming getElem?_eq_some_iff→RA,length_toList→SB,append_assoc→SK
open Option renaming isSome_map→Sa,isNone_iff_eq_none→SX
local macro_rules|`(def%$k $i:declId $s:optDeclSig $v:declVal)=>do
 let l:=(k.getTrailing?.map (·.toString)).getD ""
 if l=="  " then return <-`(noncomputable def $i:declId $s:optDeclSig $v:declVal)
 unless l==" " do Lean.Macro.throwUnsupported
 let m:=Lean.mkIdent
 let n:=(<-`(noncomputable def x:=1)).raw[0]
 let y:=s.raw[1][0][1]
 let q:=y.getId.toString
 let u(x z:Lean.Name):=`(Lean.Parser.Term.bracketedBinderF|($(m x):ident:$(m z)))
 let D(b t v:Lean.Syntax)(th:Bool):=
  let t:=Lean.mkNode ``Lean.Parser.Term.typeSpec #[Lean.mkAtom ":",t]
  Lean.mkNode ``Lean.Parser.Command.declaration #[if th then Lean.mkNode ``Lean.Parser.Command.declModifiers (.replicate 8 Lean.mkNullNode) else n,if th then Lean.mkNode ``Lean.Parser.Command.theorem #[Lean.mkAtom "theorem",i,Lean.mkNode ``Lean.Parser.Command.declSig #[b,t],v] else Lean.mkNode ``Lean.Parser.Command.definition #[Lean.mkAtom "def",i,Lean.mkNode ``Lean.Parser.Command.optDeclSig #[b,Lean.mkNullNode #[t]],v,Lean.mkNullNode]]
 if y.isIdent&&q.length=1&&q<"g" then
  let x:=(q.toList.head!).toNat-97
  let b:=#[(<-u `K `Frag),(<-u `c `TJ),(<-u `d `TL)].extract 0 (x%3+1)
  return D (Lean.mkNullNode (b.map (·.raw))) (m (if x<3 then `TS else `Sp)) v false
 let b:=s.raw[0]
 let z:=y[1].getArgs
 let g(n:Nat):Lean.Term:=⟨z[n]!⟩
 let a(n:Nat):Array Lean.Term:=(z.extract n z.size).map (⟨·⟩)
 if y[0].getId=`R then
  let h<-`(Lean.Parser.Term.bracketedBinderF|($(m `h):ident:$(g 1) $(a 3)* $(m `vs) $(m `H) $(m `Q) $(m `E)))
  let l:Array Lean.Term:=((z[0]!.isStrLit?.getD "").splitOn " ").toArray.map fun x=>Lean.quote (x.replace "'" "_law_")
  return D (Lean.mkNullNode (b.getArgs.push h)) (<-`($(g 2) $(a 3)* ($(m `eD9) $(m `Q)) ($(m `start) [$l,*] $(m `vs)) $(m `H))) v true
 if y[0].getId=`J then
  let h<-`(Lean.Parser.Term.bracketedBinderF|($(m `D):ident:$(m `De) $(m `Z.K) $(g 0) $(g 1)))
  let w:=v.raw[1]
  let f:Lean.Term:=⟨w[0]⟩
  let c:Array Lean.Term:=w[1].getArgs.map (⟨·⟩)
  return D (Lean.mkNullNode (b.getArgs.push h)) (<-`($(g 2) $(m `Z) $(a 3)*)) (v.raw.setArg 1 (<-`($(m `okc) $(m `Bz) $(m `D) $f $c*))) true
 return D b y v true
local macro_rules|`(abbrev $i:declId $s:optDeclSig $v:declVal)=>`(noncomputable abbrev $i:declId $s:optDeclSig $v:declVal)
local macro_rules|`(($a,$b,*))=>if a.raw.getTrailing?.any (·.toString==" ") then Lean.Macro.throwUnsupported else `(⟨$a,$b,*⟩)
local macro_rules|`(tactic|show $e)=>`(tactic|refine $e)
namespace L2
open PySem PySem.Spec PyProof.Rows
abbrev Pl:=@decide_eq_false
abbrev Po:=@decide_eq_true
abbrev Pu:=@Heap.get?_push_of_some
abbrev PB:=@wpAny_bind
abbrev PF:=@if_neg
abbrev PH:=@PySem.F.plainAttrs_str
abbrev PK:=@if_pos
abbrev PP:=@decide_eq_true_eq
abbrev PQ:=@Heap.lt_size
abbrev P6:=@wpAny_loadPart_at
abbrev P7:=@wpAny_mono
abbrev P9:=@wpAny_pure
abbrev Qa:=@Heap.get?_push_size
abbrev Qh:=@PySem.W.hideAll_none
abbrev Qo:=@Heap.get?_none_of_le
abbrev Qp:=@PySem.W.looks_findIn
abbrev Qq:=@PySem.F.slot_str_split
abbrev Qr:=@PySem.F.type_str_split
abbrev Qu:=@PySem.F.slot_str_join
abbrev Qv:=@PySem.F.type_str_join
abbrev Qw:=@PySem.W.hideAll_get
abbrev Qx:=@of_decide_eq_true
abbrev Qz:=@wpAny_Call_Name_kw
abbrev QA:=@PySem.W.kia_one
abbrev QD:=@PySem.mem_of_lookup
abbrev QF:=@PyProof.Rows.callWith_type1
abbrev QN:=@Option.some.inj
abbrev QT:=@PySem.W.callWith_K
abbrev QW:=@wpAny_truthy_bool
abbrev QY:=@Heap.get?_update_other
abbrev Q0:=@PySem.W.of_hideAll
abbrev Q3:=@beq_iff_eq
abbrev Q6:=@PySem.W.methodCall_KW
abbrev Ra:=@or_false
abbrev Rb:=@codeAny_call_builtin
abbrev Rf:=@beq_eq_false_iff_ne
abbrev Rh:=@wpAny_getItem_str_slice
abbrev Rl:=@PySem.F.plainAttrs_list
abbrev Rm:=@Calls.spliced_cons
abbrev Rp:=@PassesOwn.never
abbrev Rr:=@Heap.get?_update_self
abbrev Rt:=@Ne.symm
abbrev Ru:=@Calls.spliced_nil
abbrev Rw:=@Heap.size_push
abbrev Rx:=@Calls.evalArgs_plain
abbrev Rz:=@F.excBase_ValueError
abbrev RC:=@PySem.F.slot_dict_getitem
abbrev RG:=@PySem.F.slot_list_append
abbrev RH:=@PySem.F.type_list_append
abbrev RI:=@wpAny_execs_nil
abbrev RJ:=@wpAny_passesOwn
abbrev RO:=@call_meets
abbrev RQ:=@tupleKind_room_in1
abbrev RS:=@of_decide_eq_false
abbrev RV:=@StrLaws.partsBetween_eq
abbrev RX:=@codeAny_mono
abbrev RY:=@PySem.W.cellsFrom_some
abbrev RZ:=@Calls.callWith_builtin
abbrev Sc:=@F.attr_ValueError
abbrev Sh:=@PassesOwn.leaving
abbrev Si:=@plainObj_wpAny_Assign_Attribute
abbrev Sk:=@F.typeOf_object_class
abbrev Sl:=@builtinLookup_eq_fast
abbrev Sm:=@wpAny_call
abbrev Sn:=@PyProof.Rows.callWith_builtin1
abbrev So:=@typeIs_str
abbrev Su:=@sizeLine_eq
abbrev Sy:=@pushCells_keeps
abbrev SA:=@post_val_or_str
abbrev SD:=@PySem.W.plainGet_of
abbrev SG:=@ne_true_of_eq_false
abbrev SL:=@Calls.Name_function_global
abbrev SN:=@wpAny_loadPart
abbrev SO:=@wpAny_newFunctionEnv_cells
abbrev SQ:=@F.args_str_split_2
abbrev SR:=@StrLaws.join_split
abbrev SS:=@Code.quiet_builtin
abbrev ST:=@List.take_left
abbrev SV:=@F.store_ValueError
abbrev S1:=@Option.some.injEq
abbrev S2:=@F.entry_str_split
abbrev S4:=@wpAny_standAt
abbrev S5:=@wpAny_comprehension_free
abbrev S7:=@wpAny_execs_cons
abbrev S9:=@F.slot_str_split
abbrev Tb:=@decide_eq_false_iff_not
abbrev Te:=@decide_eq_decide
abbrev Tg:=@subscriptTail_builtinR
abbrev Th:=@if_true
abbrev Ti:=@Txt.slice_le
abbrev Tm:=@PySem.F.slot_str_count
abbrev Tn:=@PySem.F.type_str_count
abbrev Tp:=@typeLookup_type
abbrev Tq:=@wpAny_isTrue_Compare1
abbrev Ts:=@codeAny_call_function
abbrev Tt:=@PySem.F.slot_dict_pop
abbrev Tv:=@wpAny_of_eq
abbrev Tx:=@wpAny_field
abbrev Ty:=@Paired.length
abbrev Tz:=@F.slot_gs_get
abbrev TC:=@if_false
abbrev Key:=Sum Int Str
def  keyIs:Key->Value->Bool
 | .inl k,v=>Value.isInt k v
 | .inr x,v=>Value.isStrOf x v
def  keyH(w:World):Key->Int
 | .inl k=>hashInt k
 | .inr x=>hashStr w x
def fh:∀{k:Key} {v:Value},keyIs k v=true->(∃ i t,k=Sum.inl i/\v=Value.int i t)\/(∃ x t,k=Sum.inr x/\v=Value.str x t)
 | .inl i,v,h=>by
  obtain⟨t,e⟩:=Value.isInt_shape (k:=i) (v:=v) h;show .inl (i,t,rfl,e)
 | .inr x,v,h=>by
  obtain⟨t,e⟩:=Value.isStrOf_shape (x:=x) (v:=v) h;show .inr (x,t,rfl,e)
def Fw(i:Int)(t:Tok):keyIs (.inl i) (.int i t)=true:=by simp[keyIs,Value.isInt]
def Fx(x:Str)(t:Tok):keyIs (.inr x) (.str x t)=true:=by simp[keyIs,Value.isStrOf]
def JY(a b:Int):decide ((Sum.inl a:Key)=Sum.inl b)=(a==b):=by
 by_cases e:a=b
 . subst e;simp
 . have h:¬ (Sum.inl a:Key)=Sum.inl b:=λq=>e<|Sum.inl.inj q;rw[Pl h];show(Rf.mpr e).symm
def JZ(a b:Str):decide ((Sum.inr a:Key)=Sum.inr b)=decide (a=b):=by
 by_cases e:a=b
 . subst e;simp
 . have h:¬ (Sum.inr a:Key)=Sum.inr b:=λq=>e<|Sum.inr.inj q;rw[Pl h,Pl e]
def  J0(a:Int)(b:Str):decide ((Sum.inl a:Key)=Sum.inr b)=false:=Pl (λq=>nomatch q)
def  J1(a:Str)(b:Int):decide ((Sum.inr a:Key)=Sum.inl b)=false:=Pl (λq=>nomatch q)
def  fz(prog:Program)(w:World):PySem.KeyKind prog w Key where
 is:=keyIs
 hash:=keyH w
 inj:=λv a b f d=>by
  rcases fh f with ⟨i,t,rfl,rfl⟩ | ⟨x,t,rfl,rfl⟩
  . rcases fh d with ⟨j,u,rfl,e⟩ | ⟨y,u,rfl,e⟩
    . injection e with e1 _;rw[e1]
    . show nomatch e
  . rcases fh d with ⟨j,u,rfl,e⟩ | ⟨y,u,rfl,e⟩
    . show nomatch e
    . injection e with e1 _;rw[e1]
 byValue:=λk v h=>by
  rcases fh h with ⟨i,t,rfl,rfl⟩ | ⟨x,t,rfl,rfl⟩ <;> rfl
 pyHash:=λc h=>by
  rcases fh c with ⟨i,t,rfl,rfl⟩ | ⟨x,t,rfl,rfl⟩
  . show wpAny_pyHash_int h
  . show wpAny_pyHash_str h
 eqBool:=λg c h=>by
  rcases fh g with ⟨i,t,rfl,rfl⟩ | ⟨x,t,rfl,rfl⟩
  . rcases fh c with ⟨j,u,rfl,rfl⟩ | ⟨y,u,rfl,rfl⟩
    . rw[JY]at h;show wpAny_eqBool_int h
    . rw[J0]at h;show SeqAt.EqAt.int_str i t y u _ _ _ _ h
  . rcases fh c with ⟨j,u,rfl,rfl⟩ | ⟨y,u,rfl,rfl⟩
    . rw[J1]at h;show SeqAt.EqAt.str_int x t j u _ _ _ _ h
    . rw[JZ]at h;show wpAny_eqBool_str h
 «strs»:=λk x t v h=>by
  rcases fh h with ⟨i,u,rfl,e⟩ | ⟨y,u,rfl,e⟩
  . show nomatch e
  . injection e with e1 _;subst e1;cases v <;> rfl
def  CY(prog:Program)(w:World)(i:Int)(t:Tok):(fz prog w).is (.inl i) (.int i t)=true:=Fw i t
def  CZ(prog:Program)(w:World)(x:Str)(t:Tok):(fz prog w).is (.inr x) (.str x t)=true:=Fx x t
inductive V where
 | non | bl (b:Bool) | int (i:Int) | str (x:Str) | byt (b:Array UInt8) | flt (b:UInt64) | ref (a:Addr) | ty (n:String)
 deriving DecidableEq
def  RelV:V->Value->Prop
 | .non,u=>u=Value.none
 | .bl b,u=>u=Value.bool b
 | .int i,u=>∃ t,u=Value.int i t
 | .str x,u=>∃ t,u=Value.str x t
 | .byt b,u=>∃ t,u=Value.bytes b t
 | .flt b,u=>∃ t,u=Value.float b t
 | .ref a,u=>u=Value.ref a
 | .ty n,u=>u=Value.type n
abbrev Vals:List V->List Value->Prop:=Paired RelV
def  Vals.length{xs:List V}{us:List Value}(r:Vals xs us):xs.length=us.length:=Ty r
def Vals.get:∀{xs:List V} {us:List Value} {i:Nat} {x:V},Vals xs us->xs[i]? =some x->∃ u,us[i]? =some u/\RelV x u
 | _,_,_,_,.nil,e=>by simp at e
 | _,_,0,_,.cons r _,e=>by simp at e;subst e;show(_,rfl,r)
 | _,_,i+1,x,.cons _ t,e=>by
  obtain⟨u,h1,h2⟩:=Vals.get (i:=i) (x:=x) t (by simpa using e);show(u,by simpa using h1,h2)
def Vals.append:∀{xs ys:List V} {us a:List Value},Vals xs us->Vals ys a->Vals (xs++ys) (us++a)
 | _,_,_,_,.nil,s=>s
 | _,_,_,_,.cons r t,s=>.cons r (Vals.append t s)
def Vals.take:∀{xs:List V} {us:List Value} (n:Nat),Vals xs us->Vals (xs.take n) (us.take n)
 | _,_,0,_=>.nil
 | _,_,_+1,.nil=>.nil
 | _,_,n+1,.cons r t=>.cons r (Vals.take n t)
def Vals.drop:∀{xs:List V} {us:List Value} (n:Nat),Vals xs us->Vals (xs.drop n) (us.drop n)
 | _,_,0,r=>r
 | _,_,_+1,.nil=>.nil
 | _,_,n+1,.cons _ t=>Vals.drop n t
def  RelO:Option V->Option Value->Prop
 | some v,some u=>RelV v u
 | none,none=>True
 | _,_=>False
def  KV{κ:Type}:List (κ × V)->List (κ × Value)->Prop:=Paired λ(p:κ × V) (q:κ × Value)=>p.1=q.1/\RelV p.2 q.2
def  kV:Key->V
 | .inl i=>.int i
 | .inr x=>.str x
inductive HO where
  | lst (xs:List V)
  | tup (xs:List V)
  | dK (Pe:List (Key × V)) | dT (Pe:List (List Key × V))
  | set (S:Int->Bool) (n:Nat)
  | ins (C dx:Addr) (fs:List (Str × V))
  | own (x:Addr)
  | xd (fs:List (Str × V))
  | met (f x:Addr)
  | rng (lo hi:Int)
  | frz (o:Obj) (u:HO)
  | tbl (ps:Array Value)
  | ext (φ:Heap->Prop)
abbrev Hp:=Addr->Option HO
def  upd(H:Hp)(a:Addr)(o:HO):Hp:=λb=>if b=a then some o else H b
variable{H:Hp}{o:HO}
def ak{a:Addr}:upd H a o a=some o:=by unfold upd;rw[PK rfl]
def ao{a b:Addr}(h:b≠a):upd H a o b=H b:=by unfold upd;rw[PF h]
def Lh{a b:Addr}{u:HO}(h:H a=some o)(h':H b=some u)(d:o≠u):a≠b:=by
 intro e;subst e;rw[h]at h';show d (QN h')
def aI{a b:Addr}(h:H a=some o)(h':H b=none):a≠b:=by
 intro e;subst e;rw[h]at h';cases h'
section
variable(P:Program)(w:World)
def  ObjOk(H:Hp)(h:Heap)(a:Addr):HO->Prop
 | .lst xs=>xs.length<=sizeLine/\∃(Pf:List Value) (n:Nat),Vals xs Pf/\h.get? a=some {cls:=.type "list",data:=.seq Pf.toArray n}
 | .tup xs=>xs.length<=sizeLine/\∃ Pf:List Value,Vals xs Pf/\IsTup h a Pf.toArray
 | .dK d=>d.length<=sizeLine/\(a==sysModules)=false/\∃ vs,KV d vs/\h.DictOf (fz P w) a vs
 | .dT d=>d.length<=sizeLine/\(a==sysModules)=false/\∃ xs:List (List Key × Addr × Value),
   Paired (λ(p:List Key × V) (q:List Key × Addr × Value)=>p.1=q.1/\H q.2.1=some (.tup<|p.1.map kV)/\RelV p.2 q.2.2) d xs/\
   ∃ o e i,h.get? a=some o/\o.ExactDict/\o.data=.dict e i/\e.toList=xs.map (entryOfKey<|tupleKind<|fz P w)/\(xs.map (·.1)).Nodup
 | .set S n=>h.SetOf (intKind P w) a S n
 | .ins C dx c=>H dx=some (.own a)/\c.length<=1000/\dx≠a/\h.get? a=some (PySem.W.instObj C dx)/\
   ∃ b,h.Ns1 dx b/\(∀ f,RelO (c.lookup f)<|b f)/\PySem.Within b (c.map (·.1))
 | .own _=>∃ o,h.get? a=some o
 | .xd c=>∃ b,h.Ns1 a b/\∀ f,RelO (c.lookup f) (b f)
 | .rng k g=>∃ t u v,h.get? a=some {cls:=.type "range",data:=.fields #[.int k t,.int g u,.int 1 v]}
 | .frz o u=>h.get? a=some o/\ObjOk H h a u
 | .tbl j=>h.get? a=some {cls:=.none,data:=.fields j}
 | .met f x=>h.get? a=some (PySem.W.methodObj (.ref f)<|.ref x)
 | .ext φ=>φ h/\(∃ o,h.get? a=some o)/\∀ h1 h2:Heap,φ h1->(∀ o,h1.get? a=some o->h2.get? a=some o)->φ h2
def  HOk(H:Hp)(h:Heap):Prop:=∀ a o,H a=some o->ObjOk P w H h a o
end
section
variable{P:Program}{w:World}{H H':Hp}{h h':Heap}{a:Addr}{o:HO}
def ObjOk.lt(x:ObjOk P w H h a o):a<h.objs.size:=by
 cases o with
 | lst c=>obtain⟨_,_,_,_,e⟩:=x;show PQ e
 | tup c=>obtain⟨_,_,_,p⟩:=x;show p.lt
 | dK d=>obtain⟨_,_,_,_,o,_,_,e,_⟩:=x;show PQ e
 | dT d=>obtain⟨_,_,_,_,o,_,_,e,_⟩:=x;show PQ e
 | set S n=>obtain⟨o,_,_,_,e,_⟩:=x;show PQ e
 | ins C i b=>obtain⟨_,_,_,e,_⟩:=x;show PQ e
 | own y=>obtain⟨_,e⟩:=x;show PQ e
 | xd b=>obtain⟨_,⟨_,_,_,e,_⟩,_⟩:=x;show PQ e
 | rng l g=>obtain⟨_,_,_,e⟩:=x;show PQ e
 | frz j u=>obtain⟨e,_⟩:=x;show PQ e
 | tbl k=>show PQ (show h.get? a=some _ from x)
 | met f y=>show PQ (show h.get? a=some _ from x)
 | ext φ=>obtain⟨_,⟨_,e⟩,_⟩:=x;show PQ e
def Paired.mapP{α β:Type}{F G:α->β->Prop}:∀{d:List α} {c:List β},Paired F d c->(∀ a b,F a b->G a b)->Paired G d c
 | _,_,.nil,_=>.nil
 | _,_,.cons r t,f=>.cons (f _ _ r) (Paired.mapP t f)
def ObjOk.stay (x:ObjOk P w H h a o) (k:∀ b u,(b=a\/H b=some (.own a))->h.get? b=some u->h'.get? b=some u)
  (J:∀ b,H b=some (.own a)->H' b=some (.own a)) (G:∀ b xs,H b=some (.tup xs)->H' b=some (.tup xs)):ObjOk P w H' h' a o:=by
 induction o with
 | lst xs=>obtain⟨z,s,n,r,e⟩:=x;show(z,s,n,r,k _ _ (.inl rfl) e)
 | tup xs=>obtain⟨z,s,r,g,e,c⟩:=x;show(z,s,r,g,k _ _ (.inl rfl) e,c)
 | dK F=>obtain⟨z,y,vs,r,g,j,i,e,c⟩:=x;show(z,y,vs,r,g,j,i,k _ _ (.inl rfl) e,c)
 | dT F=>
  obtain⟨z,y,xs,r,g,j,i,e,c⟩:=x;show(z,y,xs,Paired.mapP r λp q z=>(z.1,G _ _ z.2.1,z.2.2),g,j,i,k _ _ (.inl rfl) e,c)
 | set S n=>obtain⟨g,j,i,t,e,c⟩:=x;show(g,j,i,t,k _ _ (.inl rfl) e,c)
 | ins C L E=>
  obtain⟨d,z,I,e,m,⟨l,j,i,e2,c⟩,r⟩:=x;show(J _ d,z,I,k _ _ (.inl rfl) e,m,(l,j,i,k _ _ (.inr d) e2,c),r)
 | own y=>obtain⟨g,e⟩:=x;show(g,k _ _ (.inl rfl) e)
 | xd E=>obtain⟨m,⟨l,j,i,e,c⟩,r⟩:=x;show(m,(l,j,i,k _ _ (.inl rfl) e,c),r)
 | rng M K=>obtain⟨t,u,v,e⟩:=x;show(t,u,v,k _ _ (.inl rfl) e)
 | frz g u D=>obtain⟨e,q⟩:=x;show(k _ _ (.inl rfl) e,D q)
 | tbl B=>
  have e:h.get? a=some {cls:=.none,data:=.fields B}:=x;change h'.get? a=some {cls:=.none,data:=.fields B};show k a _ (.inl rfl) e
 | met f y=>
  have e:h.get? a=some (PySem.W.methodObj (.ref f)<|.ref y):=x;change h'.get? a=some (PySem.W.methodObj (.ref f)<|.ref y);show k a _ (.inl rfl) e
 | ext φ=>obtain⟨p,⟨o,e⟩,A⟩:=x;show(A _ _ p λo q=>k _ _ (.inl rfl) q,(o,k _ _ (.inl rfl) e),A)
def  HOk.lt(x:HOk P w H h)(e:H a=some o):a<h.objs.size:=(x a o e).lt
def HOk.fresh(x:HOk P w H h)(e:h.objs.size<=a):H a=none:=by
 cases q:H a with
 | none=>rfl
 | some u=>show absurd (PU (x.lt q) e) (QM _)
def  HOk.kept(x:HOk P w H h)(k:∀ b u,h.get? b=some u->h'.get? b=some u):HOk P w H h':=λa o e=>
 (x a o e).stay (λb u _ q=>k b u q) (λ_ q=>q) λ_ _ q=>q
def  HOk.laid(x:HOk P w H h)(k:∀ b u,h.get? b=some u->h'.get? b=some u)(i:h.objs.size<=a)(d:ObjOk P w (upd H a o) h' a o):HOk P w (upd H a o) h':=λb u e=>by
 have f:=x.fresh i;by_cases g:b=a
 . subst g;rw[ak]at e;cases e;show d
 . rw[ao g]at e;show(x b u e).stay (λc v _ q=>k c v q) (λc q=>by rw[ao<|aI q f];show q) λc j q=>by rw[ao<|aI q f];show q
end
def  Rd(H:Hp)(a:Addr)(u:HO):Prop:=H a=some u\/∃ o,H a=some (.frz o u)
def Rd.ok{P:Program}{w:World}{h:Heap}{a:Addr}{u:HO}(r:Rd H a u)(x:HOk P w H h):ObjOk P w H h a u:=by
 rcases r with r | ⟨o,r⟩
 . show x a u r
 . obtain⟨_,q⟩:=x a _ r;show q
def  Mut:Option HO->Prop
 | ↥_=>True
 | some (.dK _)=>True
 | some (.dT _)=>True
 | some (.set _ _)=>True
 | some (.ins _ _ _)=>True
 | some (.ext _)=>True
 | _=>False
section
variable{P:Program}{w:World}{H:Hp}{h h':Heap}{x e:Addr}{o':HO}
def  HOk.write (s:HOk P w H h) (i:Mut (H x)) (o:e=x\/H e=some (.own x)) (k:∀ b u,b≠e->h.get? b=some u->h'.get? b=some u) (n:∃ u,h'.get? e=some u)
  (m:ObjOk P w (upd H x o') h' x o'):HOk P w (upd H x o') h':=λb u q=>by
 have d:∀ c y,H c=some (.own y)->c≠x:=λc y r z=>by subst z;rw[r]at i;show i
 have f:∀ c j,H c=some (.tup j)->c≠x:=λc j r z=>by subst z;rw[r]at i;show i
 by_cases l:b=x
 . subst l;rw[ak]at q;cases q;show m
 . rw[ao l]at q;by_cases a:b=e
   . have p:H b=some (.own x):=by
      rcases o with z | z
      . show absurd (a.trans z) l
      . rw[a];show z
     rw[q]at p;cases p;obtain⟨v,t⟩:=n;show(v,by rw[a];show t)
   . show(s b u q).stay (λc v g r=>k c v ?_ r) (λc r=>by rw[ao<|d c b r];show r) λc j r=>by rw[ao<|f c j r];show r
     rcases g with rfl | g
     . show a
     . rintro rfl;rcases o with z | z
       . show d c b g z
       . rw[g]at z;cases z;show l rfl
end
structure Un(fs ex:List Addr)(H H':Hp)(h h':Heap):Prop where
 keep:∀ b o,h.get? b=some o->H b=none->b∉fs->b∉ex->h'.get? b=some o
 slot:∀ b o,h.get? b=some o->H b=none->b∈fs->b∉ex->∃ sl,h'.get? b=some {o with slots:=sl}
 free:∀ b o,h.get? b=some o->H b=none->b∉ex->H' b=none
 there:∀ b o,h.get? b=some o->b∉ex->∃ o',h'.get? b=some o'
 tups:∀ b xs,H b=some (.tup xs)->H' b=some (.tup xs)
 frzs:∀ b o u,H b=some (.frz o u)->H' b=some (.frz o u)
 tbls:∀ b ps,H b=some (.tbl ps)->∃ more,H' b=some (.tbl<|ps++more)
section
variable{fs fs' ex ex':List Addr}{H H1 H2:Hp}{h h1 h2 h':Heap}{a x e:Addr}{o:HO}
def Un.any(u:Un fs ex H H1 h h1){b:Addr}{a:Obj}(q:h.get? b=some a)(n:H b=none)(d:b∉ex):∃ e,h1.get? b=some {a with slots:=e}:=by
 by_cases c:b∈fs
 . show u.slot b a q n c d
 . show(a.slots,u.keep b a q n c d)
def  Un.trans(a:Un fs ex H H1 h h1)(b:Un fs ex H1 H2 h1 h2):Un fs ex H H2 h h2 where
 keep:=λc d q n f e=>b.keep c d (a.keep c d q n f e) (a.free c d q n e) f e
 slot:=λc d q n f e=>by
  obtain⟨o,e1⟩:=a.slot c d q n f e;obtain⟨j,e2⟩:=b.slot c _ e1 (a.free c d q n e) f e;show(j,e2)
 free:=λc d q n e=>by
  obtain⟨i,e1⟩:=a.there c d q e;show b.free c i e1 (a.free c d q n e) e
 there:=λc d q e=>by
  obtain⟨i,e1⟩:=a.there c d q e;show b.there c i e1 e
 tups:=λc g q=>b.tups c g (a.tups c g q)
 frzs:=λc d g q=>b.frzs c d g (a.frzs c d g q)
 tbls:=λc k q=>by
  obtain⟨l,e1⟩:=a.tbls c k q;obtain⟨m,e2⟩:=b.tbls c _ e1;show(l++m,by rw[e2,SK])
def  Un.kept(k:∀ b u,h.get? b=some u->h'.get? b=some u):Un fs ex H H h h':=
 (λb a q _ _ _=>k b a q,λb a q _ _ _=>(a.slots,k b a q),λ_ _ _ n _=>n,λb a q _=>(a,k b a q),λ_ _ q=>q,λ_ _ _ q=>q,λ_ c q=>(#[],by rw[q];simp))
def  Un.refl:Un fs ex H H h h:=Un.kept λ_ _ q=>q
def  Un.laid(k:∀ b u,h.get? b=some u->h'.get? b=some u)(e:h.objs.size<=a)(c:H a=none):Un fs ex H (upd H a o) h h' where
 keep:=λb u q _ _ _=>k b u q
 slot:=λb u q _ _ _=>(u.slots,k b u q)
 free:=λb u q n _=>by rw[ao<|P5<|PU (PQ q) e];show n
 there:=λb u q _=>(u,k b u q)
 tups:=λb d q=>by rw[ao<|aI q c];show q
 frzs:=λb u d q=>by rw[ao<|aI q c];show q
 tbls:=λb f q=>(#[],by rw[ao<|aI q c,q];simp)
def Un.write(c:Mut (H x))(j:e=x\/H e=some (.own x))(k:∀ b u,b≠e->h.get? b=some u->h'.get? b=some u)(d:∃ u,h'.get? e=some u):Un fs ex H (upd H x o) h h':=by
 have g:∀ b,H b=none->b≠x:=λb n z=>by subst z;rw[n]at c;show c
 have i:∀ b,H b=none->b≠e:=λb n z=>by
  subst z;rcases j with r | r
  . show g b n r
  . rw[n]at r;cases r
 have f:∀ b u,H b=some u->¬ Mut (some u)->b≠x:=λb u q l z=>by subst z;rw[q]at c;show l c
 show(λb u q n _ _=>k b u (i b n) q,λb u q n _ _=>(u.slots,k b u (i b n) q),λb u q n _=>by rw[ao<|g b n];show n,λb u q _=>?_,
  λb m q=>by rw[ao<|f b _ q λz=>z];show q,λb u m q=>by rw[ao<|f b _ q λz=>z];show q,λb p q=>(#[],by rw[ao<|f b _ q λz=>z,q];simp))
 by_cases a:b=e
 . subst a;show d
 . show(u,k b u a q)
def  Un.mono(u:Un fs ex H H1 h h1)(e:∀ b∈fs,b∈fs')(d:∀ b∈ex,b∈ex'):Un fs' ex' H H1 h h1:=
 (λb c q n f a=>u.keep b c q n (λz=>f<|e b z) λz=>a<|d b z,λ_ _ q n _ a=>u.any q n λz=>a<|d _ z,λb c q n a=>u.free b c q n λz=>a<|d b z,λb c q a=>u.there b c q λz=>a<|d b z,u.tups,u.frzs,u.tbls)
end
def  trk(h:Heap)(H:Hp):List Addr:=(List.range h.objs.size).filter λa=>(H a).isSome
def  hidT(h:Heap)(H:Hp):Heap:=PySem.W.hideAll h (trk h H)
def  Fy(h:Heap)(H:Hp):(hidT h H).objs.size=h.objs.size:=PySem.W.hideAll_size _ _
def  G3{h:Heap}{b:Addr}{o:Obj}(e:h.get? b=some o)(n:H b=none):(hidT h H).get? b=some o:=
 Qw _ e λa=>by
  have q:(H b).isSome=true:=(Sw.mp a).2;rw[n]at q;simp at q
def Ix{h:Heap}{b:Addr}{o:Obj}(e:(hidT h H).get? b=some o):h.get? b=some o/\H b=none:=by
 have a:h.get? b=some o:=Q0 (trk h H) e;show(a,?_)
 cases q:H b with
 | none=>rfl
 | some x=>
  have c:b∈trk h H:=Sw.mpr (Qk.mpr<|PQ a,by simp[q]);have z:(hidT h H).get? b=none:=Qh (trk h H) c;rw[z]at e;cases e
structure Mod(K:Frag)(mg:Str->Option Value)(base:Heap):Prop where
 kin:K.In base
 glob:base.Ns mainGlobals mg
 blt:∃ mb,base.Ns builtinsNs mb/\∀ x:Str,x≠"__name__"->mb x=bootBuiltins x
 nolimit:base.NoLimit
structure Cx where
 prog:Program
 w:World
 K:Frag
 mg:Str->Option Value
 base:Heap
 A:Around
 N:List Str
 s₀:Shared
 H₀:Hp
 env:Env
 outer:List Env
 stack:List Env
 ex:List Addr
 fn:Str->Bool
 calm:Bool
 pn:List (Addr × Obj)
 xe:Value->Shared->Prop
def  frs(l:List Env):List Addr:=l.filterMap (·.frame)
abbrev Cx.fs(X:Cx):List Addr:=frs X.outer
def  Vis(a:Scope)(x:Str):Prop:=a.names.lookup x=some .local\/a.names.lookup x=some .cell\/a.names.lookup x=some .free
def  Loc(a:Scope)(x:Str):Prop:=a.names.lookup x=some .local\/a.names.lookup x=some .cell
def  Look(env:Env)(h:Heap)(m:Str->Option Value)(x:Str)(u:Value):Prop:=
 (env.kindOf x=some .local/\m x=some u)\/((env.kindOf x=some .cell\/env.kindOf x=some .free)/\∃ c,env.cells.lookup x=some c/\h.IsCell c (some u))
structure Cx.Ok(X:Cx):Prop where
 mod:Mod X.K X.mg X.base
 kind:X.env.scope.kind=.function
 glob:X.env.globals=mainGlobals
 blt:X.env.builtins=builtinsNs
 above:X.s₀.heap.objs.size<=X.env.locals
 inj:∀ x y c,X.env.cells.lookup x=some c->X.env.cells.lookup y=some c->x=y
 has:∀ x,(X.env.kindOf x=some .cell\/X.env.kindOf x=some .free)->∃ c,X.env.cells.lookup x=some c
 cab:∀ x c,X.fn x=true->X.env.cells.lookup x=some c->X.s₀.heap.objs.size<=c
 hd:X.calm=true->X.A.handled=none
 frames:X.A.frames=some X.stack
 stk:X.stack=X.outer\/(X.stack=X.env::X.outer/\X.env.frame=some X.env.locals)
 exf:∀ b∈X.ex,b≠X.env.locals/\∀ x c,X.env.cells.lookup x=some c->c≠b
 bs:∀ b o,X.base.get? b=some o->X.s₀.heap.get? b=some o/\X.H₀ b=none
 bsz:X.base.objs.size<=X.s₀.heap.objs.size
 noex:∀ b o,X.base.get? b=some o->b∉X.ex
 exfs:∀ b∈X.ex,b∉X.fs
 funs:X.s₀.heap.FunFrames X.base X.outer
 frf:∀ b∈X.fs,X.H₀ b=none
structure Inv(X:Cx)(Pc:List (Addr × Obj))(σ:List (Option V))(H:Hp)(s:Shared):Prop where
 ok:X.Ok
 os:s.os=X.s₀.os
 bare:AllBare s.gens
 base:Un X.fs X.ex X.H₀ H X.s₀.heap s.heap
 loc:∃ m,s.heap.Ns X.env.locals m/\∀(i:Nat) (x:Str) (v:V),X.N[i]? =some x->σ[i]? =some (some v)->Vis X.env.scope x->∃ u,RelV v u/\Look X.env s.heap m x u
 cell:∀ x c,X.env.cells.lookup x=some c->∃ v,s.heap.IsCell c v
 free:H X.env.locals=none
 freeC:∀ x c,X.env.cells.lookup x=some c->H c=none
 pin:∀ p∈X.pn++Pc,s.heap.get? p.1=some p.2/\H p.1=none/\p.1≠X.env.locals/\p.1∉X.fs/\∀ v,p.2.data≠.cell v
 hok:HOk X.prog X.w H s.heap
 len:σ.length=X.N.length
section
variable{X:Cx}{Pc:List (Addr × Obj)}{σ:List (Option V)}{H H':Hp}{s:Shared}{h':Heap}
def  Cx.Ok.nofr(a:X.Ok){b:Addr}{o:Obj}(e:X.base.get? b=some o):b∉X.fs:=λc=>by
 have:=(a.funs.mem c).1;rw[e]at this;cases this
def  Inv.bs(I:Inv X Pc σ H s):∀ b o,X.base.get? b=some o->s.heap.get? b=some o/\H b=none:=λb o e=>
 (I.base.keep b o (I.ok.bs b o e).1 (I.ok.bs b o e).2 (I.ok.nofr e)<|I.ok.noex b o e,I.base.free b o (I.ok.bs b o e).1 (I.ok.bs b o e).2<|I.ok.noex b o e)
def  Inv.bk(I:Inv X Pc σ H s):∀ b o,X.base.get? b=some o->s.heap.get? b=some o:=λb o e=>(I.bs b o e).1
def  Inv.mod(I:Inv X Pc σ H s):Mod X.K X.mg X.base:=I.ok.mod
def  Inv.kIn(I:Inv X Pc σ H s):X.K.In s.heap:=I.ok.mod.kin.keeps I.bk
def  Inv.lt(I:Inv X Pc σ H s):X.env.locals<s.heap.objs.size:=let ⟨_,a,_⟩:=I.loc;a.lt
def  Inv.sz(I:Inv X Pc σ H s):X.s₀.heap.objs.size<=s.heap.objs.size:=Pk I.ok.above (Qd I.lt)
def  Inv.nofs(I:Inv X Pc σ H s){a:Addr}(h:s.heap.objs.size<=a):a∉X.fs:=λb=>by
 obtain⟨_,o,c,_⟩:=I.ok.funs.mem b;show absurd (PU (PQ c)<|Pk I.sz h) (QM _)
def  Inv.cne(I:Inv X Pc σ H s):∀ x c,X.env.cells.lookup x=some c->c≠X.env.locals:=λx c e z=>by
 obtain⟨v,o,f,d⟩:=I.cell x c e;obtain⟨m,⟨g,i,h,a,b,_⟩,_⟩:=I.loc;rw[z,a]at f;cases f;rw[b]at d;cases d
def Inv.funs(I:Inv X Pc σ H s):s.heap.FunFrames X.base X.outer:=by
 have a:∀(l:List Env),(∀ b∈frs l,b∈X.fs)->X.s₀.heap.FunFrames X.base l->s.heap.FunFrames X.base l:=by
  intro l
  induction l with
  | nil=>intro _ _;trivial
  | cons q r i=>
   intro g m;obtain⟨h,⟨L,o,c,j,n,p⟩,k⟩:=m;have d:L∈X.fs:=g L (by unfold frs;rw[P0,c];show Pn);obtain⟨t,e⟩:=I.base.slot L o n (I.ok.frf L d) d λz=>I.ok.exfs L z d;show(h,(L,_,c,j,e,p),i (λb f=>g b (by unfold frs;rw[P0,c];show Pm _ f)) k)
 show a X.outer (λ_ f=>f) I.ok.funs
def Inv.stack(I:Inv X Pc σ H s):s.heap.FunFrames X.base X.stack:=by
 rcases I.ok.stk with e | ⟨e,b⟩
 . rw[e];show I.funs
 . rw[e];obtain⟨m,a,_⟩:=I.loc;show .cons (by rw[I.ok.kind];decide) b a ?_ I.funs;show Qo (Pk I.ok.bsz I.ok.above)
def  Inv.stkSub(I:Inv X Pc σ H s):∀ b∈frs X.stack,b∈X.env.locals::X.fs:=λb a=>by
 rcases I.ok.stk with e | ⟨e,c⟩
 . rw[e]at a;show Pm _ a
 . rw[e]at a;unfold frs at a;rw[P0,c]at a;show a
def  Inv.stkFree(I:Inv X Pc σ H s):∀ b∈frs X.stack,H b=none:=λb a=>by
 rcases Pw.mp (I.stkSub b a) with e | a
 . rw[e];show I.free
 . obtain⟨_,o,c,_⟩:=I.ok.funs.mem a;show I.base.free b o c (I.ok.frf b a) λz=>I.ok.exfs b z a
def  Inv.step {g':Array GenState} {t':Nat} {d':Drawn} {ch:List Addr} (I:Inv X Pc σ H s)
  (t:∀ b∈ch,(b∈X.ex\/X.s₀.heap.objs.size<=b)/\b≠X.env.locals/\(∀ x c,X.env.cells.lookup x=some c->c≠b)/\∀ p∈X.pn++Pc,p.1≠b)
  (g:∀ b o,b≠X.env.locals->b∉X.fs->b∉ch->s.heap.get? b=some o->H b=none->h'.get? b=some o)
  (A:∀ b o,b≠X.env.locals->b∈X.fs->b∉ch->s.heap.get? b=some o->H b=none->∃ N,h'.get? b=some {o with slots:=N}) (f:∀ b o,b∉ch->s.heap.get? b=some o->H b=none->H' b=none)
  (B:∀ b o,b∉ch->s.heap.get? b=some o->∃ F,h'.get? b=some F)
  (E:∀ b xs,H b=some (.tup xs)->H' b=some (.tup xs)) (L:∀ b o u,H b=some (.frz o u)->H' b=some (.frz o u)) (K:∀ b M,H b=some (.tbl M)->∃ G,H' b=some (.tbl<|M++G))
  (ns:∀ m,s.heap.Ns X.env.locals m->h'.Ns X.env.locals m) (Q:HOk X.prog X.w H' h') (W:AllBare g'):
  Inv X Pc σ H' {s with heap:=h',gens:=g',drawn:=d',toks:=t'}:=by
 have J:∀ b o,X.s₀.heap.get? b=some o->b≠X.env.locals:=λb o e=>P5 (PU (PQ e) I.ok.above)
 have y:∀ b o,X.s₀.heap.get? b=some o->b∉X.ex->b∉ch:=λb o e a C=>by
  rcases(t b C).1 with z | z
  . show a z
  . show absurd (PU (PQ e) z) (QM _)
 have j:∀ x c,X.env.cells.lookup x=some c->∀ v,s.heap.IsCell c v->h'.IsCell c v:=λx c e v ⟨o,D,O⟩=>by
  have h:c∉ch:=λz=>(t c z).2.2.1 x c e rfl;by_cases U:c∈X.fs
  . obtain⟨N,q⟩:=A c o (I.cne x c e) U h D<|I.freeC x c e;show(_,q,O)
  . show(o,g c o (I.cne x c e) U h D<|I.freeC x c e,O)
 show(I.ok,I.os,W,(λb o e n C a=>?_,λb o e n C a=>?_,λb o e n a=>?_,λb o e a=>?_,λb xs e=>E b xs<|I.base.tups b xs e,λb o xs e=>L b o xs<|I.base.frzs b o xs e,λb M e=>?_),?_,λx c e=>?_,?_,λx c e=>?_,λp R=>?_,Q,I.len)
 . show g b o (J b o e) C (y b o e a) (I.base.keep b o e n C a) (I.base.free b o e n a)
 . obtain⟨N,e1⟩:=I.base.slot b o e n C a;obtain⟨P,e2⟩:=A b _ (J b o e) C (y b o e a) e1<|I.base.free b o e n a;show(P,e2)
 . obtain⟨F,e1⟩:=I.base.there b o e a;show f b F (y b o e a) e1 (I.base.free b o e n a)
 . obtain⟨F,e1⟩:=I.base.there b o e a;show B b F (y b o e a) e1
 . obtain⟨m1,e1⟩:=I.base.tbls b M e;obtain⟨m2,e2⟩:=K b _ e1;show(m1++m2,by rw[e2,SK])
 . obtain⟨m,Y,Z⟩:=I.loc;show(m,ns m Y,λi x v e1 e2 e3=>?_);obtain⟨u,r,l⟩:=Z i x v e1 e2 e3;show(u,r,?_);rcases l with l | ⟨k,c,e,z⟩
   . show .inl l
   . show .inr (k,c,e,j x c e _ z)
 . obtain⟨v,z⟩:=I.cell x c e;show(v,j x c e v z)
 . obtain⟨m,⟨o,_,_,D,_⟩,_⟩:=I.loc;show f _ o (λz=>(t _ z).2.1 rfl) D I.free
 . obtain⟨v,o,D,O⟩:=I.cell x c e;show f c o (λz=>(t c z).2.2.1 x c e rfl) D (I.freeC x c e)
 . obtain⟨e,n,T,S,d⟩:=I.pin p R;have h:p.1∉ch:=λz=>(t p.1 z).2.2.2 p R rfl;show(g p.1 p.2 T S h e n,f p.1 p.2 h e n,T,S,d)
def Inv.un{t':Nat}(I:Inv X Pc σ H s)(u:Un X.fs [] H H' s.heap h')(g:HOk X.prog X.w H' h'):Inv X Pc σ H' {s with heap:=h',toks:=t'}:=by
 obtain⟨m,⟨o,v,t,h,r⟩,_⟩:=id I.loc;obtain⟨p,i⟩:=u.any h I.free (by simp)
 show I.step (g':=s.gens) (d':=s.drawn) (ch:=[]) (λ_ z=>nomatch z) (λb o _ d _ e n=>u.keep b o e n d (by simp)) (λb o _ d _ e n=>u.slot b o e n d (by simp)) (λb o _ e n=>u.free b o e n (by simp)) (λb o _ e=>u.there b o e (by simp)) u.tups u.frzs u.tbls (λq k=>by
  obtain⟨l,f,c,a,j⟩:=k;rw[h]at a;cases a;show(_,f,c,i,j)) g I.bare
def Inv.call {g':Array GenState} {t':Nat} {d':Drawn} {ch:List Addr} (I:Inv X Pc σ H s) (u:Un (frs X.stack) ch H H' s.heap h') (i:HOk X.prog X.w H' h') (q:AllBare g')
  (d:∀ b∈ch,(b∈X.ex\/X.s₀.heap.objs.size<=b)/\b≠X.env.locals/\(∀ x c,X.env.cells.lookup x=some c->c≠b)/\∀ p∈X.pn++Pc,p.1≠b):
  Inv X Pc σ H' {s with heap:=h',gens:=g',drawn:=d',toks:=t'}:=by
 obtain⟨m,⟨o,D,C,k,r⟩,_⟩:=id I.loc;obtain⟨A,j⟩:=u.any k I.free λz=>(d _ z).2.1 rfl
 show I.step (ch:=ch) d (λb o j t a e n=>u.keep b o e n (λz=>(Pw.mp<|I.stkSub b z).elim j t) a) (λb o _ _ a e n=>u.any e n a) (λb o a e n=>u.free b o e n a) (λb o a e=>u.there b o e a) u.tups u.frzs u.tbls (λB l=>by
  obtain⟨y,h,g,f,v⟩:=l;rw[k]at f;cases f;show(_,h,g,j,v)) i q
def Inv.turned {t':Nat} {it:Addr} (I:Inv X Pc σ H s) (k:∀ b o,b≠it->s.heap.get? b=some o->h'.get? b=some o) (g:H it=none) (f:it≠X.env.locals)
  (h1:it∈X.ex\/X.s₀.heap.objs.size<=it) (h2:∀ x c,X.env.cells.lookup x=some c->c≠it) (h3:∀ p∈X.pn++Pc,p.1≠it):Inv X Pc σ H {s with heap:=h',toks:=t'}:=by
 have d:∀ b u,H b=some u->b≠it:=λb u e z=>by rw[z,g]at e;cases e
 show I.step (g':=s.gens) (d':=s.drawn) (ch:=[it]) (λb h=>?_) (λb o _ _ a e _=>k b o (λz=>a (by simp[z])) e) (λb o _ _ a e _=>(o.slots,k b o (λz=>a (by simp[z])) e)) (λ_ _ _ _ n=>n)
  (λb o a e=>(o,k b o (λz=>a (by simp[z])) e)) (λ_ _ e=>e) (λ_ _ _ e=>e) (λb w e=>(#[],by rw[e];simp)) (λm l=>?_) (λb u e=>?_) I.bare
 . have e:b=it:=by simpa using h
   subst e;show(h1,f,h2,h3)
 . obtain⟨o,j,i,t,r⟩:=l;show(o,j,i,k _ o (Rt f) t,r)
 . show(I.hok b u e).stay (λc v a q=>k c v ?_ q) (λ_ q=>q) λ_ _ q=>q;rcases a with z | z
   . rw[z];show d b u e
   . show d c _ z
def  Inv.tok(I:Inv X Pc σ H s)(t:Nat):Inv X Pc σ H {s with toks:=t}:=I.un (h':=s.heap) (t':=t) Un.refl I.hok
def  Inv.kept{t':Nat}(I:Inv X Pc σ H s)(k:∀ b u,s.heap.get? b=some u->h'.get? b=some u):Inv X Pc σ H {s with heap:=h',toks:=t'}:=I.un (Un.kept k) (I.hok.kept k)
def  Inv.laid{a:Addr}{o:HO}{t':Nat}(I:Inv X Pc σ H s)(k:∀ b u,s.heap.get? b=some u->h'.get? b=some u)(d:s.heap.objs.size<=a)(c:ObjOk X.prog X.w (upd H a o) h' a o):
  Inv X Pc σ (upd H a o) {s with heap:=h',toks:=t'}:=I.un (Un.laid k d<|I.hok.fresh d) (I.hok.laid k d c)
def  Inv.write {x e:Addr} {o:HO} {t':Nat} (I:Inv X Pc σ H s) (d:Mut (H x)) (f:e=x\/H e=some (.own x)) (k:∀ b u,b≠e->s.heap.get? b=some u->h'.get? b=some u) (a:∃ u,h'.get? e=some u)
  (c:ObjOk X.prog X.w (upd H x o) h' x o):Inv X Pc σ (upd H x o) {s with heap:=h',toks:=t'}:=I.un (Un.write d f k a) (I.hok.write d f k a c)
def  Inv.pins_of{a:List (Addr × Obj)}(I:Inv X Pc σ H s)(h:∀ p∈a,s.heap.get? p.1=some p.2/\H p.1=none/\p.1≠X.env.locals/\p.1∉X.fs/\∀ v,p.2.data≠.cell v):Inv X a σ H s:=
 (I.ok,I.os,I.bare,I.base,I.loc,I.cell,I.free,I.freeC,λp b=>(PN.mp b).elim (λz=>I.pin p<|Qi _ z)<|h p,I.hok,I.len)
def wm{N:List Str}(c:N.Nodup){i j:Nat}{x:Str}(a:N[i]? =some x)(b:N[j]? =some x):i=j:=by
 obtain⟨h1,e1⟩:=Ps.mp a;obtain⟨h2,e2⟩:=Ps.mp b;show(List.getElem_inj c).mp (e1.trans e2.symm)
def zL {M:Model} {A:Around} {E:Value->Shared->Prop} {i:Nat} {x:Str} {v:V} {u:Value} {Q:Unit->Shared->Prop} (I:Inv X Pc σ H s) (hN:X.N.Nodup) (P:X.N[i]? =some x) (t:Loc X.env.scope x) (r:RelV v u)
  (h:∀ s',Inv X Pc (σ.set i<|some v) H s'->(∃ a,Heap.SameBut a s.heap s'.heap/\(a=X.env.locals\/X.env.cells.lookup x=some a))->Q () s') (hf:X.fn x=true\/X.env.scope.names.lookup x=some .local:=by first | show .inl rfl | show .inr rfl | assumption):wpAny M A (storeName X.env x u) Q E s:=by
 obtain⟨m,hn,hl⟩:=id I.loc;have O:(X.env.scope.kind==.class||(X.env.scope.kind==.module&&X.env.locals != X.env.globals))=false:=by rw[I.ok.kind];rfl
 have R:i<σ.length:=by rw[I.len];show(Ps.mp P).1
 have F:=I.cne
 have g:∀{a:Addr} {h':Heap},(∃ o,s.heap.get? a=some o/\H a=none)->Heap.SameBut a s.heap h'->HOk X.prog X.w H h':=λ{a h'} ha f b ob e=>by
  obtain⟨_,_,B⟩:=ha;show(I.hok b ob e).stay (λc Y l q=>(f.2 c ?_).trans q) (λ_ q=>q) λ_ _ q=>q;rintro rfl;rcases l with rfl | l
  . rw[B]at e;cases e
  . rw[B]at l;cases l
 rcases t with C | C
 . show wpAny_storeName_local C hn (λh' aa f=>?_) O;obtain⟨oL,_,_,ab,_⟩:=id hn;show h _ (I.ok,I.os,I.bare,(λb o e n J t=>?_,λb o e n J t=>?_,I.base.free,λb o e t=>?_,I.base.tups,I.base.frzs,I.base.tbls),(_,aa,λj y v' e1 e2 e3=>?_),λy c e=>?_,I.free,I.freeC,λp hp=>?_,g (oL,ab,I.free) f,by simpa using I.len) (_,f,.inl rfl)
   . show(f.2 b<|P5<|PU (PQ e) I.ok.above).trans (I.base.keep b o e n J t)
   . obtain⟨sl,e1⟩:=I.base.slot b o e n J t;show(sl,(f.2 b<|P5<|PU (PQ e) I.ok.above).trans e1)
   . obtain⟨Z,e1⟩:=I.base.there b o e t;show(Z,(f.2 b<|P5<|PU (PQ e) I.ok.above).trans e1)
   . by_cases D:j=i
     . subst D;rw[P]at e1;cases e1;rw[RW R]at e2;cases e2;show(u,r,.inl (C,by simp))
     . rw[Ss<|Rt D]at e2;obtain⟨u',r',q⟩:=hl j y v' e1 e2 e3;show(u',r',?_);rcases q with ⟨k,e⟩ | ⟨k,c,e,z⟩
       . show .inl (k,?_);have:y≠x:=λe=>D<|wm hN e1<|e ▸ P;simp[this,e]
       . show .inr (k,c,e,z.sameBut f<|F y c e)
   . obtain⟨Y,z⟩:=I.cell y c e;show(Y,z.sameBut f<|F y c e)
   . obtain⟨e,n,W,nf,d⟩:=I.pin p hp;show((f.2 p.1 W).trans e,n,W,nf,d)
 . have G:X.fn x=true:=by
    rcases hf with z | z
    . show z
    . rw[z]at C;cases C
   obtain⟨c,l⟩:=I.ok.has x<|.inl C;obtain⟨Y,z⟩:=I.cell x c l;show wpAny_storeName_cell I.ok.kind C l z<|λh' K f=>?_;obtain⟨oc,T,S⟩:=id z;show h {s with heap:=h'} (I.ok,I.os,I.bare,(λb o e n J t=>?_,λb o e n J t=>?_,I.base.free,λb o e t=>?_,I.base.tups,I.base.frzs,I.base.tbls),(m,hn.sameBut f<|Rt<|F x c l,λj y v' e1 e2 e3=>?_),λy U e=>?_,I.free,I.freeC,λp hp=>?_,g (oc,T,I.freeC x c l) f,by simpa using I.len) (c,f,.inr l)
   . show(f.2 b<|P5<|PU (PQ e)<|I.ok.cab x c G l).trans (I.base.keep b o e n J t)
   . obtain⟨sl,e1⟩:=I.base.slot b o e n J t;show(sl,(f.2 b<|P5<|PU (PQ e)<|I.ok.cab x c G l).trans e1)
   . obtain⟨Z,e1⟩:=I.base.there b o e t;show(Z,(f.2 b<|P5<|PU (PQ e)<|I.ok.cab x c G l).trans e1)
   . by_cases D:j=i
     . subst D;rw[P]at e1;cases e1;rw[RW R]at e2;cases e2;show(u,r,.inr (.inl C,c,l,K))
     . rw[Ss<|Rt D]at e2;obtain⟨u',r',q⟩:=hl j y v' e1 e2 e3;show(u',r',?_);rcases q with q | ⟨k,U,e,z'⟩
       . show .inl q
       . show .inr (k,U,e,z'.sameBut f ?_);rintro rfl;show D (wm hN e1<|I.ok.inj _ _ _ e l ▸ P)
   . by_cases L:U=c
     . subst L;show(_,K)
     . obtain⟨w2,z2⟩:=I.cell y U e;show(w2,z2.sameBut f L)
   . obtain⟨e,n,W,nf,d⟩:=I.pin p hp;show((f.2 p.1 ?_).trans e,n,W,nf,d);intro q;rw[q,T]at e;have q':oc=p.2:=QN e;show d Y (by rw[← q'];show S)
def  wn {M:Model} {A:Around} {E:Value->Shared->Prop} {i:Nat} {x:Str} {v:V} {u:Value} {Q:Unit->Shared->Prop} (I:Inv X Pc σ H s) (a:X.N.Nodup) (b:X.N[i]? =some x) (d:Loc X.env.scope x) (r:RelV v u)
  (h:∀ s',Inv X Pc (σ.set i<|some v) H s'->Q () s') (c:X.fn x=true\/X.env.scope.names.lookup x=some .local:=by first | show .inl rfl | show .inr rfl | assumption):wpAny M A (storeName X.env x u) Q E s:=
 zL I a b d r (λs' e _=>h s' e) c
def Inv.call' {s':Shared} {ch:List Addr} (I:Inv X Pc σ H s) (k:s'.os=s.os) (u:Un (frs X.stack) ch H H' s.heap s'.heap) (d:HOk X.prog X.w H' s'.heap) (j:AllBare s'.gens)
  (a:∀ b∈ch,(b∈X.ex\/X.s₀.heap.objs.size<=b)/\b≠X.env.locals/\(∀ x c,X.env.cells.lookup x=some c->c≠b)/\∀ p∈X.pn++Pc,p.1≠b):Inv X Pc σ H' s':=by
 obtain⟨h',g,f,h,i⟩:=s';have e:i=s.os:=k;subst e;show I.call (g':=g) (t':=h) (d':=f) u d j a
end
abbrev XK:=Value->Option Addr->Hp->Prop
abbrev St:=List (Option V)
abbrev VK:=V->Hp->Prop
abbrev TE:=St->Hp->VK->Prop
abbrev TT:=St->Hp->(Bool->Hp->Prop)->Prop
abbrev TA:=St->Hp->(List V->Hp->Prop)->Prop
structure Ends where
 nx:St->Hp->Prop
 rt:VK
 bk:St->Hp->Prop:=λ_ _=>False
 ct:St->Hp->Prop:=λ_ _=>False
abbrev TS:=Ends->St->Hp->Prop
def  EP(X:Cx)(b:List (Addr × Obj))(σ:St)(Q:VK)(u:Value)(s':Shared):Prop:=∃ v a,Inv X b σ a s'/\RelV v u/\Q v a
def  TP(X:Cx)(c:List (Addr × Obj))(σ:St)(Q:Bool->Hp->Prop)(b:Bool)(s':Shared):Prop:=∃ a,Inv X c σ a s'/\Q b a
def  AP(X:Cx)(b:List (Addr × Obj))(σ:St)(Q:List V->Hp->Prop)(us:List Value)(s':Shared):Prop:=∃ vs a,Inv X b σ a s'/\Vals vs us/\Q vs a
def  SP(X:Cx)(c:List (Addr × Obj))(D:Ends)(f:Flow)(s':Shared):Prop:=
 match f with
 | .next=>∃ b a,Inv X c b a s'/\D.nx b a
 | .brk=>∃ b a,Inv X c b a s'/\D.bk b a
 | .cont=>∃ b a,Inv X c b a s'/\D.ct b a
 | .ret u=>∃ v b a,Inv X c b a s'/\RelV v u/\D.rt v a
def  PE(X:Cx)(e:Expr)(t:TE):Prop:=
 ∀(a:List (Addr × Obj)) (s:Shared) (σ:St) (H:Hp) (Q:VK),Inv X a σ H s->t σ H Q->wpAny (model X.prog X.w) X.A (eval e X.env) (EP X a σ Q) X.xe s
def  PT(X:Cx)(e:Expr)(t:TT):Prop:=
 ∀(a:List (Addr × Obj)) (s:Shared) (σ:St) (H:Hp) (Q:Bool->Hp->Prop),Inv X a σ H s->t σ H Q->wpAny (model X.prog X.w) X.A (isTrue e X.env<|eval e X.env) (TP X a σ Q) X.xe s
def  PW(X:Cx)(e:Expr)(t:TT):Prop:=
 ∀(b:Sem Value) (a:List (Addr × Obj)) (s:Shared) (σ:St) (H:Hp) (Q:Bool->Hp->Prop),Inv X a σ H s->t σ H Q->wpAny (model X.prog X.w) X.A (isTrue e X.env b) (TP X a σ Q) X.xe s
def  PW.pt{X:Cx}{e:Expr}{t:TT}(h:PW X e t):PT X e t:=h _
abbrev SW:=@PW.pt
def  PA(X:Cx)(c:List Expr)(t:TA):Prop:=
 ∀(a:Pos) (b:List (Addr × Obj)) (s:Shared) (σ:St) (H:Hp) (Q:List V->Hp->Prop),Inv X b σ H s->t σ H Q->wpAny (model X.prog X.w) X.A (spliced<|backTo a<|starEach c X.env) (AP X b σ Q) X.xe s
def  PS(X:Cx)(st:Stmt)(t:TS):Prop:=
 ∀(a:List (Addr × Obj)) (s:Shared) (σ:St) (H:Hp) (D:Ends),Inv X a σ H s->t D σ H->wpAny (model X.prog X.w) X.A (exec st X.env) (SP X a D) X.xe s
def  PSs(X:Cx)(st:List Stmt)(t:TS):Prop:=
 ∀(a:List (Addr × Obj)) (s:Shared) (σ:St) (H:Hp) (D:Ends),Inv X a σ H s->t D σ H->wpAny (model X.prog X.w) X.A (execs st X.env) (SP X a D) X.xe s
def  thn{α:Type}{t:Sem α}{Q b:α->Shared->Prop}{M:Model}{A:Around}{E:Value->Shared->Prop}{s:Shared}(h:wpAny M A t Q E s)(c:∀ a s,Q a s->b a s):wpAny M A t b E s:=P7 h c λ_ _ x=>x
section
variable{X:Cx}
def  vB:Option (Option V)->(V->Prop)->Prop
 | some (some v),k=>k v
 | _,_=>False
def Li{o:Option (Option V)}{k:V->Prop}(h:vB o k):∃ v,o=some (some v)/\k v:=by
 rcases o with _ | _ | v
 . cases h
 . cases h
 . show(v,rfl,h)
def  lw{o:Option (Option V)}{k:V->Prop}{v:V}(e:o=some (some v))(h:k v):vB o k:=by subst e;show h
def  tVar(i:Nat):TE:=λσ H Q=>vB σ[i]? λv=>Q v H
def  tC(v:V):TE:=λ_ H Q=>Q v H
def J2{i:Nat}{x:Str}{pos:Pos}(k:X.N[i]? =some x)(n:Vis X.env.scope x)(g:(x==("__debug__":Str))=false:=by decide)(f:(x==("__classdict__":Str))=false:=by decide):PE X (.Name x pos) (tVar i):=by
 intro p s σ H Q I h;obtain⟨v,e,h⟩:=Li h;obtain⟨m,o,q⟩:=I.loc;obtain⟨u,r,l⟩:=q i x v k e n;have d:EP X p σ Q u s:=(v,H,I,r,h);rcases l with ⟨b,t⟩ | ⟨b,c,j,a⟩
 . show wpAny_Name (wpAny_loadName_local I.ok.kind b o t d) g
 . rcases b with b | b
   . show wpAny_Name (wpAny_loadName_cell I.ok.kind b j a d) g
   . show wpAny_Name (wpAny_loadName_free I.ok.kind b j a d f) g
def  ai{i j pos}:PE X (.Constant (.int i) j pos) (tC<|.int i):=λ_ _ _ H _ I h=>wpAny_Constant_int (.int i,H,I.tok _,(_,rfl),h)
def  kC{b j pos}:PE X (.Constant (.bool b) j pos) (tC<|.bl b):=λ_ _ _ H _ I h=>Constant_bool (.bl b,H,I,rfl,h)
def  gH{j pos}:PE X (.Constant .none j pos) (tC .non):=λ_ _ _ H _ I h=>Constant_none (.non,H,I,rfl,h)
def  ae{x j pos}:PE X (.Constant (.str x) j pos) (tC<|.str x):=λ_ _ _ H _ I h=>Calls.Constant_str (.str x,H,I.tok _,(_,rfl),h)
def  Gl(X:Cx)(x:Str):Prop:=X.env.kindOf x=some .globalImplicit
def  jT {E:Value->Shared->Prop} {a:List (Addr × Obj)} {s:Shared} {σ:St} {H:Hp} {x:Str} {u:Value} {pos:Pos} {Q:Value->Shared->Prop} (I:Inv X a σ H s) (b:Gl X x) (d:X.mg x=some u) (h:Q u s)
  (c:(x==("__debug__":Str))=false:=by decide):wpAny (model X.prog X.w) X.A (eval (.Name x pos) X.env) Q E s:=
 SL I.ok.kind b (Calls.loadGlobal_global (by rw[I.ok.glob];show I.mod.glob.keeps I.bk) d h) c
def lx {E:Value->Shared->Prop} {d:List (Addr × Obj)} {s:Shared} {σ:St} {H:Hp} {x:Str} {u:Value} {pos:Pos} {Q:Value->Shared->Prop} (I:Inv X d σ H s) (c:Gl X x) (f:X.mg x=none) (a:bootBuiltins x=some u) (h:Q u s)
  (b:x≠"__name__":=by decide) (e:(x==("__debug__":Str))=false:=by decide):wpAny (model X.prog X.w) X.A (eval (.Name x pos) X.env) Q E s:=by
 obtain⟨g,h1,h2⟩:=I.mod.blt;show SL I.ok.kind c (Calls.loadGlobal_builtin (by rw[I.ok.glob];show I.mod.glob.keeps I.bk) f (by rw[I.ok.blt];show h1.keeps I.bk) ((h2 x b).trans a) h) e
def aW{x:Str}{v:V}{u:Value}{pos:Pos}(a:Gl X x)(c:X.mg x=some u)(r:RelV v u)(b:(x==("__debug__":Str))=false:=by decide):PE X (.Name x pos) (tC v):=
 λ_ _ _ H _ I h=>jT I a c (v,H,I,r,h) b
def fU{x:Str}{v:V}{u:Value}{pos:Pos}(c:Gl X x)(e:X.mg x=none)(a:bootBuiltins x=some u)(r:RelV v u)(b:x≠"__name__":=by decide)(d:(x==("__debug__":Str))=false:=by decide):PE X (.Name x pos) (tC v):=
 λ_ _ _ H _ I h=>lx I c e a (v,H,I,r,h) b d
variable{a b:Expr}{ta tb:TE}{pos:Pos}
def  PC(X:Cx)(f:CmpOp)(a b:Expr)(t:TE):Prop:=
 ∀(c:List (Addr × Obj)) (s:Shared) (σ:St) (H:Hp) (Q:VK),Inv X c σ H s->t σ H Q->
  wpAny (model X.prog X.w) X.A (eval a X.env) (λv d=>wpAny (model X.prog X.w) X.A (eval b X.env) (λu e=>wpAny (model X.prog X.w) X.A (compareOp f v u) (EP X c σ Q) X.xe e) X.xe d) X.xe s
def  tB(t:TE):TT:=λσ H Q=>t σ H λx a=>∃ c,x=.bl c/\Q c a
def J3{e:CmpOp}{t:TE}(h:PC X e a b t)(h1:behindInMarks e b=false:=by first | show nobehind _ #[1] #[1] | rfl):PT X (.Compare a [e] [b] pos) (tB t):=by
 intro k s σ H Q I f;show Tq (thn (h k s σ H _ I f) λv m h1=>thn h1 λu n h2=>thn h2 λc o ⟨x,j,g,l,i⟩=>?_) h1;obtain⟨d,rfl,q⟩:=i;cases l;show QW (j,g,q)
def bv{e:Expr}{t:TE}(h:PE X e t)(c:∀ a,isTrue e X.env a=(do let v ← a;standAt e.pos;holding [v]<|truthy v):=by intro _;rfl):PT X e (tB t):=by
 intro i s σ H Q I b;show isTrue_plain (thn (h i s σ H _ I b) λv l ⟨x,g,k,j,f⟩=>?_)<|c _;obtain⟨d,rfl,q⟩:=f;cases j;show QW (g,k,q)
variable{tA tB':TT}{rest:List Expr}
def  tAnd(t u:TT):TT:=λσ H Q=>t σ H λc a=>if c=true then u σ a Q else Q false a
def  tOr(t u:TT):TT:=λσ H Q=>t σ H λc a=>if c=true then Q true a else u σ a Q
def  tNot(t:TT):TT:=λσ H Q=>t σ H λc a=>Q (!c) a
def uQ(b:PT X a tA):PW X (.BoolOp .And [a] pos) tA:=by
 intro g d s σ H Q I h;show isTrue_and (thn (b d s σ H Q I h) λc f e=>?_)
 cases c with
 | true=>show isTrue_and_nil e
 | false=>show e
def jd(b:PT X a tA):PW X (.BoolOp .Or [a] pos) tA:=by
 intro g d s σ H Q I h;show isTrue_or (thn (b d s σ H Q I h) λc f e=>?_)
 cases c with
 | false=>show isTrue_or_nil e
 | true=>show e
def wY(i:PT X a tA)(l:PW X (.BoolOp .And (b::rest) pos) tB'):PW X (.BoolOp .And (a::b::rest) pos) (tAnd tA tB'):=by
 intro j f s σ H Q I h;show isTrue_and (thn (i f s σ H _ I h) λc k ⟨e,g,d⟩=>?_)
 cases c with
 | true=>show l j f k σ e Q g d
 | false=>show(e,g,d)
def ii(i:PT X a tA)(l:PW X (.BoolOp .Or (b::rest) pos) tB'):PW X (.BoolOp .Or (a::b::rest) pos) (tOr tA tB'):=by
 intro j f s σ H Q I h;show isTrue_or (thn (i f s σ H _ I h) λc k ⟨e,g,d⟩=>?_)
 cases c with
 | true=>show(e,g,d)
 | false=>show l j f k σ e Q g d
def cj(d:PT X a tA):PT X (.UnaryOp .Not a pos) (tNot tA):=by
 intro e s σ H Q I h;show isTrue_not (d e s σ H (λc b=>Q (!c) b) I h)
def  tAndV(ta tb:TE):TE:=λσ H Q=>ta σ H λx a=>∃ c,x=.bl c/\if c=true then tb σ a Q else Q (.bl false) a
def  tOrV(ta tb:TE):TE:=λσ H Q=>ta σ H λx a=>∃ c,x=.bl c/\if c=true then Q (.bl true) a else tb σ a Q
def  tNotV(ta:TE):TE:=λσ H Q=>ta σ H λx a=>∃ c,x=.bl c/\Q (.bl<|!c) a
def  dh{op}{t:TE}(h:PE X a t):PE X (.BoolOp op [a] pos) t:=λb s σ H Q I c=>BoolOp_one (h b s σ H Q I c)
def bO(i:PE X a ta)(l:PE X (.BoolOp .And (b::rest) pos) tb):PE X (.BoolOp .And (a::b::rest) pos) (tAndV ta tb):=by
 intro f s σ H Q I h;show BoolOp_and<|thn (i f s σ H _ I h) λv j ⟨x,e,g,k,d⟩=>?_;obtain⟨c,rfl,d⟩:=d;cases k;show QW ?_
 cases c with
 | true=>show l f j σ e Q g d
 | false=>show(.bl false,e,g,rfl,d)
def Lj(i:PE X a ta)(l:PE X (.BoolOp .Or (b::rest) pos) tb):PE X (.BoolOp .Or (a::b::rest) pos) (tOrV ta tb):=by
 intro f s σ H Q I h;show BoolOp_or<|thn (i f s σ H _ I h) λv j ⟨x,e,g,k,d⟩=>?_;obtain⟨c,rfl,d⟩:=d;cases k;show QW ?_
 cases c with
 | false=>show l f j σ e Q g d
 | true=>show(.bl true,e,g,rfl,d)
def Fz(d:PE X a ta):PE X (.UnaryOp .Not a pos) (tNotV ta):=by
 intro f s σ H Q I h;show UnaryOp_<|thn (d f s σ H _ I h) λv j ⟨x,e,i,g,b⟩=>?_;obtain⟨c,rfl,b⟩:=b;cases g;show not_of (QW (.bl<|!c,e,i,rfl,b))
def  tIf(t:TT)(ta tb:TE):TE:=λσ H Q=>t σ H λc a=>if c=true then ta σ a Q else tb σ a Q
def jH{c:Expr}(l:PT X c tA)(k:PE X a ta)(m:PE X b tb):PE X (.IfExp c a b pos) (tIf tA ta tb):=by
 intro e s σ H Q I h;show wpAny_IfExp (thn (l e s σ H _ I h) λd i ⟨g,j,f⟩=>?_)
 cases d with
 | true=>show k e i σ g Q j f
 | false=>show m e i σ g Q j f
end
def  SqL(K:Frag)(H:Hp)(a:Addr)(xs:List V):Prop:=
 Rd H a (.lst xs)\/
  ∃(o:Obj) (b:Array Value) (n:Nat),K.lookup a=some o/\o.cls=.type "list"/\o.dict=none/\o.data=.seq b n/\b.size<=sizeLine/\Vals xs b.toList
def  SqT(K:Frag)(H:Hp)(a:Addr)(xs:List V):Prop:=
 Rd H a (.tup xs)\/
  ∃(o:Obj) (b:Array Value) (n:Nat),K.lookup a=some o/\o.cls=.type "tuple"/\o.data=.seq b n/\b.size<=sizeLine/\Vals xs b.toList
def  absV:Value->Option V
 | .none=>some .non
 | .bool b=>some (.bl b)
 | .int i _=>⇑i
 | .str x _=>some (.str x)
 | .bytes b _=>some (.byt b)
 | .float b _=>some (.flt b)
 | .ref a=>↑a
 | .type n=>some (.ty n)
 | _=>none
variable{u:Value}
def RelV.abs{x:V}(r:RelV x u):absV u=some x:=by
 cases x with
 | non=>cases r;rfl
 | bl _=>cases r;rfl
 | int _=>obtain⟨t,rfl⟩:=r;rfl
 | str _=>obtain⟨t,rfl⟩:=r;rfl
 | byt _=>obtain⟨t,rfl⟩:=r;rfl
 | flt _=>obtain⟨t,rfl⟩:=r;rfl
 | ref _=>cases r;rfl
 | ty _=>cases r;rfl
def  RelV.inj{x y:V}(r:RelV x u)(q:RelV y u):x=y:=QN (r.abs.symm.trans q.abs)
def Vals.inj:∀{xs ys:List V} {us:List Value},Vals xs us->Vals ys us->xs=ys
 | _,_,_,.nil,.nil=>rfl
 | _,_,_,.cons r t,.cons r' t'=>by rw[r.inj r',Vals.inj t t']
section
variable{X:Cx}{Pc:List (Addr × Obj)}{σ:St}{H:Hp}{s:Shared}{a:Addr}{xs ys:List V}
def  SqL.of{K:Frag}(h:H a=↥xs):SqL K H a xs:=.inl (.inl h)
abbrev Qm:=@SqL.of
def  SqT.of{K:Frag}(h:H a=some (.tup xs)):SqT K H a xs:=.inl (.inl h)
abbrev TH:=@SqT.of
def Inv.list(I:Inv X Pc σ H s)(h:SqL X.K H a xs):∃ Pf:List Value,Vals xs Pf/\PlainL s.heap a Pf.toArray/\xs.length<=sizeLine:=by
 rcases h with h | ⟨o,Pf,n,b,c,d,f,g,r⟩
 . obtain⟨z,Pf,n,r,e⟩:=h.ok I.hok;show(Pf,r,(_,n,e,rfl,rfl,rfl),z)
 . show(Pf.toList,r,(o,n,I.kIn a o b,c,d,by simpa using f),?_);have e:=r.length;simp only[SB]at e;lia
def Inv.tuple(I:Inv X Pc σ H s)(h:SqT X.K H a xs):∃ Pf:List Value,Vals xs Pf/\IsTup s.heap a Pf.toArray/\xs.length<=sizeLine:=by
 rcases h with h | ⟨o,Pf,n,b,c,d,f,r⟩
 . obtain⟨z,Pf,r,p⟩:=h.ok I.hok;show(Pf,r,p,z)
 . show(Pf.toList,r,(o,I.kIn a o b,c,n,by simpa using d),?_);have e:=r.length;simp only[SB]at e;lia
def Inv.list_inj(I:Inv X Pc σ H s)(h:SqL X.K H a xs)(h':SqL X.K H a ys):xs=ys:=by
 obtain⟨g,r,⟨o,n,e,_,_,d⟩,_⟩:=I.list h;obtain⟨b,i,⟨j,k,c,_,_,f⟩,_⟩:=I.list h';rw[e]at c;cases c;rw[d]at f;injection f with d1 _;have:g=b:=by simpa using congrArg Array.toList d1
 subst this;show r.inj i
def Inv.tuple_inj(I:Inv X Pc σ H s)(h:SqT X.K H a xs)(h':SqT X.K H a ys):xs=ys:=by
 obtain⟨g,r,⟨o,e,_,n,d⟩,_⟩:=I.tuple h;obtain⟨b,i,⟨j,c,_,k,f⟩,_⟩:=I.tuple h';rw[e]at c;cases c;rw[d]at f;injection f with d1 _;have:g=b:=by simpa using congrArg Array.toList d1
 subst this;show r.inj i
end
abbrev Cx.wish(X:Cx)(E:Value->Shared->Prop):Cx:={X with xe:=E}
abbrev Cx.nox(X:Cx):Cx:=X.wish λ_ _=>False
variable{X:Cx}
def  Cx.Ok.wish(a:X.Ok)(E:Value->Shared->Prop):(X.wish E).Ok:=
 (a.mod,a.kind,a.glob,a.blt,a.above,a.inj,a.has,a.cab,a.hd,a.frames,a.stk,a.exf,a.bs,a.bsz,a.noex,a.exfs,a.funs,a.frf)
variable{E:Value->Shared->Prop}
def  Cx.Ok.unwish(a:(X.wish E).Ok):X.Ok:=
 (a.mod,a.kind,a.glob,a.blt,a.above,a.inj,a.has,a.cab,a.hd,a.frames,a.stk,a.exf,a.bs,a.bsz,a.noex,a.exfs,a.funs,a.frf)
section
variable{X:Cx}{Pc:List (Addr × Obj)}{σ:St}{H:Hp}{s:Shared}{E:Value->Shared->Prop}
def  Inv.wish(I:Inv X Pc σ H s)(E:Value->Shared->Prop):Inv (X.wish E) Pc σ H s:=(I.ok.wish E,I.os,I.bare,I.base,I.loc,I.cell,I.free,I.freeC,I.pin,I.hok,I.len)
def  Inv.unwish(I:Inv (X.wish E) Pc σ H s):Inv X Pc σ H s:=(I.ok.unwish,I.os,I.bare,I.base,I.loc,I.cell,I.free,I.freeC,I.pin,I.hok,I.len)
def SP.unwish{D:Ends}{f:Flow}{s':Shared}(h:SP (X.wish E) Pc D f s'):SP X Pc D f s':=by
 cases f with
 | next=>obtain⟨b,a,I,q⟩:=h;show(b,a,I.unwish,q)
 | brk=>obtain⟨b,a,I,q⟩:=h;show(b,a,I.unwish,q)
 | cont=>obtain⟨b,a,I,q⟩:=h;show(b,a,I.unwish,q)
 | ret u=>obtain⟨v,b,a,I,r,q⟩:=h;show(v,b,a,I.unwish,r,q)
def  PSs.nox{st:List Stmt}{t:TS}(h:PSs X.nox st t):PSs X st t:=λPc s σ H D I a=>
 P7 (h Pc s σ H D (I.wish _) a) (λ_ _ q=>q.unwish) λ_ _ z=>False.elim z
end
section
variable{X:Cx}{st:Stmt}{rest:List Stmt}{t u:TS}{e:Expr}{te:TE}{pos:Pos}
def  tNext:TS:=λD σ H=>D.nx σ H
def  tSeq(t u:TS):TS:=λD σ H=>t {D with nx:=u D} σ H
def  ar:PSs X [] tNext:=λ_ _ σ H _ I h=>RI (σ,H,I,h)
def ad(h1:PS X st t)(h2:PSs X rest u):PSs X (st::rest) (tSeq t u):=by
 intro a s σ H D I h;show S7 (thn (h1 a s σ H {D with nx:=u D} I h) λf b q=>?_)
 cases f with
 | next=>
  obtain⟨e,c,d,q⟩:=q;show h2 a b e c D d q
 | ret v=>show q
 | brk=>show q
 | cont=>show q
def af(h1:PS X st t):PSs X [st] t:=by
 intro a s σ H D I h;show S7 (thn (h1 a s σ H D I h) λf b q=>?_)
 cases f with
 | next=>show RI q
 | ret v=>show q
 | brk=>show q
 | cont=>show q
def Inv.quiet{a:List (Addr × Obj)}{σ:St}{H:Hp}{s:Shared}(I:Inv X a σ H s):interactive X.env=false:=by simp[interactive,I.ok.kind]
def  tDrop(te:TE):TS:=λD σ H=>te σ H λ_ a=>D.nx σ a
def ji(a:PE X e te)(f:swapsWith e none pos.line X.env=pure false:=by rfl):PS X (.Expr e pos) (tDrop te):=by
 intro d s σ H D I h;show wpAny_Expr_any (thn (a d s σ H _ I h) λv i ⟨x,c,g,j,b⟩=>(σ,c,g,b)) I.quiet f
def  tRet(te:TE):TS:=λD σ H=>te σ H D.rt
def am(a:PE X e te):PS X (.Return (some e) pos) (tRet te):=by
 intro d s σ H D I h;show wpAny_Return_some (thn (a d s σ H _ I h) λv i ⟨x,c,g,f,b⟩=>(x,σ,c,g,f,b))
def  tRetN:TS:=λD _ H=>D.rt .non H
def  tIfS(c:TT)(t u:TS):TS:=λD σ H=>c σ H λb a=>if b=true then t D σ a else u D σ a
def aA{c:Expr}{a b:List Stmt}{i:TT}(m:PT X c i)(l:PSs X a t)(n:PSs X b u):PS X (.If c a b pos) (tIfS i t u):=by
 intro e s σ H D I h;show wpAny_If (thn (m e s σ H _ I h) λd j ⟨g,k,f⟩=>?_)
 cases d with
 | true=>show l e j σ g D k f
 | false=>show n e j σ g D k f
end
abbrev TG:=V->St->Hp->(St->Hp->Prop)->Prop
abbrev TGs:=List V->St->Hp->(St->Hp->Prop)->Prop
def  PG(X:Cx)(a:Expr)(t:TG):Prop:=
 ∀(c:List (Addr × Obj)) (s:Shared) (σ:St) (H:Hp) (v:V) (u:Value) (Q:St->Hp->Prop),Inv X c σ H s->RelV v u->t v σ H Q->
  wpAny (model X.prog X.w) X.A (assign a X.env u) (λ_ e=>∃ d b,Inv X c d b e/\Q d b) X.xe s
def  PGs(X:Cx)(ts:List Expr)(t:TGs):Prop:=
 ∀(b:List (Addr × Obj)) (s:Shared) (σ:St) (H:Hp) (vs:List V) (d:List Value) (Q:St->Hp->Prop),Inv X b σ H s->Vals vs d->t vs σ H Q->
  wpAny (model X.prog X.w) X.A (assignInOrder ((assignEach ts X.env).map (·.2)) d) (λ_ e=>∃ c a,Inv X b c a e/\Q c a) X.xe s
abbrev TSet:=V->V->V->Hp->(Hp->Prop)->Prop
section
variable{X:Cx}{pos:Pos}
def  gName(i:Nat):TG:=λv σ H Q=>Q (σ.set i<|some v) H
def bj{i:Nat}{x:Str}(a:X.N.Nodup)(b:X.N[i]? =some x)(c:Loc X.env.scope x)(d:X.fn x=true\/X.env.scope.names.lookup x=some .local:=by first | show .inl rfl | show .inr rfl | assumption):PG X (.Name x pos) (gName i):=by
 intro g s σ H v u Q I r h;show wpAny_assign_Name (wn I a b c r (λf e=>(_,H,e,h)) d)
def  gNil:TGs:=λvs σ H Q=>vs=[]/\Q σ H
def  gCons(t:TG)(u:TGs):TGs:=λvs σ H Q=>∃ v r,vs=v::r/\t v σ H λb a=>u r b a Q
def uR:PGs X [] gNil:=by
 intro a s σ H vs b Q I r h;obtain⟨e,h⟩:=h;subst e;cases r;show assignInOrder_nil (σ,H,I,h)
def jI {e:Expr} {a:List Expr} {t:TG} {u:TGs} (h1:PG X e t) (h2:PGs X a u)
  (j:(assignEach (e::a) X.env).map (·.2)=assign e X.env::(assignEach a X.env).map (·.2):=by rfl):PGs X (e::a) (gCons t u):=by
 intro b s σ H vs m Q I r h;obtain⟨v,l,e1,h⟩:=h;subst e1
 cases r with
 | cons r d=>
  rw[j];show assignInOrder_cons<|thn (h1 b s σ H _ _ _ I r h) λ_ i ⟨c,g,k,f⟩=>?_;show h2 b i c g _ _ Q k d f
def  gTup(K:Frag)(n:Nat)(t:TGs):TG:=λv σ H Q=>∃ a b,v=.ref a/\SqT K H a b/\b.length=n/\t b σ H Q
def wZ {c:List Expr} {k:Nat} {t:TGs} {n:Nat} (j:X.calm=true) (h:PGs X c t)
  (m:(assignEach c X.env).length=n:=by rfl) (f:(assignEach c X.env).findIdx? (·.1)=none:=by rfl):PG X (.Tuple c k pos) (gTup X.K n t):=by
 intro g s σ H v u Q I r d;obtain⟨a,p,e1,z,q,d⟩:=d;subst e1;cases r;obtain⟨B,i,x,A⟩:=I.tuple z;show assign_Tuple_tuple (I.ok.hd j) x (by simp[m,← q,i.length]) f λl w=>?_;have y:Inv X g σ H {s with heap:=l}:=I.kept (t':=s.toks) λb o e=>w b o (P5<|PQ e) e;show h g _ σ H p _ Q y (by simpa using i) d
def  gSub(a d:TE)(t:TSet):TG:=λv σ H Q=>a σ H λo b=>d σ b λi c=>t o i v c λe=>Q σ e
def  tAsg(b:TE)(g:TG):TS:=λD σ H=>b σ H λx a=>g x σ a D.nx
def  J4 {a e:Expr} {b:TE} {g:TG} (f:PE X e b) (k:PG X a g) (m:swapsWithSole [a] e pos.line X.env=pure false:=by rfl) (d:swappedStores [a] e X.env=pure none:=by rfl)
  (h1:(assignEach [a] X.env).map (·.2)=[assign a X.env]:=by rfl):PS X (.Assign [a] e pos) (tAsg b g):=by
 intro c s σ H D I h;show wpAny_Assign_stores (thn (f c s σ H _ I h) λv l ⟨x,j,o,n,i⟩=>?_) m d;rw[h1];show thn (k c l σ j x v _ o n i) λ_ p q=>q
def  Bm{i:Nat}{x:Str}{e:Expr}{b:TE}{a:Pos}(c:X.N.Nodup)(d:X.N[i]? =some x)(n:Loc X.env.scope x)(f:PE X e b)(q:swapsWith e (some<|.Name x a) pos.line X.env=pure false:=by rfl)(m:X.fn x=true\/X.env.scope.names.lookup x=some .local:=by first | show .inl rfl | show .inr rfl | assumption):
  PS X (.Assign [.Name x a] e pos) (tAsg b<|gName i):=by
 intro l s σ H D I h;show wpAny_Assign_Name (thn (f l s σ H _ I h) λv r ⟨y,j,p,o,g⟩=>?_) q;show wn p c d n o (λt k=>(_,j,k,g)) m
end
structure It where
 go:Nat->Hp->Prop
 yld:Nat->Hp->V->Hp->Prop
 stop:Nat->Hp->Prop
def  FpOk(X:Cx)(a:List (Addr × Obj))(H:Hp)(b:Addr):Prop:=
 H b=none/\b≠X.env.locals/\b∉X.fs/\(b∈X.ex\/X.s₀.heap.objs.size<=b)/\(∀ x c,X.env.cells.lookup x=some c->c≠b)/\∀ p∈X.pn++a,p.1≠b
variable{s:Shared}
def Inv.fpOk{f:List (Addr × Obj)}{σ:St}{H d:Hp}{b:Addr}(I:Inv X f σ H s)(a:s.heap.objs.size<=b)(h:d b=none):FpOk X f d b:=by
 show(h,SI<|PU I.lt a,I.nofs a,.inr<|Pk I.sz a,λx c e z=>?_,λp g z=>?_)
 . obtain⟨v,q⟩:=I.cell x c e;show absurd (PU q.lt (by rw[z];show a)) (QM _)
 . show absurd (PU (PQ (I.pin p g).1) (by rw[z];show a)) (QM _)
structure Turn(P:Program)(w:World)(K:Frag)(tg:Expr)(J:It)(fp:List Addr)(it:Addr)(tn:Nat->Heap->Prop):Prop where
 mem:it∈fp
 obj:∀ i h,tn i h->∀ b∈fp,∃ o,h.get? b=some o/\∀ v,o.data≠.cell v
 keep:∀ i h h',tn i h->(∀ b∈fp,∀ o,h.get? b=some o->h'.get? b=some o)->tn i h'
 item:∀(X:Cx),X.prog=P->X.w=w->X.K=K->X.calm=true->∀(i:Nat) (Pc:List (Addr × Obj)) (s:Shared) (σ:St) (H:Hp) (E:Value->Shared->Prop),Inv X Pc σ H s->(∀ b∈fp,FpOk X Pc H b)->tn i s.heap->J.go i H->
  wpAny (model P w) X.A (pyNext<|.ref it) (λr s1=>∃ u,r=some u/\
   wpAny (model P w) X.A (letOwnedTupleGo tg (.ref it) u) (λ_ s2=>∃ x H',Inv X Pc σ H' s2/\RelV x u/\J.yld i H x H'/\tn (i+1) s2.heap/\∀ b∈fp,H' b=none) E s1) E s
 done:∀(X:Cx),X.prog=P->X.w=w->X.K=K->X.calm=true->∀(i:Nat) (Pc:List (Addr × Obj)) (s:Shared) (σ:St) (H:Hp) (E:Value->Shared->Prop),Inv X Pc σ H s->(∀ b∈fp,FpOk X Pc H b)->tn i s.heap->J.stop i H->
  wpAny (model P w) X.A (pyNext<|.ref it) (λr s1=>r=none/\Inv X Pc σ H s1) E s
 self:∀(A:Around) (i:Nat) (s:Shared) (Q:Value->Shared->Prop) (E:Value->Shared->Prop),tn i s.heap->Q (.ref it) s->wpAny (model P w) A (pyIter<|.ref it) Q E s
abbrev TI:=St->Hp->(It->Hp->Prop)->Prop
def  PIE(X:Cx)(g:List (Addr × Obj))(σ:St)(i:Expr)(R:It->Hp->Prop)(c:Value)(h:Shared):Prop:=
 ∃(d:Addr) (f:List Addr) (e:Nat->Heap->Prop) (J:It) (a:Hp),c=.ref d/\Inv X g σ a h/\Turn X.prog X.w X.K i J f d e/\e 0 h.heap/\(∀ b∈f,FpOk X g a b)/\R J a
def  PI(X:Cx)(c a:Expr)(e:TI):Prop:=
 ∀(b:List (Addr × Obj)) (s:Shared) (σ:St) (H:Hp) (R:It->Hp->Prop),Inv X b σ H s->e σ H R->
  wpAny (model X.prog X.w) X.A (eval a X.env) (λv d=>wpAny (model X.prog X.w) X.A (pyIter v) (PIE X b σ c R) X.xe d) X.xe s
variable{tg:Expr}
def Bh {M:Model} {A:Around} {it:Addr} {o:Obj} {n:String} {vs:Array Value} {Q:Unit->Shared->Prop} (e:s.heap.get? it=some o) (b:o.cls=.type n) (d:o.data=.fields vs)
  (c:["enumerate","zip","dict_itemiterator","dict_reverseitemiterator","odict_iterator","itertools.zip_longest","itertools.pairwise"].contains n=false) (a:Q () s):wpAny M A (letOwnedTupleGo tg (.ref it) u) Q E s:=by
 unfold letOwnedTupleGo
 cases tg <;> first
  | show P9 a
  | (cases u <;> first
    | show P9 a
    | (show PB (wpAny_load e ?_)
       rw[b,d];change wpAny M A (if (["enumerate","zip","dict_itemiterator","dict_reverseitemiterator","odict_iterator","itertools.zip_longest","itertools.pairwise"].contains n&&vs[0]? ==some (rawInt _))=true then _ else _) Q E s;rw[PF (by intro h;rw[c,Qc]at h;cases h)];show P9 a))
def  Itl(K:Frag)(a:Addr):It:=
 (λi H=>∃ b x,SqL K H a b/\b[i]? =some x,λi H x c=>c=H/\∀ b,SqL K H a b->b[i]? =some x,λi H=>∃ b,SqL K H a b/\b.length<=i)
def  Itt(K:Frag)(a:Addr):It:=
 (λi H=>∃ b x,SqT K H a b/\b[i]? =some x,λi H x c=>c=H/\∀ b,SqT K H a b->b[i]? =some x,λi H=>∃ b,SqT K H a b/\b.length<=i)
def  Itr(b:Int)(n:Nat):It:=(λi _=>i<n,λi H x a=>a=H/\x=.int (b+i),λi _=>n<=i)
variable{P:Program}{K:Frag}
def  FA{w:World}(a it:Addr):Turn P w K tg (Itl K a) [it] it (λi h=>h.IsListIter it a i) where
 mem:=by simp
 obj:=λi h f b g=>by
  have e:b=it:=by simpa using g
  subst e;obtain⟨o,e,c,d⟩:=f;show(o,e,λv z=>by rw[d]at z;cases z)
 keep:=λi h m f k=>f.at λo e=>k it (by simp) o e
 item:=by
  intro X D y A M i L s σ H E I l f r;subst D y A;obtain⟨Y,x,n,G⟩:=r;obtain⟨Q,t,p,O⟩:=I.list n;obtain⟨u,T,N⟩:=t.get G;obtain⟨J,B,R,F,C,q⟩:=l it (by simp);show wpAny_pyNext_list_item f p.isList (x:=u) (by simpa using T) λm j W=>?_;have Z:Inv X L σ H {s with heap:=m}:=I.turned (t':=s.toks) (λb o g e=>(W.2 b g).trans e) J B F C q;obtain⟨o,e,c,d⟩:=id j;show(u,rfl,Bh (s:={s with heap:=m}) e c d #[1] (x,H,Z,N,(rfl,λys U=>by rw[I.list_inj U n];show G),j,λb g=>(l b g).1))
 done:=by
  intro X D y A M i L s σ H E I l f r;subst D y A;obtain⟨Y,n,G⟩:=r;obtain⟨Q,t,p,O⟩:=I.list n;obtain⟨J,B,R,F,C,q⟩:=l it (by simp);have hl:=t.length;show wpAny_pyNext_list_end (I.ok.hd M) f p.isList (by simp;omega) λm S=>(rfl,I.turned (t':=s.toks) (λb o g e=>S b o g e) J B F C q)
 self:=λ_ _ _ _ _ f h=>wpAny_pyIter_listiter f h
def  Eg{w:World}(a it:Addr):Turn P w K tg (Itt K a) [it] it (λi h=>h.IsTupleIter it a i) where
 mem:=by simp
 obj:=λi h f b g=>by
  have e:b=it:=by simpa using g
  subst e;obtain⟨o,e,c,d⟩:=f;show(o,e,λv z=>by rw[d]at z;cases z)
 keep:=λi h m f k=>f.at λo e=>k it (by simp) o e
 item:=by
  intro X F A B N i M s σ H E I l f r;subst F A B;obtain⟨Y,x,n,J⟩:=r;obtain⟨t,y,p,Q⟩:=I.tuple n;obtain⟨u,T,O⟩:=y.get J;obtain⟨L,C,R,G,D,q⟩:=l it (by simp);show wpAny_pyNext_tuple_item f (show s.heap.IsTuple a t.toArray from p) (x:=u) (by simpa using T) λm j W=>?_;have Z:Inv X M σ H {s with heap:=m}:=I.turned (t':=s.toks) (λb o g e=>(W.2 b g).trans e) L C G D q;obtain⟨o,e,c,d⟩:=id j;show(u,rfl,Bh (s:={s with heap:=m}) e c d #[1] (x,H,Z,O,(rfl,λys U=>by rw[I.tuple_inj U n];show J),j,λb g=>(l b g).1))
 done:=by
  intro X F A B N i M s σ H E I l f r;subst F A B;obtain⟨Y,n,J⟩:=r;obtain⟨t,y,p,Q⟩:=I.tuple n;obtain⟨L,C,R,G,D,q⟩:=l it (by simp);have hl:=y.length;show wpAny_pyNext_tuple_end (I.ok.hd N) f (show s.heap.IsTuple a t.toArray from p) (by simp;omega) λm S=>(rfl,I.turned (t':=s.toks) (λb o g e=>S b o g e) L C G D q)
 self:=λ_ _ _ _ _ f h=>wpAny_pyIter_tupleiter f h
def  Eh{w:World}(it:Addr)(j:Int)(n:Nat):Turn P w K tg (Itr j n) [it] it (λi h=>IsRangeIter h it (j+(i:Nat)*1) ((n:Int) - (i:Nat)) 1) where
 mem:=by simp
 obj:=λi h a b c=>by
  have e:b=it:=by simpa using c
  subst e
  show(_,a,λv z=>by
   have M:Data.fields _=Data.cell v:=z;cases M)
 keep:=λi h g a k=>k it (by simp) _ a
 item:=by
  intro X x p q A i D s σ H E I f a m;subst x p q;obtain⟨B,r,F,y,u,l⟩:=f it (by simp);have W:=Walks.range (prog:=X.prog) (w:=X.w) (I.ok.hd A) it j 1 n;show W.item i s _ _ m a λv g C J d L=>?_;obtain⟨t,rfl⟩:=J;have N:Inv X D σ H {s with heap:=g,toks:=C}:=I.turned (λb o c e=>L b o (by simpa using c) e) B r y u l;show(_,rfl,Bh (s:={s with heap:=g,toks:=C}) (n:="range_iterator") d rfl rfl #[1] (.int<|j+i,H,N,(t,?_),(rfl,rfl),d,λb c=>(f b c).1));rw[Int.mul_one]
 done:=by
  intro X x p q A i D s σ H E I f a m;subst x p q;obtain⟨B,r,F,y,u,l⟩:=f it (by simp);show wpAny_pyNext_range_end (I.ok.hd A) a (by have:n<=i:=m;omega) λg G=>(rfl,I.turned (t':=s.toks) (λb o c e=>G b o c e) B r y u l)
 self:=λ_ _ _ _ _ a h=>wpAny_pyIter_rangeiter a h
section
variable{X:Cx}{tg:Expr}
def  iList(K:Frag)(c:TE):TI:=λσ H R=>c σ H λx b=>∃ a,x=.ref a/\(∃ d,SqL K b a d)/\R (Itl K a) b
def  iTup(K:Frag)(c:TE):TI:=λσ H R=>c σ H λx b=>∃ a,x=.ref a/\(∃ d,SqT K b a d)/\R (Itt K a) b
def fV{l:Expr}{f:TE}(k:PE X l f):PI X tg l (iList X.K f):=by
 intro j s σ H R I h;show thn (k j s σ H _ I h) λv c ⟨x,i,d,m,g⟩=>?_;obtain⟨a,e,⟨w,n⟩,q⟩:=g;subst e;cases m;obtain⟨u,y,p,t⟩:=d.list n;show wpAny_pyIter_list p.isList ?_;show(c.heap.objs.size,[c.heap.objs.size],_,_,i,rfl,d.kept (t':=c.toks) λb o e=>Pu _ e,FA a _,(_,Qa _ rfl,rfl,rfl),λb r=>?_,q);have e:b=c.heap.objs.size:=by simpa using r
 subst e;show d.fpOk (Py _) (d.hok.fresh<|Py _)
def J5{l:Expr}{f:TE}(m:PE X l f):PI X tg l (iTup X.K f):=by
 intro k s σ H R I h;show thn (m k s σ H _ I h) λv c ⟨x,i,d,n,g⟩=>?_;obtain⟨a,e,⟨w,r⟩,q⟩:=g;subst e;cases n;obtain⟨j,y,p,u⟩:=d.tuple r;show wpAny_pyIter_tuple (show c.heap.IsTuple a j.toArray from p) ?_;show(c.heap.objs.size,[c.heap.objs.size],_,_,i,rfl,d.kept (t':=c.toks) λb o e=>Pu _ e,Eg a _,(_,Qa _ rfl,rfl,rfl),λb t=>?_,q);have e:b=c.heap.objs.size:=by simpa using t
 subst e;show d.fpOk (Py _) (d.hok.fresh<|Py _)
def G4 {f:List (Addr × Obj)} {σ:St} {H:Hp} {s:Shared} {R:It->Hp->Prop} {E:Value->Shared->Prop} {a c:Int} {t u v:Tok} {d:Nat} (I:Inv X f σ H s) (h1: -(2^62)<=a) (h2:a<2^62) (h3: -(2^62)<=c) (h4:c<2^62)
  (q:R (Itr a (c-a).toNat) H):wpAny (model X.prog X.w) X.A (pyIter<|.ref s.heap.objs.size) (PIE X f σ tg R) E {s with heap:=s.heap.push {cls:=.type "range",data:=.fields #[.int a t,.int c u,.int 1 v]},toks:=d}:=by
 show wpAny_pyIter_range (IsRange.new ..) (small_one h1 h2 h3 h4) ?_;have g:Inv X f σ H {s with heap:=s.heap.push {cls:=.type "range",data:=.fields #[.int a t,.int c u,.int 1 v]},toks:=d}:=I.kept λb o e=>Pu _ e
 show((s.heap.push {cls:=.type "range",data:=.fields #[.int a t,.int c u,.int 1 v]}).objs.size,[(s.heap.push {cls:=.type "range",data:=.fields #[.int a t,.int c u,.int 1 v]}).objs.size],_,_,H,rfl,
  g.kept (t':=d) λb o e=>Pu _ e,Eh _ a (c-a).toNat,?_,λb h=>?_,q)
 . have e1:a+((0:Nat):Int)*1=a:=by simp
   have e2:(((c-a).toNat:Nat):Int) - ((0:Nat):Int)=Builtin.Range.rangeSize a c 1:=by rw[rangeSize_one];split <;> lia
   change IsRangeIter _ _ (a+((0:Nat):Int)*1) ((((c-a).toNat:Nat):Int) - ((0:Nat):Int)) 1;rw[e1,e2];show Qa _ rfl
 . have e:b=(s.heap.push {cls:=.type "range",data:=.fields #[.int a t,.int c u,.int 1 v]}).objs.size:=by simpa using h
   subst e;show g.fpOk (Py _) (g.hok.fresh<|Py _)
def  mO(a:TA):TI:=λσ H R=>a σ H λvs b=>∃ j:Int,vs=[.int j]/\ -(2^62)<=j/\j<2^62/\R (Itr 0 j.toNat) b
def  Ei(a:TA):TI:=λσ H R=>a σ H λvs b=>∃ i j:Int,vs=[.int i,.int j]/\(-(2^62)<=i/\i<2^62/\ -(2^62)<=j/\j<2^62)/\R (Itr i (j-i).toNat) b
def lc{a:Expr}{c:TA}{p pos:Pos}(i:Gl X "range")(o:X.mg "range"=none)(d:PA X [a] c)(m:starEach [a] X.env=[(false ,eval a X.env)]:=by rfl):PI X tg (.Call (.Name "range" p) [a] [] pos) (mO c):=by
 intro k s σ H R I h;show Call_<|lx I i o boot_range<|QF (thn (d pos k s σ H _ I h) λw v ⟨vs,u,g,l,b⟩=>?_) m rfl;obtain⟨j,e,b,n,q⟩:=b;subst e
 cases l with
 | cons r f=>
  cases f;obtain⟨t,rfl⟩:=r;show call_range_1 (G4 g #[4] #[4] b n (by simpa using q))
def  tFor(j:TI)(g:TG)(d:TS):TS:=λD σ H=>j σ H λJ e=>∃ W:Nat->Nat->St->Hp->Prop,(∃ m,W 0 m σ e)/\∀ i m σ H,W i m σ H->
 (J.stop i H/\D.nx σ H)\/(J.go i H/\∃ N:St->Hp->Prop,(∀ c a,N c a->∃ b,b<m/\W (i+1) b c a)/\∀ x a,J.yld i H x a->g x σ a λf h=>d {D with nx:=N,ct:=N,bk:=D.nx} f h)
def  tm(fp:List Addr)(h:Heap):List (Addr × Obj):=fp.filterMap λb=>(h.get? b).map λo=>(b ,o)
def  nP{fp:List Addr}{h:Heap}{b:Addr}{o:Obj}(a:b∈fp)(e:h.get? b=some o):(b ,o)∈tm fp h:=List.mem_filterMap.mpr (b,a,by rw[e];rfl)
def FC{fp:List Addr}{h:Heap}{p:Addr × Obj}(d:p∈tm fp h):p.1∈fp/\h.get? p.1=some p.2:=by
 obtain⟨b,c,e⟩:=List.mem_filterMap.mp d
 cases q:h.get? b with
 | none=>rw[q]at e;cases e
 | some o=>
  rw[q]at e;have a:(b ,o)=p:=QN e;subst a;show(c,q)
def  Inv.pinned{a:List (Addr × Obj)}{σ:St}{H:Hp}{s:Shared}{fp:List Addr}(I:Inv X a σ H s)(i:∀ b∈fp,FpOk X a H b)(l:∀ b∈fp,∃ o,s.heap.get? b=some o/\∀ v,o.data≠.cell v):Inv X (a++tm fp s.heap) σ H s:=
 I.pins_of λp g=>(PN.mp g).elim (λz=>I.pin p<|PZ _ z) λz=>by
  obtain⟨f,e⟩:=FC z;obtain⟨j,h,k,_⟩:=i p.1 f;obtain⟨o,c,d⟩:=l p.1 f;rw[e]at c;cases c;show(e,j,h,k,d)
def  Inv.unpinned{a pl:List (Addr × Obj)}{σ:St}{H:Hp}{s:Shared}(I:Inv X (a++pl) σ H s):Inv X a σ H s:=I.pins_of λp b=>I.pin p (PZ _<|Qi _ b)
def kz {j:Expr} {y:List Stmt} {wi:TI} {g:TG} {tb:TS} {pos:Pos} (G:PassesOwn (model X.prog X.w) X.A X.env X.xe) (hc:X.calm=true) (hi:PI X tg j wi) (hg:PG X tg g) (a:PSs X y tb)
  (hs:∀ x,foldedSetIterable j X.env x=pure x:=by intro _;rfl):PS X (.For tg j y [] pos) (tFor wi g tb):=by
 intro C s σ H D I h;show wpAny_For (thn (hi C s σ H _ I h) λv s1 h1=>thn h1 λab s2 h2=>?_) hs;obtain⟨it,K,tn,J,H2,e,I2,T,Y,f2,W,⟨m0,w0⟩,E⟩:=h2;subst e;have p:∀{t:Hp},(∀ b∈K,t b=none)->∀ b∈K,FpOk X C t b:=λhn b a=>(hn b a,(f2 b a).2);show codeAny_forLoop_any (λn s'=>∃ i Q t,Inv X C Q t s'/\tn i s'.heap/\(∀ b∈K,t b=none)/\W i n Q t) ?_ m0 (0,σ,H2,I2,Y,λb a=>(f2 b a).1,w0);rintro n s3 ⟨i,R,S,I3,M,F,w3⟩;rcases E i n R S w3 with ⟨L,qn⟩ | ⟨go,N,hN,O⟩
 . show RJ G<|thn (T.done X rfl rfl rfl hc i C s3 R S X.xe I3 (p F) M L) λr s4 ⟨Z,I4⟩=>?_;subst Z;show RI (R,S,I4,qn)
 . show RJ G<|thn (T.item X rfl rfl rfl hc i C s3 R S X.xe I3 (p F) M go) λr s4 ⟨u,Z,h4⟩=>?_;subst Z;show RJ G<|thn h4 λ_ s5 ⟨x,H5,I5,r5,y5,B,aa⟩=>?_;have U:=I5.pinned (p aa)<|T.obj _ _ B;show RJ G<|thn (hg _ s5 R H5 x u _ U r5<|O x H5 y5) λ_ s6 ⟨σ6,H6,I6,q6⟩=>?_;show RJ G (thn (a _ s6 σ6 H6 _ I6 q6) λf s7 z=>?_)
   have l:∀{k:St} {c:Hp},Inv X (C++tm K s5.heap) k c s7->N k c->∃ m,m<n/\∃ i Q t,Inv X C Q t s7/\tn i s7.heap/\(∀ b∈K,t b=none)/\W i m Q t:=λ{k c} q P=>by
    obtain⟨m',hm,w7⟩:=hN k c P;show(m',hm,i+1,k,c,q.unpinned,T.keep _ _ _ B λb a o e=>(q.pin (b ,o)<|PZ _<|PZ _<|nP a e).1,λb a=>?_,w7);obtain⟨o,e,d⟩:=T.obj _ _ B b a;show(q.pin (b ,o)<|PZ _<|PZ _<|nP a e).2.1
   cases f with
   | next=>obtain⟨k,c,q,P⟩:=z;show l q P
   | cont=>obtain⟨k,c,q,P⟩:=z;show l q P
   | brk=>obtain⟨k,c,q,z⟩:=z;show(k,c,q.unpinned,z)
   | ret v=>obtain⟨x7,k,c,q,r7,z⟩:=z;show(x7,k,c,q.unpinned,r7,z)
end
def Bn {K:Frag} {a:Addr} {xs:List V} {g:TG} {k:TS} {D:Ends} {σ:St} {H:Hp} (b:Nat->St->Hp->Prop) (h0:b 0 σ H) (o:∀ i σ H,i<=xs.length->b i σ H->SqL K H a xs)
  (s:∀ i x σ H,xs[i]? =some x->b i σ H->g x σ H λf h=>k {D with nx:=b<|i+1,ct:=b<|i+1,bk:=D.nx} f h) (r:∀ σ H,b xs.length σ H->D.nx σ H):
  ∃ W:Nat->Nat->St->Hp->Prop,(∃ m,W 0 m σ H)/\∀ i m σ H,W i m σ H->
   ((Itl K a).stop i H/\D.nx σ H)\/((Itl K a).go i H/\∃ N:St->Hp->Prop,(∀ j c,N j c->∃ m',m'<m/\W (i+1) m' j c)/\∀ x c,(Itl K a).yld i H x c->g x σ c λf h=>k {D with nx:=N,ct:=N,bk:=D.nx} f h):=by
 show(λi m σ H=>m=xs.length-i/\i<=xs.length/\b i σ H,(xs.length,by simp,Qg _,h0),?_);rintro i m σ H ⟨rfl,l,p⟩;have q:=o i σ H l p;by_cases d:i<xs.length
 . show .inr ((xs,xs[i],q,by simp[d]),b<|i+1,λj c n=>(xs.length - (i+1),by lia,rfl,d,n),λx c y=>?_);obtain⟨e,y⟩:=y;subst e;show s i x σ _ (y xs q) p
 . have e:i=xs.length:=by lia
   subst e;show .inl ((xs,q,Py _),r σ H p)
def mT {d:Int} {n:Nat} {g:TG} {k:TS} {D:Ends} {σ:St} {H:Hp} (a:Nat->St->Hp->Prop) (h0:a 0 σ H)
  (q:∀ i σ H,i<n->a i σ H->g (.int<|d+i) σ H λf h=>k {D with nx:=a<|i+1,ct:=a<|i+1,bk:=D.nx} f h) (o:∀ σ H,a n σ H->D.nx σ H):
  ∃ W:Nat->Nat->St->Hp->Prop,(∃ m,W 0 m σ H)/\∀ i m σ H,W i m σ H->
   ((Itr d n).stop i H/\D.nx σ H)\/((Itr d n).go i H/\∃ N:St->Hp->Prop,(∀ j b,N j b->∃ m',m'<m/\W (i+1) m' j b)/\∀ x b,(Itr d n).yld i H x b->g x σ b λf h=>k {D with nx:=N,ct:=N,bk:=D.nx} f h):=by
 show(λi m σ H=>m=n-i/\i<=n/\a i σ H,(n,by simp,Qg _,h0),?_);rintro i m σ H ⟨rfl,r,p⟩;by_cases c:i<n
 . show .inr (c,a<|i+1,λj b l=>(n - (i+1),by lia,rfl,c,l),λx b y=>?_);obtain⟨e,y⟩:=y;subst e y;show q i σ _ c p
 . have e:i=n:=by lia
   subst e;show .inl (Py _,o σ H p)
abbrev R2:=V->V->Hp->VK->Prop
def  OpR(X:Cx)(f:Value->Value->Sem Value)(r:R2):Prop:=
 ∀(a:List (Addr × Obj)) (s:Shared) (σ:St) (H:Hp) (x y:V) (v u:Value) (Q:VK),Inv X a σ H s->RelV x v->RelV y u->r x y H Q->
  wpAny (model X.prog X.w) X.A (f v u) (EP X a σ Q) X.xe s
def  UnR(X:Cx)(f:Value->Sem Value)(r:V->Hp->VK->Prop):Prop:=
 ∀(a:List (Addr × Obj)) (s:Shared) (σ:St) (H:Hp) (x:V) (v:Value) (Q:VK),Inv X a σ H s->RelV x v->r x H Q->
  wpAny (model X.prog X.w) X.A (f v) (EP X a σ Q) X.xe s
def  CallR(X:Cx)(f:Value)(r:List V->Hp->VK->Prop):Prop:=
 ∀(a:List (Addr × Obj)) (s:Shared) (σ:St) (H:Hp) (b:List V) (c:List Value) (Q:VK),Inv X a σ H s->Vals b c->r b H Q->
  wpAny (model X.prog X.w) X.A (call f c) (EP X a σ Q) X.xe s
def  tOp(r:R2)(a b:TE):TE:=λσ H Q=>a σ H λx c=>b σ c λy d=>r x y d Q
def  tUn(r:V->Hp->VK->Prop)(a:TE):TE:=λσ H Q=>a σ H λx b=>r x b Q
def  rI(C:Int->Int->Prop)(g:Int->Int->V):R2:=λx y H Q=>∃ i j,x=.int i/\y=.int j/\C i j/\Q (g i j) H
def  rI0(g:Int->Int->V):R2:=λx y H Q=>∃ i j,x=.int i/\y=.int j/\Q (g i j) H
def  rU(g:Int->V):V->Hp->VK->Prop:=λx H Q=>∃ i,x=.int i/\Q (g i) H
section
variable{X:Cx}{a b c:Expr}{ta tb tc:TE}{pos:Pos}
def binT (i:PE X a ta) (z:PE X b tb) {d:List (Addr × Obj)} {s:Shared} {σ:St} {H:Hp} {R:V->V->Hp->Prop} (I:Inv X d σ H s)
  (h:ta σ H λx g=>tb σ g λy c=>R x y c) {Q:Value->Shared->Prop} {f:Value->Value->Sem Value}
  (q:∀ v u e x y c,Inv X d σ c e->RelV x v->RelV y u->R x y c->wpAny (model X.prog X.w) X.A (f v u) Q X.xe e):
  wpAny (model X.prog X.w) X.A (eval a X.env) (λv l=>wpAny (model X.prog X.w) X.A (eval b X.env) (λu p=>wpAny (model X.prog X.w) X.A (f v u) Q X.xe p) X.xe l) X.xe s:=by
 show thn (i d s σ H _ I h) λv n ⟨x,g,j,r,k⟩=>?_;show thn (z d n σ g _ j k) λu e ⟨y,c,m,o,t⟩=>?_;show q v u e x y c m r o t
def aj{c:Operator}{r:R2}(m:OpR X (binaryOp c) r)(d:PE X a ta)(f:PE X b tb):PE X (.BinOp a c b pos) (tOp r ta tb):=by
 intro i s σ H Q I h;show wpAny_BinOp (binT d f I h λv u k x y j e g l q=>m i k σ j x y v u Q e g l q)
def Lk{b:UnaryOp}{r:V->Hp->VK->Prop}(k:UnR X (unaryOp b) r)(d:PE X a ta):PE X (.UnaryOp b a pos) (tUn r ta):=by
 intro c s σ H Q I h;show UnaryOp_ (thn (d c s σ H _ I h) λv g ⟨x,f,j,i,e⟩=>k c g σ f x v Q j i e)
def opI {f:Value->Value->Sem Value} {C:Int->Int->Prop} {g:Int->Int->Int}
  (a:∀(i j:Int) (t u:Tok) (s:Shared) (Q:Value->Shared->Prop) (E:Value->Shared->Prop),C i j->Q (.int (g i j) s.toks) {s with toks:=s.toks+1}->wpAny (model X.prog X.w) X.A (f (.int i t)<|.int j u) Q E s):
  OpR X f (rI C λi j=>.int<|g i j):=by
 intro k s σ H x y v u Q I c d h;obtain⟨i,j,rfl,rfl,b,q⟩:=h;obtain⟨t,rfl⟩:=c;obtain⟨e,rfl⟩:=d;show a i j t e s _ _ b (.int<|g i j,H,I.tok _,(_,rfl),q)
def J6 {f:Value->Value->Sem Value} {g:Int->Int->Int}
  (a:∀(i j:Int) (t u:Tok) (s:Shared) (Q:Value->Shared->Prop) (E:Value->Shared->Prop),Q (.int (g i j) s.toks) {s with toks:=s.toks+1}->wpAny (model X.prog X.w) X.A (f (.int i t)<|.int j u) Q E s):
  OpR X f (rI0 λi j=>.int<|g i j):=by
 intro e s σ H x y v u Q I b c h;obtain⟨i,j,rfl,rfl,q⟩:=h;obtain⟨t,rfl⟩:=b;obtain⟨d,rfl⟩:=c;show a i j t d s _ _ (.int<|g i j,H,I.tok _,(_,rfl),q)
def Ej {f:Value->Value->Sem Value} {g:Int->Int->Bool}
  (a:∀(i j:Int) (t u:Tok) (s:Shared) (Q:Value->Shared->Prop) (E:Value->Shared->Prop),Q (.bool<|g i j) s->wpAny (model X.prog X.w) X.A (f (.int i t)<|.int j u) Q E s):
  OpR X f (rI0 λi j=>.bl<|g i j):=by
 intro e s σ H x y v u Q I b c h;obtain⟨i,j,rfl,rfl,q⟩:=h;obtain⟨t,rfl⟩:=b;obtain⟨d,rfl⟩:=c;show a i j t d s _ _ (.bl<|g i j,H,I,rfl,q)
def  CDiv(i j:Int):Prop:=0<j/\j<1073741824
def  CPow(i j:Int):Prop:=0<=j/\j<=1000000/\i.natAbs<2^64
def  CMul(i j:Int):Prop:=(-(2^64)<i/\i<2^64)\/(-(2^64)<j/\j<2^64)
def CMul.ok{i j:Int}(h:CMul i j):IntMulOk i j:=by
 rcases h with ⟨h1,h2⟩ | ⟨h1,h2⟩
 . show .of_left (intBits_le_64 h1 h2)
 . show .of_right (intBits_le_64 h1 h2)
def Ek(k:Nat):(0:Int)<=2^k:=by
 rw[two_pow_cast];show Int.natCast_nonneg _
def  J7:OpR X (binaryOp .Add) (rI0 λi j=>.int<|i+j):=J6 λ_ _ _ _ _ _ _ q=>add_int q
def  J8:OpR X (binaryOp .Sub) (rI0 λi j=>.int<|i-j):=J6 λ_ _ _ _ _ _ _ q=>sub_int q
def  J9:OpR X (binaryOp .Mult) (rI CMul λi j=>.int<|i*j):=opI λ_ _ _ _ _ _ _ a q=>mul_int q a.ok
def  Iy:OpR X (binaryOp .FloorDiv) (rI CDiv λi j=>.int<|i/j):=opI λi j _ _ _ _ _ a q=>by
 have h1:(0:Int)<j:=a.1;have h2:j<1073741824:=a.2;show floordiv_int #[0] (by rw[SM i #[0]];show q) (.inl<|PyProof.noPylong_small #[0])
def  Ka:OpR X (binaryOp .Mod) (rI (λ_ j=>0<j) λi j=>.int<|i%j):=opI λi j _ _ _ _ _ a q=>by
 have h1:(0:Int)<j:=a;show mod_int' #[0] (by rw[Int.fmod_eq_emod_of_nonneg i #[0]];show q)
def  Kb:OpR X (binaryOp .RShift) (rI (λ_ j=>0<=j) λi j=>.int<|i/2^j.toNat):=opI λi j _ _ _ _ _ a q=>
 rshift_int a (by rw[SM i<|Ek _];show q)
def unI {f:Value->Sem Value} {g:Int->Int}
  (a:∀(i:Int) (t:Tok) (s:Shared) (Q:Value->Shared->Prop) (E:Value->Shared->Prop),Q (.int (g i) s.toks) {s with toks:=s.toks+1}->wpAny (model X.prog X.w) X.A (f<|.int i t) Q E s):
  UnR X f (rU λi=>.int<|g i):=by
 intro c s σ H x v Q I b h;obtain⟨i,rfl,q⟩:=h;obtain⟨t,rfl⟩:=b;show a i t s _ _ (.int<|g i,H,I.tok _,(_,rfl),q)
def  Kc:UnR X (unaryOp .USub) (rU λi=>.int<|-i):=unI λ_ _ _ _ _ q=>neg_int q
end
def  scal:V->V->Bool
 | .non,.non=>true | .non,.int _=>true | .int _,.non=>true | .non,.bl _=>true | .bl _,.non=>true | .non,.str _=>true | .str _,.non=>true
 | .int _,.int _=>true | .bl _,.bl _=>true | .str _,.str _=>true | .byt _,.byt _=>true
 | .int _,.str _=>true | .str _,.int _=>true | .bl _,.str _=>true | .str _,.bl _=>true
 | _,_=>false
def  rEq:R2:=λx y H Q=>scal x y=true/\Q (.bl<|decide<|x=y) H
def  rNe:R2:=λx y H Q=>scal x y=true/\Q (.bl<|!decide (x=y)) H
def Dp{i j:Int}:decide (V.int i=V.int j)=(i==j):=by
 rw[QS];simp
def FD{i j:Bool}:decide (V.bl i=V.bl j)=(i==j):=by
 rw[QS];simp
def Dq{i j:Str}:decide (V.str i=V.str j)=(i==j):=by
 rw[QS];simp
def Dr{i j:Array UInt8}:decide (V.byt i=V.byt j)=(i.toList==j.toList):=by
 rw[QS];cases i;cases j;simp
section
variable{X:Cx}{a b c:Expr}{ta tb tc:TE}{pos:Pos}
def bw{a:List (Addr × Obj)}{σ:St}{H:Hp}{s:Shared}{Q:VK}{k b:Bool}(I:Inv X a σ H s)(q:Q (.bl k) H)(e:k=b):EP X a σ Q (.bool b) s:=by
 subst e;show(.bl k,H,I,rfl,q)
def Em:OpR X (compareOp .Eq) rEq:=by
 intro e s σ H x y v u Q I d a h;obtain⟨c,q⟩:=h
 cases x with
 | non=>
  cases d
  cases y with
  | non=>cases a;show PySem.EqNone.eq_none_none (bw I q (by simp))
  | bl j=>cases a;show PySem.EqNone.eq_none_bool (bw I q (by simp))
  | int j=>obtain⟨b,rfl⟩:=a;show PySem.EqNone.eq_none_int (bw I q (by simp))
  | str j=>obtain⟨b,rfl⟩:=a;show PySem.EqNone.eq_none_str (bw I q (by simp))
  | _=>show absurd (show false=true from c) Pt
 | bl i=>
  cases d
  cases y with
  | non=>cases a;show PySem.EqNone.eq_bool_none (bw I q (by simp))
  | bl j=>cases a;show eq_bool (bw I q FD)
  | str j=>obtain⟨b,rfl⟩:=a;show PySem.EqMixed.eq_bool_str (bw I q (by simp))
  | _=>show absurd (show false=true from c) Pt
 | int i=>
  obtain⟨t,rfl⟩:=d
  cases y with
  | non=>cases a;show PySem.EqNone.eq_int_none (bw I q (by simp))
  | int j=>obtain⟨b,rfl⟩:=a;show eq_int (bw I q Dp)
  | str j=>obtain⟨b,rfl⟩:=a;show PySem.EqMixed.eq_int_str (bw I q (by simp))
  | _=>show absurd (show false=true from c) Pt
 | str i=>
  obtain⟨t,rfl⟩:=d
  cases y with
  | non=>cases a;show PySem.EqNone.eq_str_none (bw I q (by simp))
  | bl j=>cases a;show PySem.EqMixed.eq_str_bool (bw I q (by simp))
  | int j=>obtain⟨b,rfl⟩:=a;show PySem.EqMixed.eq_str_int (bw I q (by simp))
  | str j=>obtain⟨b,rfl⟩:=a;show eq_str (bw I q Dq)
  | _=>show absurd (show false=true from c) Pt
 | byt i=>
  obtain⟨t,rfl⟩:=d
  cases y with
  | byt j=>obtain⟨b,rfl⟩:=a;show PySem.W.eq_bytes (bw I q Dr)
  | _=>show absurd (show false=true from c) Pt
 | _=>cases y <;> show absurd (show false=true from c) Pt
def Eo:OpR X (compareOp .NotEq) rNe:=by
 intro e s σ H x y v u Q I d a h;obtain⟨c,q⟩:=h
 cases x with
 | non=>
  cases d
  cases y with
  | non=>cases a;show PySem.EqNone.ne_none_none (bw I q (by simp))
  | bl j=>cases a;show PySem.EqNone.ne_none_bool (bw I q (by simp))
  | int j=>obtain⟨b,rfl⟩:=a;show PySem.EqNone.ne_none_int (bw I q (by simp))
  | str j=>obtain⟨b,rfl⟩:=a;show PySem.EqNone.ne_none_str (bw I q (by simp))
  | _=>show absurd (show false=true from c) Pt
 | bl i=>
  cases d
  cases y with
  | non=>cases a;show PySem.EqNone.ne_bool_none (bw I q (by simp))
  | bl j=>cases a;show ne_bool (bw I q<|congrArg not FD)
  | str j=>obtain⟨b,rfl⟩:=a;show PySem.EqMixed.ne_bool_str (bw I q (by simp))
  | _=>show absurd (show false=true from c) Pt
 | int i=>
  obtain⟨t,rfl⟩:=d
  cases y with
  | non=>cases a;show PySem.EqNone.ne_int_none (bw I q (by simp))
  | int j=>obtain⟨b,rfl⟩:=a;show ne_int (bw I q<|congrArg not Dp)
  | str j=>obtain⟨b,rfl⟩:=a;show PySem.EqMixed.ne_int_str (bw I q (by simp))
  | _=>show absurd (show false=true from c) Pt
 | str i=>
  obtain⟨t,rfl⟩:=d
  cases y with
  | non=>cases a;show PySem.EqNone.ne_str_none (bw I q (by simp))
  | bl j=>cases a;show PySem.EqMixed.ne_str_bool (bw I q (by simp))
  | int j=>obtain⟨b,rfl⟩:=a;show PySem.EqMixed.ne_str_int (bw I q (by simp))
  | str j=>obtain⟨b,rfl⟩:=a;show ne_str (bw I q<|congrArg not Dq)
  | _=>show absurd (show false=true from c) Pt
 | byt i=>
  obtain⟨t,rfl⟩:=d
  cases y with
  | byt j=>obtain⟨b,rfl⟩:=a;show PySem.W.ne_bytes (bw I q<|congrArg not Dr)
  | _=>show absurd (show false=true from c) Pt
 | _=>cases y <;> show absurd (show false=true from c) Pt
def  Ll:OpR X (compareOp .Lt) (rI0 λi j=>.bl<|decide<|i<j):=Ej λ_ _ _ _ _ _ _ q=>lt_int q
def  Lm:OpR X (compareOp .LtE) (rI0 λi j=>.bl<|decide<|i<=j):=Ej λ_ _ _ _ _ _ _ q=>le_int q
def  Lo:OpR X (compareOp .Gt) (rI0 λi j=>.bl<|decide<|j<i):=Ej λ_ _ _ _ _ _ _ q=>gt_int q
def  Lp:OpR X (compareOp .GtE) (rI0 λi j=>.bl<|decide<|j<=i):=Ej λ_ _ _ _ _ _ _ q=>ge_int q
def FE:OpR X (compareOp .In) (λx y H Q=>∃ i j,x=.str i/\y=.str j/\Q (.bl<|!(Builtin.Str.occurrences j i 0 j.length 1).isEmpty) H):=by
 intro c s σ H x y v u Q I b a h;obtain⟨i,j,rfl,rfl,q⟩:=h;obtain⟨t,rfl⟩:=b;obtain⟨d,rfl⟩:=a;show in_str (bw I q rfl)
def Bo:OpR X (compareOp .Is) (λx y H Q=>y=.non/\Q (.bl<|decide<|x=.non) H):=by
 intro c s σ H x y v u Q I a b h;obtain⟨rfl,q⟩:=h;cases b;show is_none_gen (bw I q ?_)
 cases x <;> first
  | (cases a;rfl)
  | (obtain⟨t,rfl⟩:=a;rfl)
def yN:OpR X (compareOp .IsNot) (λx y H Q=>y=.non/\Q (.bl<|!decide (x=.non)) H):=by
 intro c s σ H x y v u Q I a b h;obtain⟨rfl,q⟩:=h;cases b;show isnot_none_gen (bw I q ?_)
 cases x <;> first
  | (cases a;rfl)
  | (obtain⟨t,rfl⟩:=a;rfl)
def aw(b:Expr){a:CmpOp}(h:a≠.In:=by decide)(h2:a≠.NotIn:=by decide):behindInMarks a b=false:=by
 have e1:(a==CmpOp.In)=false:=by cases a <;> first | rfl | show absurd rfl h
 have e2:(a==CmpOp.NotIn)=false:=by cases a <;> first | rfl | show absurd rfl h2
 cases b <;> simp[behindInMarks,e1,e2]
def bh{c:CmpOp}{r:R2}(n:OpR X (compareOp c) r)(d:PE X a ta)(f:PE X b tb)(m:behindInMarks c b=false):PE X (.Compare a [c] [b] pos) (tOp r ta tb):=by
 intro i s σ H Q I h;show wpAny_Compare1 (binT d f I h λv u k x y j e g l q=>n i k σ j x y v u Q e g l q) m
def  tTest(t:TE):TT:=λσ H Q=>t σ H λx a=>∃ k,x=.bl k/\Q k a
def ax{d:CmpOp}{r:R2}(t:OpR X (compareOp d) r)(g:PE X a ta)(i:PE X b tb)(q:behindInMarks d b=false):PT X (.Compare a [d] [b] pos) (tTest<|tOp r ta tb):=by
 intro f s σ H Q I h
 show Tq (thn (g f s σ H _ I h) λv o ⟨x,A,F,E,w⟩=>thn (i f o σ A _ F w) λu p ⟨y,l,D,j,B⟩=>
  thn (t f p σ l x y v u _ D E j B) λc J ⟨z,G,C,n,k,e,m⟩=>?_) q
 subst e;cases n;show QW (G,C,m)
def tq:(sizeLine:Nat)<2^63:=by rw[Su];decide
def Ep:OpR X (binaryOp .Add) (λx y H Q=>∃ i j,x=.str i/\y=.str j/\i.length+j.length<=sizeLine/\Q (.str<|i++j) H):=by
 intro f s σ H x y v u Q I b c h;obtain⟨i,j,rfl,rfl,a,q⟩:=h;obtain⟨t,rfl⟩:=b;obtain⟨d,rfl⟩:=c;show add_str (λd e=>(.str<|i++j,H,I.tok _,(_,rfl),q)) a
def fj{x:V}{us:List Value}(r:Vals [x] us):∃ u,us=[u]/\RelV x u:=by
 cases r with
 | cons b a=>cases a;show(_,rfl,b)
def Bi{x y:V}{us:List Value}(r:Vals [x,y] us):∃ u a,us=[u,a]/\RelV x u/\RelV y a:=by
 cases r with
 | cons e d=>
  cases d with
  | cons b c=>cases c;show(_,_,rfl,e,b)
def pi:CallR X (.type "int") (λxs H Q=>(∃ i,xs=[.int i]/\Q (.int i) H)\/∃ k,xs=[.bl k]/\Q (.int (if k then 1 else 0)) H):=by
 intro b s σ H xs c Q I r h;rcases h with ⟨i,rfl,q⟩ | ⟨k,rfl,q⟩
 . obtain⟨u,rfl,t,rfl⟩:=fj r;show call_int_int (.int i,H,I,(_,rfl),q)
 . obtain⟨u,rfl,a⟩:=fj r;cases a;show call_int_bool (.int (if k then 1 else 0),H,I.tok _,(_,rfl),q)
end
structure ObjM(h:Heap)(x dx C:Addr)(mA:Str->Option Value):Prop where
 obj:h.get? x=some (PySem.W.instObj C dx)
 ns:h.Ns1 dx mA
 ne:dx≠x
variable{mA:Str->Option Value}
def FF{h:Heap}{dx:Addr}(n:h.Ns1 dx mA):∃ d,h.get? dx=some d/\∀ b,PySem.W.lookIn b d=some (mA b):=by
 obtain⟨o,f,p,m,k,g,_,i⟩:=n;show(o,m,λb=>?_);have e:=i b;unfold nsFind findBy at e;rw[← Array.find?_toList]at e;unfold PySem.W.lookIn;rw[k];dsimp only
 split
 . rename_i y q
   rw[q]at e;show congrArg some e
 . rename_i q
   rw[q]at e
   have a:f.toList.any (·.refKey)=false:=by
    rw[List.any_eq_false];intro y l;obtain⟨z,t,c⟩:=g y<|Array.mem_toList_iff.mp l;simp[DictEntry.refKey,c]
   have j:¬ f.toList.any (·.refKey)=true:=by rw[a];show Pt
   rw[PF j];show congrArg some e
variable{C:Addr}
def  ObjM.look{h:Heap}{x dx:Addr}(I:ObjM h x dx C mA):∃ b,PySem.W.InstAt h x (PySem.W.instObj C dx) C (some b)/\∀ a,PySem.W.lookIn a b=some (mA a):=
 let ⟨b,d,c⟩:=FF I.ns
 (b,(I.obj,rfl,rfl,d),c)
section
variable{prog:Program}{w:World}{A:Around}{E:Value->Shared->Prop}{s:Shared}{K:Frag}{x dx C f:Addr}{mA:Str->Option Value}{name:Str}{v:Value}
def Iz {a:Bool} {Q:Value->Shared->Prop} (X:K.In s.heap) (I:ObjM s.heap x dx C mA) (f:PySem.W.plainGet K C name=true) (e:PySem.W.hasDictIn K C=true)
  (d:findIn K (.ref C) name=some none) (c:mA name=some v) (b:PySem.W.handedIn v=true) (h:Q v {s with toks:=s.toks+1}):
  wpAny (model prog w) A (getAttr (.ref x) name a) Q E s:=by
 obtain⟨i,J,g⟩:=I.look;show PySem.W.get_value X J (SD f).1 (PySem.W.findObj_own e d rfl (by rw[g,c])) b h
def G5 {pl:Sem Bool} {Q:Value × List Value->Shared->Prop} (X:K.In s.heap) (I:ObjM s.heap x dx C mA) (a:PySem.W.plainGet K C name=true)
  (e:findIn K (.ref C) name=some ↑f) (g:isFn K (.ref f)=true) (b:mA name=none) (h:Q (.ref f ,[.ref x]) s):
  wpAny (model prog w) A (getMethod (.ref x) name pl) Q E s:=by
 obtain⟨c,J,d⟩:=I.look;show PySem.W.method_fn X J (SD a).1 (SD a).2 e (Q3.mp g) (by change(PySem.W.lookIn name c).map (·.isSome)=some false;rw[d,b];rfl) h
def IA {ns:List Str} {Q:Unit->Shared->Prop} (X:K.In s.heap) (I:ObjM s.heap x dx C mA)
  (o:findIn K (.ref C) "__setattr__"=some (some<|.builtin "object.__setattr__")) (j:PySem.W.plainOver K C=true) (l:PySem.W.takerIn K C name=some none) (k:PySem.W.hasDictIn K C=true)
  (m:PySem.Within mA ns) (hsz:ns.length<=sizeLine)
  (h:∀ h',ObjM h' x dx C (λy=>if y=name then some v else mA y)->Heap.SameBut dx s.heap h'->Q () {s with heap:=h',toks:=s.toks+2}):
  wpAny (model prog w) A (setAttr (.ref x) name v) Q E s:=by
 obtain⟨B,J,z⟩:=I.look;show PySem.W.set_plain X J o<|PySem.W.osa_open (s:={s with toks:=s.toks+1}) (r:=none) X J j l λb=>?_;obtain⟨u,q,f⟩:=PySem.W.any_some k;have p:s.heap.get? x=some (.ref C,some dx,.plain,#[]):=I.obj;show PB<|P9<|PB<|PB<|SN p<|PB<|PySem.W.Looks.here (s:={s with toks:=s.toks+1}) (PySem.W.looks_clsIn X q) ?_;rw[f];show P9 (a:=some dx)<|PB<|P9<|PB ?_;show wpAny_nsSet1 (s:={s with toks:=s.toks+1}) I.ns λh' c d=>?_;obtain⟨D,t,n,g,i,e⟩:=c.count<|PySem.Within.cons name v m;show PB (wpAny_lookBehind g (by rw[i];show pastItsLine_dict<|Pk e (by rw[PR];lia)) ?_);show P9 (h _ ((d.2 _<|Rt I.ne).trans I.obj,c,I.ne) d)
def G6 {R:Result->Shared->Prop} {vs:List Value} {b:List (Str × Value)} (X:K.In s.heap) (i:PySem.W.makesIn K C=true)
  (c:findIn K (.ref C) "__init__"=some ↑f) (e:PySem.W.typeIn K (.ref f)=some (.type "function"))
  (h:codeAny (model prog w) (A.under<|.builtin "type.__call__" (.ref C::vs,b)) (.call (.ref f) (.ref (s.heap.objs.size+1)::vs,b)) (PySem.W.InitBack (s.heap.objs.size+1) R)
   {s with heap:=(s.heap.push PySem.W.emptyDict).push (PySem.W.instObj C s.heap.objs.size)}):
  codeAny (model prog w) A (.call (.ref C) (vs,b)) R s:=by
 obtain⟨j,g,d,t,k⟩:=s;show PySem.W.make_core (PySem.W.makes_of X i) (Qp X c) (λa=>PySem.W.bind_fn X a e) (.inl rfl) h
end
def  putF(f:Str)(v:V):List (Str × V)->List (Str × V)
 | []=>[(f ,v)]
 | (g ,x)::r=>if g=f then(g ,v)::r else(g ,x)::putF f v r
def vK(f g:Str)(v:V):∀ c:List (Str × V),(putF f v c).lookup g=if g=f then some v else c.lookup g
 | []=>by
  change List.lookup g [(f ,v)]=_;by_cases h:g=f
  . have a:(g==f)=true:=Q3.mpr h;simp only[List.lookup,a,PK h]
  . have a:(g==f)=false:=Rf.mpr h;simp only[List.lookup,a,PF h]
 | (k ,x)::r=>by
  have d:=vK f g v r;rw[show putF f v ((k ,x)::r)=(if k=f then(k ,v)::r else(k ,x)::putF f v r) from rfl];by_cases b:k=f
  . rw[PK b];by_cases h:g=k
    . have a:(g==k)=true:=Q3.mpr h;simp only[List.lookup,a,PK<|h.trans b]
    . have a:(g==k)=false:=Rf.mpr h;simp only[List.lookup,a,PF (λe:g=f=>h<|e.trans b.symm)]
  . rw[PF b];by_cases h:g=k
    . have a:(g==k)=true:=Q3.mpr h;simp only[List.lookup,a,PF (λe:g=f=>b<|h.symm.trans e)]
    . have a:(g==k)=false:=Rf.mpr h;simp only[List.lookup,a];show d
def tu(f:Str)(v:V):∀ b:List (Str × V),f∈(putF f v b).map (·.1)/\∀ g,g∈b.map (·.1)->g∈(putF f v b).map (·.1)
 | []=>(by simp[putF],λg h=>by simp at h)
 | (k ,x)::r=>by
  obtain⟨d,c⟩:=tu f v r;rw[show putF f v ((k ,x)::r)=(if k=f then(k ,v)::r else(k ,x)::putF f v r) from rfl];by_cases a:k=f
  . rw[PK a];subst a;show(by simp,λg h=>by simpa using h)
  . rw[PF a];show(?_,λg h=>?_)
    . rw[Pz];show Pm _ d
    . rw[Pz]at h ⊢;rcases Pw.mp h with e | e
      . show Pw.mpr (.inl e)
      . show Pm _ (c g e)
def vL(f:Str)(v:V):∀ b:List (Str × V),(putF f v b).length<=b.length+1
 | []=>by simp[putF]
 | (k ,x)::r=>by
  have c:=vL f v r;rw[show putF f v ((k ,x)::r)=(if k=f then(k ,v)::r else(k ,x)::putF f v r) from rfl];by_cases a:k=f
  . rw[PK a,PR,PR];lia
  . rw[PF a,PR,PR];lia
variable{o:Option Value}
def RelO.some_of{v:V}(r:RelO (some v) o):∃ u,o=some u/\RelV v u:=by
 cases o with
 | none=>show(show False from r).elim
 | some u=>show(u,rfl,r)
abbrev Tf:=@RelO.some_of
def RelO.none_of(r:RelO none o):o=none:=by
 cases o with
 | none=>rfl
 | some u=>show(show False from r).elim
def FG{v:V}{u:Value}(r:RelV v u):PySem.W.handedIn u=true:=by
 cases v with
 | non=>cases (show u=Value.none from r);rfl
 | bl b=>cases (show u=Value.bool b from r);rfl
 | int i=>obtain⟨t,e⟩:=(show ∃ t,u=Value.int i t from r);cases e;rfl
 | str x=>obtain⟨t,e⟩:=(show ∃ t,u=Value.str x t from r);cases e;rfl
 | byt b=>obtain⟨t,e⟩:=(show ∃ t,u=Value.bytes b t from r);cases e;rfl
 | flt b=>obtain⟨t,e⟩:=(show ∃ t,u=Value.float b t from r);cases e;rfl
 | ref a=>cases (show u=Value.ref a from r);rfl
 | ty n=>cases (show u=Value.type n from r);rfl
section
variable{P:Program}{w:World}{H H':Hp}{h h':Heap}{a C dx:Addr}{fs fs':List (Str × V)}
def uS(b:HOk P w H h)(e:H a=some (.ins C dx fs)):∃ mA,ObjM h a dx C mA/\(∀ f,RelO (fs.lookup f)<|mA f)/\PySem.Within mA (fs.map (·.1))/\fs.length<=1000/\H dx=some (.own a):=by
 obtain⟨d,z,g,c,mA,n,r,q⟩:=(show ObjOk P w H h a (.ins C dx fs) from b a _ e);show(mA,(c,n,g),r,q,z,d)
end
structure Cls(K:Frag)(C:Addr):Prop where
 pg:PySem.W.plainGet K C Str.empty=true
 hd:PySem.W.hasDictIn K C=true
 po:PySem.W.plainOver K C=true
 sa:findIn K (.ref C) "__setattr__"=some (some<|.builtin "object.__setattr__")
def  Cls.get{K:Frag}(c:Cls K C)(f:Str):PySem.W.plainGet K C f=true:=c.pg
def  NoAttr(K:Frag)(C:Addr)(f:Str):Prop:=findIn K (.ref C) f=some none
def NoAttr.taker{K:Frag}{f:Str}(n:NoAttr K C f):PySem.W.takerIn K C f=some none:=by
 unfold PySem.W.takerIn;rw[show findIn K (.ref C) f=some none from n];rfl
structure Meth(K:Frag)(C:Addr)(m:Str)(f:Addr):Prop where
 at_:findIn K (.ref C) m=some ↑f
 fn:isFn K (.ref f)=true
 kp:keepIn K (.ref f)=true
section
variable{X:Cx}{Pc:List (Addr × Obj)}{σ:St}{H:Hp}{s:Shared}{a C dx:Addr}{fs:List (Str × V)}{f:Str}{v:V}{A:Around}{E:Value->Shared->Prop}
def Er {b:Bool} {Q:Value->Shared->Prop} (I:Inv X Pc σ H s) (e:H a=some (.ins C dx fs)) (c:Cls X.K C) (n:NoAttr X.K C f) (l:fs.lookup f=some v)
  (h:∀ u s',Inv X Pc σ H s'->RelV v u->Q u s'):wpAny (model X.prog X.w) A (getAttr (.ref a) f b) Q E s:=by
 obtain⟨mA,O,r,_,_,_⟩:=uS I.hok e;obtain⟨u,g,d⟩:=Tf (v:=v) (o:=mA f) (by rw[← l];show r f);show Iz I.kIn O (c.get f) c.hd n g (FG d) (h u _ (I.tok _) d)
def nQ {m:Str} {g:Addr} {pl:Sem Bool} {Q:Value × List Value->Shared->Prop} (I:Inv X Pc σ H s) (e:H a=some (.ins C dx fs)) (c:Cls X.K C) (k:Meth X.K C m g) (l:fs.lookup m=none)
  (h:Q (.ref g ,[.ref a]) s):wpAny (model X.prog X.w) A (getMethod (.ref a) m pl) Q E s:=by
 obtain⟨mA,O,r,_,_,_⟩:=uS I.hok e;have b:mA m=none:=RelO.none_of (by rw[← l];show r m);show G5 I.kIn O (c.get m) k.at_ k.fn b h
def Es {y:V} {u:Value} {Q:Unit->Shared->Prop} (I:Inv X Pc σ H s) (e:H a=some (.ins C dx fs)) (c:Cls X.K C) (n:NoAttr X.K C f) (F:fs.length<1000) (D:RelV y u)
  (h:∀ s',Inv X Pc σ (upd H a<|.ins C dx<|putF f y fs) s'->Q () s'):wpAny (model X.prog X.w) A (setAttr (.ref a) f u) Q E s:=by
 obtain⟨mA,O,r,i,_,j⟩:=uS I.hok e;have p:(fs.map (·.1)).length<=sizeLine:=by rw[Pj,Su];lia
 show IA I.kIn O c.sa c.po n.taker c.hd i p λm d k=>h _ ?_;have B:∃ o,m.get? dx=some o:=let ⟨o,_,_,l,_⟩:=d.ns;(o,l);show I.write (x:=a) (e:=dx) (by rw[e];show True.intro) (.inr j) (λb q v z=>(k.2 b v).trans z) B ?_;show(by rw[ao O.ne];show j,?_,O.ne,d.obj,_,d.ns,λg=>?_,λg t=>?_)
 . have:=vL f y fs;lia
 . change RelO ((putF f y fs).lookup g) (if g=f then some u else mA g);rw[vK];by_cases q:g=f
   . rw[PK q,PK q];show D
   . rw[PF q,PF q];show r g
 . by_cases q:g=f
   . rw[q];show(tu f y fs).1
   . show(tu f y fs).2 g<|i g λz=>t ?_;change(if g=f then some u else mA g)=none;rw[PF q];show z
def Inv.made(I:Inv X Pc σ H s):Inv X Pc σ (upd (upd H s.heap.objs.size<|.own<|s.heap.objs.size+1) (s.heap.objs.size+1)<|.ins C s.heap.objs.size [])
  {s with heap:=(s.heap.push PySem.W.emptyDict).push (PySem.W.instObj C s.heap.objs.size)}:=by
 have e1:(s.heap.push PySem.W.emptyDict).get? s.heap.objs.size=some PySem.W.emptyDict:=Qa s.heap rfl
 have e2:((s.heap.push PySem.W.emptyDict).push<|PySem.W.instObj C s.heap.objs.size).get? (s.heap.objs.size+1)=some (PySem.W.instObj C s.heap.objs.size):=by
  have:=Qa (s.heap.push PySem.W.emptyDict) (o:=PySem.W.instObj C s.heap.objs.size) rfl
  rwa [Rw]at this
 have h:(s.heap.push PySem.W.emptyDict).Ns s.heap.objs.size (λ_=>none):=(PySem.W.emptyDict,#[],_,e1,rfl,(λe d=>absurd d (by simp)),λ_=>rfl);have f:=I.laid (a:=s.heap.objs.size) (o:=.own (s.heap.objs.size+1)) (h':=s.heap.push PySem.W.emptyDict) (t':=s.toks) (λb u q=>Pu _ q) (Py _) (_,e1);show f.laid (a:=s.heap.objs.size+1) (o:=.ins C s.heap.objs.size []) (t':=s.toks) (λb u q=>Pu _ q) (Nat.le_of_eq<|Rw _ _) ?_;have c:s.heap.objs.size≠s.heap.objs.size+1:=P5<|S8 _;show(by rw[ao c,ak],Qg _,c,e2,λ_=>none,(Heap.Ns1.of_empty h).at λo q=>Pu _ q,λ_=>True.intro,λy g=>absurd rfl g)
def  Ds {prog:Program} {w:World} {env:Env} {e:Expr} {f:Str} {pos:Pos} {s:Shared} {Q:Value->Shared->Prop} (b:attributeBase e f env (eval e env)=eval e env)
  (h:wpAny (model prog w) A (eval e env) (λo a=>wpAny (model prog w) A (getAttr o f true) Q E a) E s):wpAny (model prog w) A (eval (.Attribute e f pos) env) Q E s:=
 Attribute_any_ h (by rw[arm_eval_Attribute,b])
end
section
variable{X:Cx}{o e value:Expr}{f:Str}{pos pos' tpos:Pos}{ta tv:TE}
end
section
variable{X:Cx}{Pc:List (Addr × Obj)}{σ:St}{H:Hp}{s:Shared}{A:Around}{E:Value->Shared->Prop}{Q:Value->Shared->Prop}{c:Value}{b:Bool}
inductive TyOf(K:Frag)(H:Hp):V->Value->Prop where
 | non:TyOf K H .non (.type "NoneType")
 | bl (x:Bool):TyOf K H (.bl x) (.type "bool")
 | int (i:Int):TyOf K H (.int i) (.type "int")
 | str (x:Str):TyOf K H (.str x) (.type "str")
 | flt (x:UInt64):TyOf K H (.flt x) (.type "float")
 | lst {a:Addr} {xs:List V} (e:H a=↥xs):TyOf K H (.ref a) (.type "list")
 | frz {a:Addr} {o:Obj} {xs:List V} (e:H a=some (.frz o<|.lst xs)):TyOf K H (.ref a) (.type "list")
 | tup {a:Addr} {xs:List V} (e:H a=some (.tup xs)):TyOf K H (.ref a) (.type "tuple")
 | dK {a:Addr} {Pe:List (Key × V)} (e:H a=some (.dK Pe)):TyOf K H (.ref a) (.type "dict")
 | dT {a:Addr} {Pe:List (List Key × V)} (e:H a=some (.dT Pe)):TyOf K H (.ref a) (.type "dict")
 | ins {a C dx:Addr} {fs:List (Str × V)} (e:H a=some (.ins C dx fs)) (cl:Cls K C) (ha:findIn K (.ref C) "__class__"=some (some<|.builtin "object.__class__"))
   (hn:PySem.W.specialIn K (.builtin "object.__class__") "__get__"=some (some<|.builtin "getset_descriptor.__get__")) (htk:PySem.W.takesIn K (.builtin "object.__class__")=some true)
   (hm:PySem.W.mroIn K C (.type "object")=some true):TyOf K H (.ref a) (.ref C)
def FH{x:V}{u t:Value}(I:Inv X Pc σ H s)(d:RelV x u)(r:TyOf X.K H x t)(e:PySem.W.kitOne X.K t c=some b)(h:∀ B,Q (.bool b) {s with toks:=B}):
  wpAny (model X.prog X.w) A (call (.builtin "isinstance") [u,c]) Q E s:=by
 cases r with
 | non=>cases (show u=Value.none from d);show QA PySem.W.kitx_none I.kIn True.intro e (λz=>nomatch z) h
 | bl y=>cases (show u=Value.bool y from d);show QA PySem.W.kitx_bool I.kIn True.intro e (λz=>nomatch z) h
 | int i=>obtain⟨t,q⟩:=(show ∃ t,u=Value.int i t from d);cases q;show QA PySem.W.kitx_int I.kIn True.intro e (λz=>nomatch z) h
 | str y=>obtain⟨t,q⟩:=(show ∃ t,u=Value.str y t from d);cases q;show QA PySem.W.kitx_str I.kIn True.intro e (λz=>nomatch z) h
 | flt y=>obtain⟨t,q⟩:=(show ∃ t,u=Value.float y t from d);cases q;show QA PySem.W.kitx_float I.kIn True.intro e (λz=>nomatch z) h
 | @lst a g f=>
  cases (show u=Value.ref a from d);obtain⟨_,_,n,_,h1⟩:=(show ObjOk X.prog X.w H s.heap a (.lst g) from I.hok a _ f);show QA PySem.W.kitx_list I.kIn (_,h1,rfl) e (λz=>nomatch z) h
 | @frz a D g f=>
  cases (show u=Value.ref a from d);obtain⟨_,_,_,n,_,h1⟩:=(show ObjOk X.prog X.w H s.heap a (.frz D<|.lst g) from I.hok a _ f);show QA PySem.W.kitx_list I.kIn (_,h1,rfl) e (λz=>nomatch z) h
 | @tup a g f=>
  cases (show u=Value.ref a from d);obtain⟨_,_,_,p⟩:=(show ObjOk X.prog X.w H s.heap a (.tup g) from I.hok a _ f);obtain⟨o,h1,h2,_⟩:=p;show QA PySem.W.kitx_tuple I.kIn (o,h1,h2) e (λz=>nomatch z) h
 | @dK a j f=>
  cases (show u=Value.ref a from d);obtain⟨_,_,vs,_,p⟩:=(show ObjOk X.prog X.w H s.heap a (.dK j) from I.hok a _ f);obtain⟨o,G,F,h1,h2,_⟩:=p;show QA PySem.W.kitx_dict I.kIn (o,h1,h2.1) e (λz=>nomatch z) h
 | @dT a j f=>
  cases (show u=Value.ref a from d);obtain⟨_,_,g,_,o,G,F,h1,h2,_⟩:=(show ObjOk X.prog X.w H s.heap a (.dT j) from I.hok a _ f);show QA PySem.W.kitx_dict I.kIn (o,h1,h2.1) e (λz=>nomatch z) h
 | @ins a C P M f l m v k L=>
  cases (show u=Value.ref a from d);obtain⟨mA,O,_⟩:=uS I.hok f;obtain⟨N,J,_⟩:=O.look;show QA (PySem.W.kitx_own (l.get _) l.hd m v k L) I.kIn J e (λz=>nomatch z) h
end
structure Room(k:Nat)(A:Around):Prop where
 hd:A.handled=none
 dp:A.depth+3*k+5<recursionLimit
 un:A.units+16*k+200<cLine
variable{A:Around}
def  Room.mono{j k:Nat}(r:Room k A)(h:j<=k):Room j A:=(r.hd,by have:=r.dp;omega,by have:=r.un;omega)
def  Room.deeper{k:Nat}(r:Room (k+1) A)(env:Env):Room k (A.deeper env):=
 (r.hd,by have:=r.dp;change A.depth+1+3*k+5<_;omega,by have:=r.un;change A.units+3+16*k+200<_;omega)
variable{us:List Value}{kw:List (Str × Value)}
def Et{C:Addr}:(A.under<|.builtin "type.__call__" (.ref C::us,kw)).depth=A.depth+1:=by
 first | rfl | simp[Around.under,Code.weight,Code.isCreation,Code.isGuard,Code.isCaller,Code.frames,Code.isFrame,guardIds]
def Eu{C:Addr}:(A.under<|.builtin "type.__call__" (.ref C::us,kw)).units=A.units+1:=by
 first | rfl | simp[Around.under,Code.cUnits,Code.frames,Code.isFrame]
def  Room.make{k:Nat}(r:Room (k+1) A)(C:Addr)(us:List Value)(kw:List (Str × Value)):Room k (A.under<|.builtin "type.__call__" (.ref C::us,kw)):=
 (r.hd,by have:=r.dp;rw[Et];omega,by have:=r.un;rw[Eu];omega)
def  Room.depth{k:Nat}(r:Room k A):A.depth<recursionLimit:=by have:=r.dp;omega
def  Room.units{k:Nat}(r:Room k A):A.units+64<cLine:=by have:=r.un;omega
def  tNil:TA:=λ_ H Q=>Q [] H
def  tCons(a:TE)(c:TA):TA:=λσ H Q=>a σ H λx b=>c σ b λd e=>Q (x::d) e
section
variable{X:Cx}{e:Expr}{es:List Expr}{te:TE}{t:TA}{pos:Pos}
def  ac:PA X [] tNil:=λ_ _ _ _ H Q I h=>Ru ([],H,I,.nil,h)
def aa(b:PE X e te)(i:PA X es t)(n:starEach (e::es) X.env=(false ,eval e X.env)::starEach es X.env:=by rfl):PA X (e::es) (tCons te t):=by
 intro pos a s σ H Q I h;rw[n];change wpAny _ _ (spliced ((false ,eval e X.env)::backTo pos (starEach es X.env))) _ _ s;show Rm<|thn (b a s σ H _ I h) λu j ⟨x,f,c,o,d⟩=>?_;show thn (i pos a j σ f _ c d) λus q ⟨l,m,g,k,p⟩=>(x::l,m,g,.cons o k,p)
def  tTup(t:TA):TE:=λσ H Q=>t σ H λb a=>b.length<=sizeLine/\∀ p,a p=none->Q (.ref p) (upd a p<|.tup b)
def  tLst(t:TA):TE:=λσ H Q=>t σ H λb a=>b.length<=sizeLine/\∀ p,a p=none->Q (.ref p) (upd a p<|.lst b)
def bo{x1}(h:PA X es t):PE X (.Tuple es x1 pos) (tTup t):=by
 intro f s σ H Q I j;show wpAny_Tuple_spliced (thn (h pos f s σ H _ I j) λus a ⟨g,c,d,r,z,q⟩=>(by rw[← r.length];show z,?_));have i:c a.heap.objs.size=none:=d.hok.fresh<|Py _;show(.ref a.heap.objs.size,upd c a.heap.objs.size<|.tup g,d.laid (t':=a.toks) (λb u e=>Pu _ e) (Py _) ?_,rfl,q _ i);show(z,us,r,(_,Qa _ rfl,rfl,_,rfl))
def aE(h:PA X es t):PE X (.List es pos) (tLst t):=by
 intro f s σ H Q I j;show wpAny_List_spliced (thn (h pos f s σ H _ I j) λus a ⟨g,c,d,r,z,q⟩=>(by rw[← r.length];show z,?_));have i:c a.heap.objs.size=none:=d.hok.fresh<|Py _;show(.ref a.heap.objs.size,upd c a.heap.objs.size<|.lst g,d.laid (t':=a.toks) (λb u e=>Pu _ e) (Py _) ?_,rfl,q _ i);show(z,us,0,r,Qa _ rfl)
end
abbrev Sp:=List V->Hp->VK->XK->Prop
abbrev CXT:=List Env->Hp->Shared->XK->Value->Shared->Prop
structure Env0(P:Program)(w:World)(K:Frag)(mg:Str->Option Value)(base:Heap)(A:Around)(outer:List Env)(s:Shared)(H:Hp):Prop where
 frames:A.frames=some outer
 mod:Mod K mg base
 bs:∀ b o,base.get? b=some o->s.heap.get? b=some o/\H b=none
 bsz:base.objs.size<=s.heap.objs.size
 funs:s.heap.FunFrames base outer
 frf:∀ b∈frs outer,H b=none
 hok:HOk P w H s.heap
 bare:AllBare s.gens
def  CE(a:List Env)(P:Program)(w:World)(H:Hp)(s:Shared)(Q:VK)(u:Value)(s':Shared):Prop:=
 ∃ v b,s'.os=s.os/\AllBare s'.gens/\Un (frs a) [] H b s.heap s'.heap/\HOk P w b s'.heap/\RelV v u/\Q v b
def  CR(CX:CXT)(a:List Env)(P:Program)(w:World)(H:Hp)(s:Shared)(Q:VK)(E:XK)(r:Result)(s':Shared):Prop:=
 match r with
 | .ok (.ret u)=>CE a P w H s Q u s'
 | .ok _=>False
 | .error e=>CX a H s E e s'
structure FnOk(P:Program)(w:World)(K:Frag)(mg:Str->Option Value)(base:Heap)(CX:CXT)(k:Nat)(f:Addr)(fd:FuncData)(ps:List Str)(sp:Sp):Prop where
 len:∀ vs H Q E,sp vs H Q E->vs.length=ps.length
 run:∀(A:Around) (outer:List Env) (s:Shared) (H:Hp) (args:Args) (us:List Value) (vs:List V) (Q:VK) (E:XK),Room k A->Env0 P w K mg base A outer s H->BindsTo s fd args (ps.zip us)->Vals vs us->sp vs H Q E->
  codeAny (model P w) A (.call (.ref f) args) (CR CX outer P w H s Q E) s
variable{P:Program}{K:Frag}{mg:Str->Option Value}{base:Heap}{CX:CXT}{f:Addr}{fd:FuncData}{ps:List Str}
def  FnOk.mono{w:World}{j k:Nat}{sp:Sp}(F:FnOk P w K mg base CX j f fd ps sp)(h:j<=k):
  FnOk P w K mg base CX k f fd ps sp:=(F.len,λA a s H b us vs Q E c=>F.run A a s H b us vs Q E<|c.mono h)
def  FnOk.imp {w:World} {k:Nat} {sp c:Sp} (F:FnOk P w K mg base CX k f fd ps sp)
  (h:∀ vs H Q E,c vs H Q E->sp vs H Q E):FnOk P w K mg base CX k f fd ps c:=
 (λvs H Q E q=>F.len vs H Q E<|h _ _ _ _ q,λA a s H b us vs Q E g e j d i=>F.run A a s H b us vs Q E g e j d<|h _ _ _ _ i)
variable{outer:List Env}
def  Env0.make{w:World}{s:Shared}{H:Hp}(e:Env0 P w K mg base A outer s H)(C:Addr)(us:List Value)(kw:List (Str × Value)):
  Env0 P w K mg base (A.under<|.builtin "type.__call__" (.ref C::us,kw)) outer s H:=(by first | show e.frames | (simpa [Around.under,Code.envs,Code.isFrame,pushEnvs] using e.frames),e.mod,e.bs,e.bsz,e.funs,e.frf,e.hok,e.bare)
section
variable{X:Cx}{Pc:List (Addr × Obj)}{σ:St}{H:Hp}{s s':Shared}
def  Inv.env0(I:Inv X Pc σ H s):Env0 X.prog X.w X.K X.mg X.base X.A X.stack s H:=
 (I.ok.frames,I.ok.mod,I.bs,Pk I.ok.bsz I.sz,I.stack,I.stkFree,I.hok,I.bare)
def Inv.after{Q:VK}{u:Value}(I:Inv X Pc σ H s)(h:CE X.stack X.prog X.w H s Q u s'):EP X Pc σ Q u s':=by
 obtain⟨v,i,k,a,j,e,r,q⟩:=h;obtain⟨f,g,d,t,c⟩:=s';obtain rfl:c=s.os:=k;show(v,i,I.call (h':=f) (g':=g) (d':=d) (t':=t) (ch:=[]) j e a (λb z=>absurd z (by simp)),r,q)
end
def  tCall(sp:Sp)(a:List V)(E:XK)(t:TA):TE:=λσ H Q=>t σ H λvs b=>sp (vs++a) b Q E
def  tMake(C:Addr)(sp:Sp)(c:List V)(E:XK)(t:TA):TE:=λσ H Q=>t σ H λvs b=>∀ x a,b x=none->b a=none->a≠x->
 sp (.ref x::(vs++c)) (upd (upd b a<|.own x) x<|.ins C a []) (λv d=>v=.non/\Q (.ref x) d) E
def  Binds(K:Frag)(fd:FuncData)(ps:List Str)(a:List Value):Prop:=
 ∀(s:Shared) (us:List Value),K.In s.heap->(us++a).length=ps.length->BindsTo s fd (us,[]) (ps.zip<|us++a)
def  Binds.all(h:∀ us:List Value,us.length=ps.length->bindArgs fd (us,[])=pure (ps.zip us)):Binds K fd ps []:=λs us _ a=>by
 rw[QI]at a ⊢;show .of_eq (h us a)
def  je(CX:CXT)(X:Cx)(E:XK):Prop:=∀(b:List (Addr × Obj)) (σ:St) (H:Hp) (s:Shared) (e:Value) (a:Shared),Inv X b σ H s->CX X.stack H s E e a->X.xe e a
section
variable{X:Cx}{CX:CXT}{k:Nat}{f C:Addr}{fd:FuncData}{ps:List Str}{sp:Sp}{dvs:List V}{ds:List Value}{E:XK}{x m:Str}{p pos apos:Pos}{e o:Expr}{es:List Expr}{ta:TE}{t:TA}
def w5 {b:List (Addr × Obj)} {σ:St} {H:Hp} {s:Shared} {Q:VK} {us:List Value} {vs:List V} (F:FnOk X.prog X.w X.K X.mg X.base CX k f fd ps sp) (i:Room k X.A) (n:Binds X.K fd ps ds) (l:Vals dvs ds) (m:je CX X E)
  (I:Inv X b σ H s) (r:Vals vs us) (h:sp (vs++dvs) H Q E):wpAny (model X.prog X.w) X.A (call (.ref f) us) (EP X b σ Q) X.xe s:=by
 have c:Vals (vs++dvs) (us++ds):=r.append l;have j:(us++ds).length=ps.length:=by rw[← c.length];show F.len _ _ _ _ h
 show Sm (RX (F.run X.A X.stack s H (us,[]) (us++ds) (vs++dvs) Q E i I.env0 (n s us I.kIn j) c h) λr g a=>?_)
 cases r with
 | error e=>show m b σ H s e g I a
 | ok d=>
  cases d with
  | ret u=>show I.after a
  | next=>show False.elim a
  | brk=>show False.elim a
  | cont=>show False.elim a
def Dt (F:FnOk X.prog X.w X.K X.mg X.base CX k f fd ps sp) (j:Room k X.A) (l:Gl X x) (u:X.mg x=↑f) (d:keepIn X.K (.ref f)=true) (v:Binds X.K fd ps ds) (n:Vals dvs ds) (o:je CX X E)
  (g:PA X (e::es) t) (a:(x==("__debug__":Str))=false:=by decide) (i:starEach (e::es) X.env=(false ,eval e X.env)::starEach es X.env:=by rfl) (b:(backTo pos<|starEach es X.env).any (·.1)=false:=by rfl):
  PE X (.Call (.Name x p) (e::es) [] pos) (tCall sp dvs E t):=by
 intro m s σ H Q I h;show Qz<|jT I l u ?_ a;show QT (h₀:=X.base) I.ok.mod.kin d (thn (g pos m s σ H _ I h) λus z ⟨vs,y,c,r,q⟩=>(c.kIn,?_)) i b;show w5 F j v n o c r q
structure Mk(K:Frag)(C f:Addr):Prop where
 makes:PySem.W.makesIn K C=true
 init:findIn K (.ref C) "__init__"=some ↑f
 fn:isFn K (.ref f)=true
 kp:keepIn K (.ref C)=true
def Bp {c:List (Addr × Obj)} {σ:St} {H:Hp} {s:Shared} {Q:VK} {us:List Value} {vs:List V} (M:Mk X.K C f) (F:FnOk X.prog X.w X.K X.mg X.base CX k f fd ps sp) (n:Room (k+1) X.A) (B:Binds X.K fd ps ds) (y:Vals dvs ds)
  (z:je CX X E) (I:Inv X c σ H s) (r:Vals vs us)
  (h:∀ x dx,H x=none->H dx=none->dx≠x->sp (.ref x::(vs++dvs)) (upd (upd H dx<|.own x) x<|.ins C dx []) (λv t=>v=.non/\Q (.ref x) t) E):
  wpAny (model X.prog X.w) X.A (call (.ref C) us) (EP X c σ Q) X.xe s:=by
 have g:=h (s.heap.objs.size+1) s.heap.objs.size (I.hok.fresh<|RU _) (I.hok.fresh<|Py _)<|P5<|S8 _;have b:=Inv.made (C:=C) I;have d:Vals (V.ref (s.heap.objs.size+1)::(vs++dvs)) (Value.ref (s.heap.objs.size+1)::(us++ds)):=.cons rfl (r.append y)
 have q:(Value.ref (s.heap.objs.size+1)::us++ds).length=ps.length:=by
  have e:=d.length;rw[F.len _ _ _ _ g]at e;show e.symm
 show Sm (G6 (f:=f) I.kIn M.makes M.init (Q3.mp M.fn)<|RX (F.run _ X.stack _ _ (Value.ref (s.heap.objs.size+1)::us,[]) (Value.ref (s.heap.objs.size+1)::(us++ds)) _ _ E (n.make C us [])
  (b.env0.make C us []) (B _ (Value.ref (s.heap.objs.size+1)::us) b.kIn q) d g) λr l a=>?_)
 cases r with
 | error e=>show z c σ _ _ e l b a
 | ok i=>
  cases i with
  | ret u=>
   obtain⟨v,o,m,D,p,j⟩:=b.after a;subst p;show(D,(V.ref<|s.heap.objs.size+1,o,m,rfl,j))
  | next=>show False.elim a
  | brk=>show False.elim a
  | cont=>show False.elim a
def Du (M:Mk X.K C f) (F:FnOk X.prog X.w X.K X.mg X.base CX k f fd ps sp) (i:Room (k+1) X.A) (j:Gl X x) (o:X.mg x=↑C) (u:Binds X.K fd ps ds) (m:Vals dvs ds) (n:je CX X E)
  (d:PA X (e::es) t) (a:(x==("__debug__":Str))=false:=by decide) (g:starEach (e::es) X.env=(false ,eval e X.env)::starEach es X.env:=by rfl) (b:(backTo pos<|starEach es X.env).any (·.1)=false:=by rfl):
  PE X (.Call (.Name x p) (e::es) [] pos) (tMake C sp dvs E t):=by
 intro l s σ H Q I h;show Qz<|jT I j o ?_ a;show QT (h₀:=X.base) I.ok.mod.kin M.kp (thn (d pos l s σ H _ I h) λus y ⟨vs,v,c,r,q⟩=>(c.kIn,?_)) g b;show Bp M F i u m n c r q
def G7 (M:Mk X.K C f) (F:FnOk X.prog X.w X.K X.mg X.base CX k f fd ps sp) (b:Room (k+1) X.A) (c:Gl X x) (g:X.mg x=↑C) (i:Binds X.K fd ps ds) (d:Vals dvs ds) (e:je CX X E)
  (a:(x==("__debug__":Str))=false:=by decide):PE X (.Call (.Name x p) [] [] pos) (tMake C sp dvs E tNil):=by
 intro j s σ H Q I h;show Qz<|jT I c g ?_ a;show PySem.W.callWith_K0 I.kIn M.kp (Bp (us:=[]) M F b i d e I .nil h)
end
section
variable{X:Cx}{CX:CXT}{k:Nat}{f C:Addr}{fd:FuncData}{ps ks:List Str}{sp:Sp}{E:XK}{x m:Str}{p pos apos kpos:Pos}{e o:Expr}{es:List Expr}{kws:List Keyword}{te ta:TE}{t tk:TA}{nm:Option Str}
variable{g:List Value->List Value->List Value}{gV:List V->List V->List V}
end
structure aM(N P:List Str)(sc:Scope):Prop where
 kind:sc.kind=.function
 co:sc.isCoroutine=false
 gen:sc.isGenerator=false
 nd:N.Nodup
 pre:N.take P.length=P
 par:∀ x∈P,sc.names.lookup x=some .local\/sc.names.lookup x=some .cell
 nofree:∀ y∈sc.names,y.2≠.free
def zM{b:Str->Option NameKind}{x:Str}:∀{a:List (Str × Value)} {m:Str->Option Value},(∀ v,(x ,v)∉a)->bindL b a m x=m x
 | [],_,_=>rfl
 | (n ,v)::r,m,h=>by
  unfold bindL;rw[zM λw c=>h w<|Pm _ c]
  split
  . have:x≠n:=by rintro rfl;show h v Pn
    simp[this]
  . rfl
def zN{b:Str->Option NameKind}{x:Str}:∀{a:List (Str × Value)} {m:Str->Option Value},(∀ v,(x ,v)∉a)->bindC b a m x=m x
 | [],_,_=>rfl
 | (n ,v)::r,m,h=>by
  unfold bindC;rw[zN λw c=>h w<|Pm _ c]
  split
  . rfl
  . have:x≠n:=by rintro rfl;show h v Pn
    simp[this]
def zO{a:Str->Option NameKind}{x:Str}{v:Value}:∀{P:List Str} {vs:List Value} {i:Nat} {m:Str->Option Value},P.Nodup->P[i]? =some x->vs[i]? =some v->a x=some .local->
  bindL a (P.zip vs) m x=some v
 | [],_,_,_,_,h,_,_=>by simp at h
 | _::_,[],_,_,_,_,h,_=>by simp at h
 | p::P,w::vs,0,m,nd,h1,h2,hk=>by
  simp at h1 h2;subst h1;subst h2;change bindL a ((p ,w)::P.zip vs) m p=_;unfold bindL;rw[zM λv b=>(Q7.mp nd).1 (Sx b).1,PK hk];simp
 | p::P,w::vs,i+1,m,nd,h1,h2,hk=>by
  change bindL a ((p ,w)::P.zip vs) m x=_;unfold bindL;show zO (i:=i) (Q7.mp nd).2 (by simpa using h1) (by simpa using h2) hk
def zP{a:Str->Option NameKind}{x:Str}{v:Value}:∀{P:List Str} {vs:List Value} {i:Nat} {m:Str->Option Value},P.Nodup->P[i]? =some x->vs[i]? =some v->a x≠some .local->
  bindC a (P.zip vs) m x=some v
 | [],_,_,_,_,h,_,_=>by simp at h
 | _::_,[],_,_,_,_,h,_=>by simp at h
 | p::P,w::vs,0,m,nd,h1,h2,hk=>by
  simp at h1 h2;subst h1;subst h2;change bindC a ((p ,w)::P.zip vs) m p=_;unfold bindC;rw[zN λv b=>(Q7.mp nd).1 (Sx b).1,PF hk];simp
 | p::P,w::vs,i+1,m,nd,h1,h2,hk=>by
  change bindC a ((p ,w)::P.zip vs) m x=_;unfold bindC;show zP (i:=i) (Q7.mp nd).2 (by simpa using h1) (by simpa using h2) hk
def  start(N:List Str)(vs:List V):St:=vs.map some++List.replicate (N.length-vs.length) none
def  cxOf(CX:CXT)(P:Program)(w:World)(K:Frag)(mg:Str->Option Value)(base:Heap)(N:List Str)(a:Str)(scope:Scope)(f:Addr)(c:Value)(A:Around)(outer:List Env)(s:Shared)(H:Hp)(E:XK):Cx where
 prog:=P
 w:=w
 K:=K
 mg:=mg
 base:=base
 A:=A.deeper (envOfC a scope s.heap.objs.size f c)
 N:=N
 s₀:=s
 H₀:=H
 env:=envOfC a scope s.heap.objs.size f c
 outer:=outer
 stack:=envOfC a scope s.heap.objs.size f c::outer
 ex:=[]
 calm:=true
 fn:=λ_=>true
 pn:=[]
 xe:=λe g=>wpAny (model P w) (A.deeper<|envOfC a scope s.heap.objs.size f c) («leaving» (envOfC a scope s.heap.objs.size f c) e) (λ_ b=>CX outer H s E e b) (λd b=>CX outer H s E d b) g
def ra{a:Scope}{n:Nat}{x:Str}(h:a.names.lookup x=some .cell):∃ c,(cellsFrom n a.names []).lookup x=some c:=by
 have q:=RY a.names n []<|.inl h;show Option.isSome_iff_exists.mp q
variable{scope:Scope}
def zQ {w:World} {N:List Str} {d:Str} {B:Value} {s D:Shared} {H:Hp} {E:XK} {vs:List V}
  (S:aM N ps scope) (J:A.handled=none) (g:Env0 P w K mg base A outer s H) (O:vs.length=ps.length) (r:Vals vs us)
  (x:InCallC s s.heap.objs.size (bindL (envOfC d scope s.heap.objs.size f B).kindOf (ps.zip us) λ_=>none) (cellsFrom (s.heap.objs.size+1) scope.names []) (bindC (envOfC d scope s.heap.objs.size f B).kindOf (ps.zip us) λ_=>none) D):
  Inv (cxOf CX P w K mg base N d scope f B A outer s H E) [] (start N vs) H D:=by
 have I:ps.length<=N.length:=by have:=congrArg List.length S.pre;rw[QB]at this;lia
 obtain⟨h1,M,rfl,C⟩:=x.done;have j:∀ b:Addr,b∉(cxOf CX P w K mg base N d scope f B A outer s H E).ex:=λb z=>absurd (show b∈([]:List Addr) from z) (by simp)
 show((g.mod,S.kind,rfl,rfl,Py _,λy z c h1 h2=>?_,λy l=>?_,λy c _ h=>?_,λ_=>J,Around.frames_deeper g.frames,.inr (rfl,rfl),λb z=>absurd z<|j b,g.bs,g.bsz,λb _ _=>j b,λb z=>absurd z<|j b,g.funs,g.frf),
  rfl,g.bare,Un.kept C,(_,x.toInCall.ns,λi y v h1 h2 h3=>?_),λy c h=>(_,x.cell y c h),g.hok.fresh<|Py _,λy c h=>?_,λp m=>absurd (show p∈([]:List (Addr × Obj)) from m) (by simp),g.hok.kept C,?_)
 . show name_of_addr x.apart (QD h1) (QD h2)
 . have l:scope.names.lookup y=some .cell\/scope.names.lookup y=some .free:=l;rcases l with l | l
   . show ra l
   . show absurd rfl (S.nofree _<|QD l)
 . show Qd (x.above y c<|QD h)
 . have t:i<vs.length:=by
    unfold start at h2;by_cases t:i<vs.length
    . show t
    . rw[P4 (by simpa using t)]at h2;rw[List.getElem?_replicate]at h2
      split at h2 <;> cases h2
   have G:vs[i]? =some v:=by
    unfold start at h2;rw[PV (by simpa using t),Pp]at h2
    cases e:vs[i]? with
    | none=>rw[e]at h2;cases h2
    | some a=>rw[e]at h2;cases h2;rfl
   obtain⟨u,F,L⟩:=r.get G
   have m:ps[i]? =some y:=by
    rw[← S.pre,QV #[4]];show h1
   have o:ps.Nodup:=by rw[← S.pre];show S.nd.sublist (List.take_sublist _ _)
   show(u,L,?_);rcases S.par y (PD m) with k | k
   . show .inl (k,zO o m F k)
   . obtain⟨c,e⟩:=ra (n:=s.heap.objs.size+1) k;show .inr (.inl k,c,e,?_);have q:=x.cell y c e;rw[zP o m F (by change scope.names.lookup y≠_;rw[k];decide)]at q;show q
 . show g.hok.fresh (Qd<|x.above y c<|QD h)
 . unfold start;change _=N.length;rw[Pq,Pj,List.length_replicate];lia
def Ij {w:World} {k:Nat} {g a:Str} {c:Arguments} {d:List Stmt} {dV U B Y j ct oc:Value} {an od:Option Addr}
  {G:Array (Option Value)} {N ps:List Str} {sp:Sp} (lk:K.lookup f=some (oc,od,.func<|fnOf g a c d scope dV U B Y an j ct,G)) (L:codeIn K j a=true) (S:aM N ps scope)
  (len:∀ vs H Q E,sp vs H Q E->vs.length=ps.length)
  (l:∀(A:Around) (outer:List Env) (s:Shared) (H:Hp) (vs:List V) (Q:VK) (E:XK),Room k (A.deeper<|envOfC a scope s.heap.objs.size f j)->sp vs H Q E->
   ∃ t,PSs (cxOf CX P w K mg base N a scope f j A outer s H E) d t/\t {nx:=λ_ h=>Q .non h,rt:=Q} (start N vs) H):
  FnOk P w K mg base CX (k+1) f (fnOf g a c d scope dV U B Y an j ct) ps sp:=by
 show(len,λA outer s H Z us vs Q E R C hb r p=>?_);have hl:=len _ _ _ _ p;have T:K.In s.heap:=C.mod.kin.keeps λb o e=>(C.bs b o e).1;have O:s.heap.NoLimit:=C.mod.nolimit.keeps λb o e=>(C.bs b o e).1
 have i:∀ y∈ps.zip us,scope.names.lookup y.1=some .local\/(scope.names.lookup y.1=some .cell/\((cellsFrom (s.heap.objs.size+1) scope.names []).lookup y.1).isSome=true):=λ⟨n,v⟩ hy=>by
  rcases S.par n (Sx hy).1 with q | q
  . show .inl q
  . show .inr (q,RY _ _ _<|.inl q)
 show Ts R.depth (T _ _ lk) rfl S.co S.gen rfl (PySem.W.codeRec_of T L)<|hb _ _ _ _ ?_;show SO S.kind i λaa he X x=>?_;subst he;show(O.keeps x.toInCall.keep,codeAny_func ?_);obtain⟨t,ht,hq⟩:=l A outer s H vs Q E (R.deeper _) p;have I:Inv (cxOf CX P w K mg base N a scope f j A outer s H E) [] (start N vs) H X:=zQ S R.hd C hl r x;show P7 (ht [] X (start N vs) H _ I hq) (λfl M m=>?_) λe M m=>m
 have z:∀{D:St} {h:Hp} {v:V} {u:Value},Inv (cxOf CX P w K mg base N a scope f j A outer s H E) [] D h M->RelV v u->Q v h->CE outer P w H s Q u M:=
  λ{D h v u} J F q=>(v,h,J.os,J.bare,J.base,J.hok,F,q)
 cases fl with
 | ret u=>
  obtain⟨v,D,h,J,F,q⟩:=m;show z J F q
 | next=>
  obtain⟨D,h,J,q⟩:=m;show z (v:=V.non) (u:=Value.none) J rfl q
 | brk=>
  obtain⟨_,_,_,q⟩:=m;show False.elim q
 | cont=>
  obtain⟨_,_,_,q⟩:=m;show False.elim q
section
variable{X:Cx}{x:Str}{p pos:Pos}{e:Expr}{es:List Expr}{t:TA}{id T:String}{r:List V->Hp->VK->Prop}
def  tCB(r:List V->Hp->VK->Prop)(t:TA):TE:=λσ H Q=>t σ H λvs a=>r vs a Q
def aD (i:CallR X (.builtin id) r) (m:Gl X x) (u:X.mg x=none) (d:bootBuiltins x=some (.builtin id)) (f:PA X (e::es) t) (l:x≠"__name__":=by decide) (a:(x==("__debug__":Str))=false:=by decide)
  (g:starEach (e::es) X.env=(false ,eval e X.env)::starEach es X.env:=by rfl) (b:(backTo pos<|starEach es X.env).any (·.1)=false:=by rfl):PE X (.Call (.Name x p) (e::es) [] pos) (tCB r t):=by
 intro c s σ H Q I h;show Qz<|lx I m u d ?_ l a;show Sn (thn (f pos c s σ H _ I h) λus n ⟨vs,k,q,o,j⟩=>i c n σ k vs us Q q o j) g b
def c6 (i:CallR X (.type T) r) (m:Gl X x) (u:X.mg x=none) (d:bootBuiltins x=some (.type T)) (f:PA X (e::es) t) (l:x≠"__name__":=by decide) (a:(x==("__debug__":Str))=false:=by decide)
  (g:starEach (e::es) X.env=(false ,eval e X.env)::starEach es X.env:=by rfl) (b:(backTo pos<|starEach es X.env).any (·.1)=false:=by rfl):PE X (.Call (.Name x p) (e::es) [] pos) (tCB r t):=by
 intro c s σ H Q I h;show Qz<|lx I m u d ?_ l a;show QF (thn (f pos c s σ H _ I h) λus n ⟨vs,k,q,o,j⟩=>i c n σ k vs us Q q o j) g b
end
end L2
namespace HT
open PySem PyProof.Rows
section
open PySem.SeqAt
open PySem.AutoSeq1 (wpAny_loadPart')
open PySem.MeetsSeq PySem.MeetsSeq2 PySem.MeetsSeq3
end
section
variable{prog:Program}{w:World}{A:Around}{E:Value->Shared->Prop}{s:Shared}
def  sIx(n d:Nat):Option Int->Nat
 | none=>d
 | some v=>if v<0 then(v+(n:Int)).toNat else min v.toNat n
def sIx_nat(n d k:Nat):sIx n d (some (k:Int))=min k n:=by
 change(if (k:Int)<0 then((k:Int)+(n:Int)).toNat else min (k:Int).toNat n)=min k n;rw[if_neg #[4],Int.toNat_natCast]
end
end HT
namespace L2
open PySem PySem.Spec PyProof.Rows
abbrev TO:=St->Hp->(Option Int->Hp->Prop)->Prop
def  PO(X:Cx)(e:Option Expr)(t:TO):Prop:=
 ∀(b:List (Addr × Obj)) (s:Shared) (σ:St) (H:Hp) (Q:Option Int->Hp->Prop),Inv X b σ H s->t σ H Q->
  wpAny (model X.prog X.w) X.A (evalPart e X.env) (λu c=>∃ o a,Inv X b σ a c/\IsPart u o/\Q o a) X.xe s
def  jk:TO:=λ_ H Q=>Q none H
def  tPart(t:TE):TO:=λσ H Q=>t σ H λx a=>∃ i,x=.int i/\Q (some i) a
def Ew{ns:∅}:∀{us:List Value},Vals (ns.map V.int) us->IntsAre us ns:=by
 induction ns with
 | nil=>intro us r;rw[TB]at r;cases r;show .nil
 | cons n ns b=>
  intro us r;rw[Pz]at r
  cases r with
  | cons c a=>
   obtain⟨t,e⟩:=c;subst e;show .cons n t (b a)
section
variable{X:Cx}{e:Expr}{te:TE}{lo hi:Option Expr}{tl th:TO}{pos p2:Pos}
def le:PO X none jk:=by
 intro a s σ H Q I h;rw[evalPart_none];show P9 (none,H,I,.none,h)
def jl(h:PE X e te):PO X (some e) (tPart te):=by
 intro d s σ H Q I a;rw[evalPart_some];show thn (h d s σ H _ I a) λu j ⟨x,c,g,f,b⟩=>?_;obtain⟨i,rfl,q⟩:=b;obtain⟨t,rfl⟩:=f;show(some i,c,g,.int i t,q)
def  SlR(X:Cx)(r:V->Option Int->Option Int->Hp->VK->Prop):Prop:=
 ∀(c:List (Addr × Obj)) (s:Shared) (σ:St) (H:Hp) (x:V) (v b d:Value) (lo hi:Option Int) (a:Addr) (Q:VK),Inv X c σ H s->RelV x v->s.heap.IsSliceOf a b d .none->IsPart b lo->IsPart d hi->r x lo hi H Q->
  ∃ T id,typeLookup (.type T) "__getitem__"=pure (some<|.builtin id)/\s.TypeIs v T/\wpAny (model X.prog X.w) X.A (getItem v<|.ref a) (EP X c σ Q) X.xe s
def  tSl(r:V->Option Int->Option Int->Hp->VK->Prop)(te:TE)(tl th:TO):TE:=λσ H Q=>te σ H λx a=>tl σ a λl b=>th σ b λu c=>r x l u c Q
def iM{r:V->Option Int->Option Int->Hp->VK->Prop}(L:SlR X r)(i:PE X e te)(y:PO X lo tl)(n:PO X hi th):PE X (.Subscript e (.Slice lo hi none p2) pos) (tSl r te tl th):=by
 intro c s σ H Q I h;show Subscript_<|thn (i c s σ H _ I h) λv t ⟨x,D,N,M,C⟩=>?_;show wpAny_Slice<|thn (y c t σ D _ N C) λf z ⟨l,k,K,G,F⟩=>thn (n c z σ k _ K F) λd a ⟨u,g,J,o,p⟩=>?_;rw[evalPart_none];show P9 ?_;have E:Inv X c σ g {a with heap:=a.heap.push {cls:=.type "slice",data:=.fields #[f,d,.none]}}:=J.kept (t':=a.toks) λb O q=>Pu _ q;obtain⟨T,id,B,m,j⟩:=L c {a with heap:=a.heap.push {cls:=.type "slice",data:=.fields #[f,d,.none]}} σ g x v f d l u a.heap.objs.size Q E M (Heap.IsSliceOf.new ..) G o p;change wpAny (model X.prog X.w) X.A (subscriptTail e (.Slice lo hi none p2) v<|.ref a.heap.objs.size) (EP X c σ Q) X.xe {a with heap:=a.heap.push {cls:=.type "slice",data:=.fields #[f,d,.none]}};show tail_any (ops:=[.ref a.heap.objs.size,v]) m B j (by with_unfolding_all rfl)
def  cutV(xs:List V)(lo hi:Option Int):List V:=(xs.drop<|HT.sIx xs.length 0 lo).take (HT.sIx xs.length xs.length hi-HT.sIx xs.length 0 lo)
def C2(xs:List V)(lo hi:Option Int):(cutV xs lo hi).length<=xs.length:=by
 unfold cutV;rw[QB,Rg];lia
end
def  ixN(n:Nat)(i:Int):Option Nat:=if 0<=i then(if i<n then some i.toNat else none) else if -(n:Int)<=i then some (i+n).toNat else none
def  atI{α:Type}(xs:List α)(i:Int):Option α:=(ixN xs.length i).bind λj=>xs[j]?
def IB{n:Nat}{i:Int}{j:Nat}(h:ixN n i=some j):seqIndex? i n=some j/\j<n/\ -(n:Int)<=i/\i<n:=by
 unfold ixN at h;by_cases h0:0<=i
 . rw[PK h0]at h;by_cases h1:i<n
   . rw[PK h1]at h;have e:i.toNat=j:=QN h;show(by rw[seqIndex_of h0 h1,e],by lia,by lia,h1)
   . rw[PF h1]at h;cases h
 . rw[PF h0]at h;by_cases h1: -(n:Int)<=i
   . rw[PK h1]at h;have e:(i+n).toNat=j:=QN h;show(by rw[seqIndex_neg #[4] h1,e],by lia,h1,by lia)
   . rw[PF h1]at h;cases h
def yO{α:Type}{xs:List α}{i:Int}{v:α}(h:atI xs i=some v):∃ j,seqIndex? i xs.length=some j/\xs[j]? =some v/\j<xs.length/\ -(xs.length:Int)<=i/\i<xs.length:=by
 unfold atI at h
 cases e:ixN xs.length i with
 | none=>rw[e]at h;cases h
 | some j=>
  rw[e]at h;obtain⟨h1,h2,h3,h4⟩:=IB e;show(j,h1,h,h2,h3,h4)
def aJ{α:Type}{xs:List α}{j:Nat}{v:α}(h:xs[j]? =some v):atI xs (j:Int)=some v:=by
 have a:j<xs.length:=(Ps.mp h).1
 have e:ixN xs.length (j:Int)=some j:=by
  unfold ixN;rw[PK #[4],PK #[4]];simp
 unfold atI;rw[e];show h
def  yP(b:Expr):Prop:=∀ o i,subscripted b false o i=operate [o,i] (getItem o i)
def  IxR(X:Cx)(r:R2):Prop:=
 ∀(b a:Expr) (c:List (Addr × Obj)) (s:Shared) (σ:St) (H:Hp) (x y:V) (v u:Value) (Q:VK),Inv X c σ H s->RelV x v->RelV y u->r x y H Q->
  subscripted a false v u=operate [v,u] (getItem v u)->wpAny (model X.prog X.w) X.A (subscriptTail b a v u) (EP X c σ Q) X.xe s
def  MtR(X:Cx)(id:String)(r:V->List V->Hp->VK->Prop):Prop:=
 ∀(a:List (Addr × Obj)) (s:Shared) (σ:St) (H:Hp) (x:V) (b:List V) (v:Value) (c:List Value) (Q:VK),Inv X a σ H s->RelV x v->Vals b c->r x b H Q->
  wpAny (model X.prog X.w) X.A (call (.builtin id) (v::c)) (EP X a σ Q) X.xe s
section
variable{X:Cx}{a b:Expr}{ta tb:TE}{pos:Pos}
def Ex{r:R2}(e:IxR X r)(c:PE X a ta)(m:PE X b tb)(k:yP b):PE X (.Subscript a b pos) (tOp r ta tb):=by
 intro g s σ H Q I h;show Subscript_ (binT c m I h λv u j x y i d f l q=>e a b g j σ i x y v u Q d f l q<|k _ _)
def  rIxL(K:Frag):R2:=λx y H Q=>∃ p a i v,x=.ref p/\y=.int i/\SqL K H p a/\atI a i=some v/\Q v H
def  rIxT(K:Frag):R2:=λx y H Q=>∃ p a i v,x=.ref p/\y=.int i/\SqT K H p a/\atI a i=some v/\Q v H
def  rIxS:R2:=λx y H Q=>∃ z i c,x=.str z/\y=.int i/\z.length<=sizeLine/\atI z.cps.toList i=some c/\Q (.str ⟨#[c]⟩) H
def Dv:IxR X (rIxL X.K):=by
 intro d f g s σ H x y v u Q I n B h l;obtain⟨p,G,i,z,rfl,rfl,D,m,q⟩:=h;cases n;obtain⟨t,rfl⟩:=B;obtain⟨o,r,e,E⟩:=I.list D;obtain⟨j,h1,h2,h3,h4,h5⟩:=yO m;obtain⟨w,k,c⟩:=r.get h2;have A:=r.length;have F:=tq;have a:EP X g σ Q w s:=(z,H,I,c,q);by_cases h0:0<=i
 . have b:i.toNat=j:=by
    rw[seqIndex_of h0 h5]at h1;show QN h1
   show item_listR e.isList h0 #[4] (by rw[b];simpa using k) a l
 . have b:(i+(o.toArray.size:Int)).toNat=j:=by
    rw[seqIndex_neg #[4] h4]at h1;rw[PY,← A];show QN h1
   show Tg (x:=w) e.isList.typeIs slot_list_getitem.lookup
    (wpAny_getItem_list_neg (Q:=λr C=>r=w/\EP X g σ Q r C) e.isList #[4] (by rw[PY] <;> lia) #[4] (by rw[b];simpa using k) (rfl,a)) l
def Kd:IxR X (rIxT X.K):=by
 intro b d e s σ H x y v u Q I l B h A;obtain⟨p,F,i,z,rfl,rfl,o,g,q⟩:=h;cases l;obtain⟨t,rfl⟩:=B;obtain⟨E,r,f,D⟩:=I.tuple o;obtain⟨j,h1,h2,h3,h4,h5⟩:=yO g;obtain⟨w,n,c⟩:=r.get h2;have m:=r.length;have C:=tq;have a:EP X e σ Q w s:=(z,H,I,c,q)
 show Tg (x:=w) f.typeIs slot_tuple_getitem.lookup
  (getItem_tuple (j:=j) (Q:=λr k=>r=w/\EP X e σ Q r k) f #[4] #[4] (by rw[PY,← m];show h1) (by simpa using n) (rfl,a)) A
def Ke:IxR X rIxS:=by
 intro a b n s σ H x y v u Q I e k h g;obtain⟨z,i,c,rfl,rfl,m,d,q⟩:=h;obtain⟨t,rfl⟩:=e;obtain⟨o,rfl⟩:=k;obtain⟨j,h1,h2,h3,h4,h5⟩:=yO d;have f:z.cps.toList.length=z.length:=by simp[Str.length]
 rw[f]at h1 h4 h5;have l:=tq
 show tail_any (So s z t) slot_str_getitem.lookup (getItem_str (c:=c) (by
  have e1:decide (i < -(2^63:Int))=false:=Pl #[4];have e2:decide (i ≥ 2^63)=false:=Pl #[4];rw[e1,e2,Bool.or_false]) (by rw[h1];simpa using h2) (.str ⟨#[c]⟩,H,I.tok _,(_,rfl),q)) g
def Inv.lst{a:List (Addr × Obj)}{σ:St}{H:Hp}{s:Shared}{p:Addr}{xs:List V}(I:Inv X a σ H s)(h:H p=↥xs):
  ∃(Pf:List Value) (n:Nat),Vals xs Pf/\s.heap.get? p=some {cls:=.type "list",data:=.seq Pf.toArray n}/\xs.length<=sizeLine:=by
 obtain⟨z,Pf,n,r,e⟩:=I.hok p _ h;show(Pf,n,r,e,z)
def Bq(a b:Option Int)(n:Nat):(sliceBounds a b none n).1=((HT.sIx n 0 a:Nat):Int)/\(sliceBounds a b none n).2.1=((HT.sIx n n b:Nat):Int)/\(sliceBounds a b none n).2.2=1:=by
 show(?_,?_,rfl)
 . cases a with
   | none=>simp[sliceBounds,HT.sIx]
   | some i=>
    simp only[sliceBounds,HT.sIx,Option.getD_none,show(1:Int)>0 by decide,Th];by_cases h:i<0
    . simp only[h,Th] <;> lia
    . simp only[h,TC] <;> lia
 . cases b with
   | none=>simp[sliceBounds,HT.sIx]
   | some i=>
    simp only[sliceBounds,HT.sIx,Option.getD_none,show(1:Int)>0 by decide,Th];by_cases h:i<0
    . simp only[h,Th] <;> lia
    . simp only[h,TC] <;> lia
def AD(Pf:List Value)(a b:Option Int):slicePick Pf.toArray a b none=((Pf.drop<|HT.sIx Pf.length 0 a).take<|HT.sIx Pf.length Pf.length b-HT.sIx Pf.length 0 a).toArray:=by
 obtain⟨h1,h2,h3⟩:=Bq a b Pf.toArray.size;unfold slicePick;rw[h1,h2,h3];simp only[sliceRange_one,pick_run,PY] <;> rfl
def  rSlL(K:Frag):V->Option Int->Option Int->Hp->VK->Prop:=λx c d H Q=>∃ a b,x=.ref a/\SqL K H a b/\∀ p,H p=none->Q (.ref p) (upd H p<|.lst<|cutV b c d)
def IC:SlR X (rSlL X.K):=by
 intro z s σ H x v u p d e t Q I j n g m h;obtain⟨a,c,rfl,k,q⟩:=h;cases j;obtain⟨w,r,f,i⟩:=I.list k;have l:=r.length;show("list",_,slot_list_getitem.lookup,f.isList.typeIs,?_);show wpAny_getItem_list_slice f.isList n g m .none (by simp) ?_ (by rw[PY] <;> lia);rw[AD,← l];show(.ref s.heap.objs.size,_,I.laid (t':=s.toks) (o:=.lst (cutV c d e)) (λb y q=>Pu _ q) (Py _) ?_,rfl,q _<|I.hok.fresh<|Py _);show(Pk (C2 c d e) i,_,0,(r.drop<|HT.sIx c.length 0 d).take<|HT.sIx c.length c.length e-HT.sIx c.length 0 d,Qa _ rfl)
def  flatV:V->Bool
 | .non=>true
 | .bl _=>true
 | .int _=>true
 | .str _=>true
 | _=>false
def  eqV:V->V->Bool
 | .non,.non=>true
 | .bl a,.bl b=>a==b
 | .bl a,.int b=>(if a then 1 else 0)==b
 | .int a,.bl b=>a==(if b then 1 else 0)
 | .int a,.int b=>a==b
 | .str a,.str b=>a==b
 | _,_=>false
def Kf{A:Around}{s:Shared}{y x:V}{u v:Value}(e:RelV y u)(c:RelV x v)(f:flatV y=true)(fx:flatV x=true):SeqAt.EqAt A s u v (eqV y x):=by
 cases y with
 | non=>
  cases e
  cases x with
  | non=>cases c;show SeqAt.EqAt.same _
  | bl b=>cases c;show SeqAt.EqAt.none_bool b
  | int b=>obtain⟨t,rfl⟩:=c;show SeqAt.EqAt.none_int b t
  | str b=>obtain⟨t,rfl⟩:=c;show SeqAt.EqAt.none_str b t
  | _=>show absurd (show false=true from fx) Pt
 | bl a=>
  cases e
  cases x with
  | non=>cases c;show SeqAt.EqAt.bool_none a
  | bl b=>cases c;show SeqAt.EqAt.bool_bool a b
  | int b=>obtain⟨t,rfl⟩:=c;show SeqAt.EqAt.bool_int a b t
  | str b=>obtain⟨t,rfl⟩:=c;show SeqAt.EqAt.bool_str a b t
  | _=>show absurd (show false=true from fx) Pt
 | int a=>
  obtain⟨d,rfl⟩:=e
  cases x with
  | non=>cases c;show SeqAt.EqAt.int_none a d
  | bl b=>cases c;show SeqAt.EqAt.int_bool a d b
  | int b=>obtain⟨t,rfl⟩:=c;show SeqAt.EqAt.int_int a d b t
  | str b=>obtain⟨t,rfl⟩:=c;show SeqAt.EqAt.int_str a d b t
  | _=>show absurd (show false=true from fx) Pt
 | str a=>
  obtain⟨d,rfl⟩:=e
  cases x with
  | non=>cases c;show SeqAt.EqAt.str_none a d
  | bl b=>cases c;show SeqAt.EqAt.str_bool a d b
  | int b=>obtain⟨t,rfl⟩:=c;show SeqAt.EqAt.str_int a d b t
  | str b=>obtain⟨t,rfl⟩:=c;show SeqAt.EqAt.str_str a d b t
  | _=>show absurd (show false=true from fx) Pt
 | _=>show absurd (show false=true from f) Pt
def  eqU(x:V)(u:Value):Bool:=match u with
 | .none=>eqV .non x
 | .bool b=>eqV (.bl b) x
 | .int i _=>eqV (.int i) x
 | .str z _=>eqV (.str z) x
 | _=>false
def FI{x y:V}{u:Value}(r:RelV y u)(f:flatV y=true):eqU x u=eqV y x:=by
 cases y with
 | non=>cases r;rfl
 | bl b=>cases r;rfl
 | int i=>obtain⟨t,rfl⟩:=r;rfl
 | str z=>obtain⟨t,rfl⟩:=r;rfl
 | _=>show absurd (show false=true from f) Pt
def qj{x:V}:∀{xs:List V} {us:List Value},Vals xs us->xs.all flatV=true->us.any (eqU x)=xs.any λy=>eqV y x
 | _,_,.nil,_=>rfl
 | y::xs,u::us,.cons r t,f=>by
  rw[Sr,P3]at f;rw[Re,Re,FI r f.1,qj t f.2]
def n9{A:Around}{s:Shared}{x:V}{v:Value}(b:RelV x v)(fx:flatV x=true):∀{xs:List V} {us:List Value},Vals xs us->xs.all flatV=true->∀ u∈us,SeqAt.EqAt A s u v (eqU x u)
 | _,_,.nil,_=>λu a=>by cases a
 | y::xs,u::us,.cons r t,f=>λc a=>by
  rw[Sr,P3]at f;rcases Pw.mp a with rfl | a
  . rw[FI r f.1];show Kf r b f.1 fx
  . show n9 b fx t f.2 c a
def  inV(x:V)(xs:List V):Bool:=xs.any λy=>eqV y x
def  rIn(K:Frag)(b:Bool):R2:=λx y H Q=>∃ p a,y=.ref p/\(SqL K H p a\/SqT K H p a)/\flatV x=true/\a.all flatV=true/\Q (.bl (if b then !inV x a else inV x a)) H
def tw:OpR X (compareOp .In) (rIn X.K false):=by
 intro k s σ H x y v u Q I f j h;obtain⟨p,l,rfl,b,g,c,q⟩:=h;cases j;rcases b with b | b
 . obtain⟨a,r,e,i⟩:=I.list b;show SeqAt.in_listAt (eqU x) e.isList (λw d=>n9 f g r c w (by simpa using d)) (.bl _,H,I,rfl,?_);rw[show a.toArray.any (eqU x)=a.any (eqU x) by simp,qj r c];show q
 . obtain⟨a,r,e,i⟩:=I.tuple b;show SeqAt.in_tupleAt (eqU x) e (λw d=>n9 f g r c w (by simpa using d)) (.bl _,H,I,rfl,?_);rw[show a.toArray.any (eqU x)=a.any (eqU x) by simp,qj r c];show q
def Br:OpR X (compareOp .NotIn) (rIn X.K true):=by
 intro k s σ H x y v u Q I f j h;obtain⟨p,l,rfl,b,g,c,q⟩:=h;cases j;rcases b with b | b
 . obtain⟨a,r,e,i⟩:=I.list b;show SeqAt.notIn_listAt (eqU x) e.isList (λw d=>n9 f g r c w (by simpa using d)) (.bl _,H,I,rfl,?_);rw[show a.toArray.any (eqU x)=a.any (eqU x) by simp,qj r c];show q
 . obtain⟨a,r,e,i⟩:=I.tuple b;show SeqAt.notIn_tupleAt (eqU x) e (λw d=>n9 f g r c w (by simpa using d)) (.bl _,H,I,rfl,?_);rw[show a.toArray.any (eqU x)=a.any (eqU x) by simp,qj r c];show q
def tz:CallR X (.builtin "len") (λxs H Q=>∃ p ys,xs=[.ref p]/\(SqL X.K H p ys\/SqT X.K H p ys)/\Q (.int ys.length) H):=by
 intro j s σ H xs k Q I r h;obtain⟨p,ys,rfl,a,q⟩:=h;obtain⟨u,rfl,g⟩:=fj r;cases g;have i:=tq;rcases a with a | a
 . obtain⟨f,c,b,e⟩:=I.list a;have d:=c.length;show Calls.call_len_list b.isList (by simp only[PY] <;> lia) (.int ys.length,H,I.tok _,(s.toks+1,by rw[PY,d]),q)
 . obtain⟨f,c,b,e⟩:=I.tuple a;have d:=c.length;show len_tuple b (by simp only[PY] <;> lia) (.int ys.length,H,I.tok _,(s.toks+1,by rw[PY,d]),q)
def Bs:CallR X (.builtin "len") (λxs H Q=>∃ z,xs=[.str z]/\z.length<=sizeLine/\Q (.int z.length) H):=by
 intro a s σ H xs d Q I r h;obtain⟨z,rfl,c,q⟩:=h;obtain⟨u,rfl,t,rfl⟩:=fj r;have b:=tq;show len_str #[4] (.int z.length,H,I.tok _,(_,rfl),q)
def Bu:CallR X (.type "list") (λxs H Q=>∃ p ys,xs=[.ref p]/\(SqL X.K H p ys\/SqT X.K H p ys)/\∀ l,H l=none->Q (.ref l) (upd H l<|.lst ys)):=by
 intro A s σ H xs C Q I r h;obtain⟨p,ys,rfl,k,q⟩:=h;obtain⟨u,rfl,z⟩:=fj r;cases z
 have g:∀(c:List Value),Vals ys c->ys.length<=sizeLine->∀(a:Heap) (f:Nat),(∀ b y,s.heap.get? b=some y->a.get? b=some y)->
   a.get? s.heap.objs.size=some {cls:=.type "list",dict:=none,data:=.seq c.toArray f,slots:=#[]}->EP X A σ Q (.ref s.heap.objs.size) {s with heap:=a}:=λc d i a f j e=>
  (.ref s.heap.objs.size,_,I.laid (t':=s.toks) j (Py _) (show ObjOk X.prog X.w _ a _ (.lst ys) from(i,c,f,d,e)),rfl,q _<|I.hok.fresh<|Py _)
 rcases k with k | k
 . obtain⟨c,d,m,i⟩:=I.list k;have B:=d.length;obtain⟨o,v,t,n,x⟩:=m.isList;show call_list_seq p (.inl rfl) v t x (λa f j e=>g c d i a f j e) (by simp only[PY] <;> lia)
 . obtain⟨c,d,m,i⟩:=I.tuple k;have B:=d.length;obtain⟨o,v,t,n,x⟩:=m;show call_list_seq p (.inr rfl) v t x (λa f j e=>g c d i a f j e) (by simp only[PY] <;> lia)
def AE:CallR X (.type "tuple") (λxs H Q=>∃ p ys,xs=[.ref p]/\((SqL X.K H p ys/\∀ l,H l=none->Q (.ref l) (upd H l<|.tup ys))\/(SqT X.K H p ys/\Q (.ref p) H))):=by
 intro j s σ H xs x Q I r h;obtain⟨p,ys,rfl,h⟩:=h;obtain⟨u,rfl,n⟩:=fj r;cases n;rcases h with ⟨g,q⟩ | ⟨g,q⟩
 . obtain⟨d,f,c,i⟩:=I.list g;have v:=f.length;show call_tuple_list c.isList (λa t=>?_) (by simp only[PY] <;> lia);have k:Inv X j σ H {s with heap:=a}:=I.kept (t':=s.toks) t
   have m:Inv X j σ (upd H a.objs.size<|.tup ys) {s with heap:=a.push {cls:=.type "tuple",data:=.seq d.toArray}}:=
    k.laid (t':=s.toks) (λb o e=>Pu _ e) (Py _) (show ObjOk X.prog X.w _ _ _ (.tup ys) from(i,d,f,IsTup.new _ _))
   show(.ref a.objs.size,_,m,rfl,q _<|k.hok.fresh<|Py _)
 . obtain⟨d,f,c,i⟩:=I.tuple g;show call_tuple_same c (.ref p,H,I,rfl,q)
def  tyV(K:Frag)(T:String)(x:V)(H:Hp):Prop:=match x with
 | .str _=>T="str"
 | .int _=>T="int"
 | .ref p=>(T="list"/\∃ b,SqL K H p b)\/(T="tuple"/\∃ o,K.lookup p=some o/\o.cls=.type "tuple"/\o.dict=none)\/
   (T="dict"/\((∃ a,H p=some (.dK a))\/∃ a,H p=some (.dT a)))\/(T="set"/\∃ S n,H p=some (.set S n))
 | _=>False
def FJ{l:List (Addr × Obj)}{σ:St}{H:Hp}{s:Shared}{T:String}{x:V}{v:Value}(I:Inv X l σ H s)(r:RelV x v)(f:tyV X.K T x H):
  s.TypeIs v T/\∀ a,v=.ref a->∃ h,s.heap.get? a=some h/\h.dict=none:=by
 cases x with
 | str z=>
  obtain⟨t,rfl⟩:=r;cases (show T="str" from f);show(So s z t,λ_ e=>nomatch e)
 | int i=>
  obtain⟨t,rfl⟩:=r;cases (show T="int" from f);show(typeIs_int s i t,λ_ e=>nomatch e)
 | ref p=>
  cases r;rcases f with ⟨rfl,w,q⟩ | ⟨rfl,o,b,k,g⟩ | ⟨rfl,b⟩ | ⟨rfl,S,n,b⟩
  . obtain⟨u,_,j,_⟩:=I.list q;show(j.isList.typeIs,λa e=>?_);cases e;obtain⟨o,n,e,c,g,_⟩:=j;show(o,e,g)
  . show((o,I.kIn p o b,k),λa e=>?_);cases e;show(o,I.kIn _ o b,g)
  . have z:∃ o,s.heap.get? p=some o/\o.ExactDict:=by
     rcases b with ⟨m,b⟩ | ⟨m,b⟩
     . obtain⟨_,_,_,_,o,_,_,e,d,_⟩:=I.hok p _ b;show(o,e,d)
     . obtain⟨_,_,_,_,o,_,_,e,d,_⟩:=I.hok p _ b;show(o,e,d)
    obtain⟨o,e,d⟩:=z;show((o,e,d.1),λa e2=>?_);cases e2;show(o,e,d.2.1)
  . obtain⟨o,_,_,_,e,d,_⟩:=I.hok p _ b;show((o,e,d.1),λa e2=>?_);cases e2;show(o,e,d.2.1)
 | _=>show False.elim f
def  G8(K:Frag)(T:String)(r:V->List V->Hp->VK->Prop)(b:TE):TE:=λσ H Q=>b σ H λx a=>tyV K T x a/\r x [] a Q
def  tBM(K:Frag)(T:String)(r:V->List V->Hp->VK->Prop)(d:TE)(t:TA):TE:=λσ H Q=>d σ H λx a=>tyV K T x a/\t σ a λc b=>r x c b Q
variable{o e:Expr}{es:List Expr}{to:TE}{t:TA}{name:Str}{apos cpos:Pos}{T id:String}{r:V->List V->Hp->VK->Prop}
def Kg (m:PlainAttrs T) (c:Slot T name id) (d:typeOf (.builtin id)=pure (.type "method_descriptor")) (n:MtR X id r) (p:PE X o to)
  (a:attributeBase o name X.env (eval o X.env)=eval o X.env:=by rfl) (b:(apos.endLine==cpos.line)=true:=by rfl):PE X (.Call (.Attribute o name apos) [] [] cpos) (G8 X.K T r to):=by
 intro e s σ H Q I h;show wpAny_Call_method0_late a b<|thn (p e s σ H _ I h) λv l ⟨x,k,g,f,i,j⟩=>?_;obtain⟨h1,h2⟩:=FJ g f i;show(T,id,m,c,d,h1,h2,RZ rfl<|PySem.evalArgs_none<|n e l σ k x [] v [] Q g f .nil j)
def cm (q:PlainAttrs T) (d:Slot T name id) (g:typeOf (.builtin id)=pure (.type "method_descriptor")) (A:MtR X id r) (B:PE X o to) (m:PA X (e::es) t)
  (b:attributeBase o name X.env (eval o X.env)=eval o X.env:=by rfl)
  (f:((backTo cpos<|starEach (e::es) X.env).all (λx=>!x.1)&&(backToKw cpos<|keywordEach [] X.env).all (λx=>x.1.isSome)
   &&decide ((e::es).length+([]:List Keyword).length+(if ([]:List Keyword).isEmpty then 0 else 1)<30))=true:=by rfl)
  (c:(apos.endLine==cpos.line)=true:=by rfl) (E:starEach (e::es) X.env=(false ,eval e X.env)::starEach es X.env:=by rfl) (a:(backTo cpos<|starEach es X.env).any (·.1)=false:=by rfl):
  PE X (.Call (.Attribute o name apos) (e::es) [] cpos) (tBM X.K T r to t):=by
 intro i s σ H Q I h;show wpAny_Call_method_late b f c rfl<|thn (B i s σ H _ I h) λv y ⟨x,D,l,k,n,C⟩=>?_;obtain⟨h1,h2⟩:=FJ l k n;show(T,id,q,d,g,h1,h2,?_);have j:=m cpos i y σ D _ l C;rw[E]at j ⊢;show RZ (by change(false||(backTo cpos<|starEach es X.env).any (·.1))=false;rw[a] <;> rfl)<|Rx ?_;show thn j λw z ⟨vs,u,G,p,F⟩=>A i z σ u x vs v w Q G k p F
end
def  MtM(X:Cx)(id:String)(r:V->List V->Hp->VK->Prop):Prop:=
 ∀(a:List (Addr × Obj)) (s:Shared) (σ:St) (H:Hp) (x:V) (b:List V) (v:Value) (c:List Value) (Q:VK),Inv X a σ H s->RelV x v->Vals b c->r x b H Q->
  wpAny (model X.prog X.w) X.A (call (.builtin id) (v::c)) (EP X a σ Q) X.xe s
def Vals.one:∀{x:V} {us:List Value},Vals [x] us->∃ u,us=[u]/\RelV x u
 | _,_,.cons r .nil=>(_,rfl,r)
def Vals.rep{xs:List V}{us:List Value}(h:Vals xs us):∀ k:Nat,Vals (List.replicate k xs).flatten (List.replicate k us).flatten
 | 0=>.nil
 | k+1=>by
  rw[QJ,QJ,Qe,Qe];show Vals.append h (Vals.rep h k)
def zR(Pf:List Value):∀(k:Nat) (a:List Value),
  List.foldl (λb c=>b++c) a.toArray (List.replicate k Pf.toArray)=(a++(List.replicate k Pf).flatten).toArray
 | 0,a=>by simp
 | k+1,a=>by
  have e:a.toArray++Pf.toArray=(a++Pf).toArray:=by simp
  have e2:(a++Pf)++(List.replicate k Pf).flatten=a++(List.replicate (k+1) Pf).flatten:=by
   rw[QJ,Qe,Qj]
  rw[← e2,← zR Pf k (a++Pf),← e,QJ,QO]
section
variable{X:Cx}{Pc:List (Addr × Obj)}{σ:St}{H:Hp}{s:Shared}{l b:Addr}{xs ys zs:List V}
def Inv.lset {Pf its':List Value} {n:Nat} {f:Array Value->Array Value} {t':Nat} (I:Inv X Pc σ H s) (a:H l=↥xs)
  (e:s.heap.get? l=some {cls:=.type "list",data:=.seq Pf.toArray n}) (d:f Pf.toArray=its'.toArray) (b:Vals ys its') (c:ys.length<=sizeLine):
  Inv X Pc σ (upd H l<|.lst ys) {s with heap:=s.heap.update l<|Obj.mapSeq f,toks:=t'}:=by
 have q:=PySem.IsL.update e f;rw[d]at q;show I.write (x:=l) (e:=l) (by rw[a];show trivial) (.inl rfl) (λi u h g=>(QY s.heap (Obj.mapSeq f)<|Rt h).trans g) (_,q) ?_;show(c,its',_,b,q)
def  Inv.lnew{Pf:List Value}{t':Nat}(I:Inv X Pc σ H s)(a:Vals ys Pf)(b:ys.length<=sizeLine):
  Inv X Pc σ (upd H s.heap.objs.size<|.lst ys) {s with heap:=s.heap.push {cls:=.type "list",data:=.seq Pf.toArray},toks:=t'}:=
 I.laid (λ_ _ q=>Pu _ q) (Py _) (b,Pf,0,a,Qa _ rfl)
def  Inv.fresh(I:Inv X Pc σ H s):H s.heap.objs.size=none:=I.hok.fresh (Py _)
def Inv.lstM(I:Inv X Pc σ H s)(a:H l=↥xs):xs.length<=sizeLine/\∃(Pf:List Value) (n:Nat),Vals xs Pf/\xs.length=Pf.length/\s.heap.get? l=some {cls:=.type "list",data:=.seq Pf.toArray n}:=by
 obtain⟨z,Pf,n,r,e⟩:=I.hok l _ a;show(z,Pf,n,r,r.length,e)
def Bv{n:Nat}(h:n<=sizeLine):Builtin.List.listTooLong n=false:=by
 unfold Builtin.List.listTooLong;show Pl #[4]
end
section
variable{X:Cx}
def  ID:V->List V->Hp->VK->Prop:=λx vs H Q=>∃ l a y,x=.ref l/\vs=[y]/\H l=↥a/\a.length<sizeLine/\Q .non (upd H l<|.lst<|a++[y])
def zS:MtM X "list.append" ID:=by
 intro i s σ H x vs v m Q I d f h;obtain⟨l,j,y,rfl,rfl,a,g,q⟩:=h;cases d;obtain⟨u,rfl,c⟩:=f.one;obtain⟨z,b,n,r,k,e⟩:=I.lstM a;show RO F.slot_list_append (_,e,rfl) F.entry_list_append (F.args_list_append_2 _ _) (PySem.list_append l b.toArray n u (by rw[PY];lia)) (e,?_);show(.non,_,I.lset (its':=b++[u]) a e (by simp) (r.append<|.cons c .nil) ?_,rfl,q);rw[Pq,Sj];lia
def  IE:V->List V->Hp->VK->Prop:=λx vs H Q=>∃ l b c a,x=.ref l/\vs=[.ref b]/\H l=↥c/\H b=↥a/\c.length+a.length<=sizeLine/\Q .non (upd H l<|.lst<|c++a)
def FK:MtM X "list.extend" IE:=by
 intro C s σ H x vs v A Q I k o h;obtain⟨l,b,D,B,rfl,rfl,g,j,y,q⟩:=h;cases k;obtain⟨u,rfl,i⟩:=o.one;cases i;obtain⟨z,d,n,r,E,e⟩:=I.lstM g;obtain⟨w,a,t,m,p,e2⟩:=I.lstM j;have f:d.toArray.size+a.toArray.size<=sizeLine:=by rw[PY,PY];lia
 have c:¬ (!d.toArray.isEmpty&&Builtin.List.listTooLong (d.toArray.size+a.toArray.size))=true:=by
  rw[Bv f,Bool.and_false];show Pt
 show RO F.slot_list_extend (_,e,rfl) F.entry_list_extend (F.args_list_extend_2 _ _)
  (AutoSeq1.list_extend_list_list_0 l d.toArray n b a.toArray t c (by rw[PY];lia) #[4]) (e,e2,?_)
 show(.non,_,I.lset (its':=d++a) g e (by simp) (r.append m) ?_,rfl,q);rw[Pq];lia
def  rCat:R2:=λx y H Q=>∃ l b c a,x=.ref l/\y=.ref b/\H l=↥c/\H b=↥a/\c.length+a.length<=sizeLine/\∀ p,H p=none->Q (.ref p) (upd H p<|.lst<|c++a)
def Kh:OpR X (binaryOp .Add) rCat:=by
 intro w s σ H x y v u Q I g k h;obtain⟨l,b,A,p,rfl,rfl,d,f,t,q⟩:=h;cases g;cases k;obtain⟨z,c,n,r,B,e⟩:=I.lstM d;obtain⟨o,a,C,j,i,e2⟩:=I.lstM f;show PySem.P.add_list e e2 ?_ (by rw[PY,PY];lia);have m:c.toArray++a.toArray=(c++a).toArray:=by simp
 rw[m];show(.ref _,_,I.lnew (t':=s.toks) (r.append j) (by rw[Pq];lia),rfl,q _ I.fresh)
def  rRep:R2:=λx y H Q=>∃ l k a,x=.ref l/\y=.int k/\H l=↥a/\ -(2^63)<=k/\k<2^63/\a.length*k.toNat<=sizeLine/\
 ∀ p,H p=none->Q (.ref p) (upd H p<|.lst (List.replicate k.toNat a).flatten)
def IF{α:Type}(xs:List α)(k:Nat):(List.replicate k xs).flatten.length=k*xs.length:=by
 induction k with
 | zero=>simp
 | succ k a=>rw[QJ,Qe,Pq,a,R9,Nat.add_comm]
def Ki:OpR X (binaryOp .Mult) rRep:=by
 intro J s σ H x y v u Q I A E h;obtain⟨l,k,K,rfl,rfl,p,h1,h2,o,q⟩:=h;cases A;obtain⟨t,rfl⟩:=E;obtain⟨z,b,n,r,B,e⟩:=I.lstM p;have C:b.toArray.size*k.toNat<=sizeLine:=by rw[PY,← B];show o
 have g:¬ b.toArray.size*k.toNat > (2^63-1)/8:=by
  have:(sizeLine:Nat)<=(2^63-1)/8:=by decide
  lia
 have d:¬ (!Builtin.List.listFitsIndex k)=true:=by
  rw[fitsIndex_both h1 h2];show Pt
 have c:¬ Builtin.List.listTooLong (b.toArray.size*k.toNat)=true:=by
  rw[Bv C];show Pt
 have f:List.foldl (λi j=>i++j) #[] (List.replicate (if b.toArray.isEmpty=true then 0 else k.toNat) b.toArray)=(List.replicate k.toNat b).flatten.toArray:=by
  have D:∀ m:Nat,List.foldl (λi j=>i++j) #[] (List.replicate m b.toArray)=(List.replicate m b).flatten.toArray:=λm=>by
   have:=zR b m [];rw[QX]at this;show this
  rw[D]
  cases b with
  | nil=>simp
  | cons a G=>rw[PF (by simp)]
 show wpAny_binaryOp_repeat_ref (T:="list") (U:="int") #[1] (_,e,rfl) (λw=>typeIs_int w k t) noFill_list_mul F.fills_int_mul F.slot_int_rmul repeat_list F.slot_int_index.lookup
  (RO F.slot_int_rmul (typeIs_int s k t) F.entry_int_rmul (F.args_int_rmul_2 _ _) (int___rmul___int_list k t l b.toArray n)
   (e,rfl,(_,e,rfl),RO F.slot_list_mul (_,e,rfl) F.entry_list_mul (F.args_list_mul_2 _ _) (AutoListH.list___mul___list_int_3 l b.toArray n k t d g c) (e,?_)))
 rw[f];show(.ref _,_,I.lnew (t':=s.toks) (r.rep k.toNat) (by rw[IF,Nat.mul_comm];show o),rfl,q _ I.fresh)
end
end L2
namespace Att
open PySem PySem.W PySem.Calls PyProof.Rows
def ints_of_wellAll{P:Params}{h:Heap}:∀(ns:∅) (vs:List Value),WellAll P h vs (ns.map WData.int)->IntsAre vs ns:=by
 intro ns
 induction ns with
 | nil=>
  intro vs w;rw[List.map_nil]at w;cases w;show .nil
 | cons n ns c=>
  intro vs w;rw[List.map_cons]at w
  cases w with
  | cons a b=>
   cases a;show .cons _ _ (c _ b)
def script_of {l:OpenLaw} {n:Nat} (j:l.most=some n) {P:Params} {h:Heap} {args:List WData} {b:List Value}
  (c:l.row.toRowW.claim.pre args=true) (g:WellAll P h b args):
  ∃ a vs ns,b=[Value.ref a]/\args=[WData.list<|ns.map WData.int]/\h.get? a=some {cls:=.type "list",data:=.seq vs.toArray}/\IntsAre vs ns/\ns.length<=n:=by
 have f:WShape.hasAll [] args [.list .int]=true:=(pre_splitW c).1;have i:l.pre.holds [] {args:=args}=true:=(pre_splitW c).2;obtain⟨d,r,rfl,h1,h2⟩:=hasAllW_cons f;obtain rfl:=hasAllW_nil h2;obtain⟨t,rfl,h3⟩:=hasW_list h1;obtain⟨ns,rfl⟩:=items_int h3
 have s:ns.length<=n:=by
  unfold OpenLaw.pre at i
  have h4:(WTm.not<|.lt (.lit<|.int (n:Int))<|.len<|.arg 0).holds [] {args:=[.list<|ns.map .int]}=true:=by
   have h4:=(holds_andW i).1;rw[j]at h4;show h4
  have h5:=condW_of h4<|w_not<|w_lt w_lit<|w_len_list<|w_arg rfl;rw[List.length_map]at h5;show Nat.le_of_not_lt λq=>?_;have k:(n:Int) < ((ns.length:Nat):Int):=by lia
  first
   | (rw[decide_eq_true k]at h5;show absurd h5 #[1])
   | (simp at h5;lia)
 cases g with
 | cons m o=>
  cases o
  cases m with
  | list p e=>show(_,_,ns,rfl,rfl,p,ints_of_wellAll ns _ e,s)
def  post_true(l:OpenLaw)(args:List WData):l.row.toRowW.claim.post args (.bool true) args=true:=
 postW_of (r:=l.row.toRowW) (X:=(true==true))
  (show WShape.has [] (.bool true) .bool=true by first | rfl | decide | simp[WShape.has,WShape.arms,WShape.armsAll])
  (show(WTm.eq .res<|.lit<|.bool true).value [] {args:=args,res:=some<|.bool true,after:=args}=some (.bool<|true==true) from w_eq_bool (w_res rfl) w_lit) rfl
def  attach_call {l:OpenLaw} {n:Nat} {q:Program} {b:List Str} {E:(Str->Option Value)->Heap->Prop} {A:World->Heap->Prop} {d:DefRec}
  (I:l.most=some n) (t:d.params.defaults=[])
  (h:∀(w:World) (z c:Shared) (p x:Str->Option Value) (i:Addr) (o:Obj) (y m e:Value) (a:Addr) (vs:List Value) (ns:∅),
   Ground q b [] E w z p x c.heap->A w c.heap->
   c.heap.get? i=some o->o.data=.func (docDef d.name d.params d.body d.scope y m e)->c.heap.CodeRec m d.name->p d.name=↑i->
   c.heap.get? a=some {cls:=.type "list",data:=.seq vs.toArray}->IntsAre vs ns->ns.length<=n->c.gens=#[]->
   codeAny (model l.prog w) callerA (.call (.ref i) ([.ref a],[])) (λr s'=>r=.ok (.ret<|.bool true)/\OldK c.heap s'.heap/\s'.os=c.os/\AllBare s'.gens) c):
  WalkO q b E A l.row.toRowW d [] (λf vs=>PySem.call f vs):=by
 intro w z c p x G Y i o y m e O J N K s F u H D C S k B R v Q;obtain rfl:O=.none:=Dflts.none F t;obtain rfl:J=.none:=Dflts.noKw F;obtain⟨a,vs,ns,rfl,rfl,j,g,L⟩:=script_of I k v;show enter_call<|codeAny_mono (h w z c p x i o y m e a vs ns G Y N (fd_plain K) s u j g L H) λr s' P=>?_;obtain⟨rfl,h2,h3,h4⟩:=P;show(.inl (.bool true,.bool true,[],rfl,λ_=>rfl,.bool true,post_true l _,λ_=>(List.Pairwise.nil,λ_ M=>(nomatch M))),h2,h3,h4)
section
variable{prog:Program}{w:World}{A:Around}{E:Value->Shared->Prop}{s:Shared}{K:Frag}
end
end Att
namespace L2
open PySem PySem.Spec PyProof.Rows
def zT:∀{vs:List Value} {ns:∅},IntsAre vs ns->Vals (ns.map V.int) vs
 | _,_,.nil=>.nil
 | _,_,.cons n t h=>.cons (t,rfl) (zT h)
def  Only(H:Hp):Prop:=∀ b,H b=none\/∃ o a,H b=some (.frz o<|.lst a)
def G9 {P:Program} {w:World} {K:Frag} {E R:Str->Option Value} {CX:CXT} {k:Nat} {O a:Addr} {X:FuncData} {x:Str} {sp:Sp} {c:Shared} {vs:List Value} {ns:∅}
  (Y:K.In c.heap) (C:c.heap.Ns mainGlobals E) (g:c.heap.Ns builtinsNs R) (U:∀ x:Str,x≠"__name__"->R x=bootBuiltins x) (B:c.heap.NoLimit) (hg:c.gens=#[])
  (L:c.heap.get? a=some {cls:=.type "list",data:=.seq vs.toArray}) (hi:IntsAre vs ns) (hl:ns.length<=sizeLine) (hr:Room k callerA)
  (F:∀ base:Heap,K.In base->base.Ns mainGlobals E->FnOk P w K E base CX k O X [x] sp) (l:∀(s:Shared) (u:Value),BindsTo s X ([u],[]) [(x ,u)])
  (M:∀ H:Hp,Only H->SqL K H a (ns.map V.int)->sp [.ref a] H (λv _=>v=.bl true) λ_ _ _=>False)
  (T:∀ H e s',CX [] H c (λ_ _ _=>False) e s'->False):
  codeAny (model P w) callerA (.call (.ref O) ([.ref a],[])) (λr s'=>r=.ok (.ret<|.bool true)/\OldK c.heap s'.heap/\s'.os=c.os/\AllBare s'.gens) c:=by
 have rv:=zT hi;have I:=hi.length
 have j:∀ H:Hp,Only H->SqL K H a (ns.map V.int)->HOk P w H c.heap->(∀ b,H b≠none->b=a)->(H a≠none->K.lookup a=none)->
   codeAny (model P w) callerA (.call (.ref O) ([.ref a],[])) (λr s'=>r=.ok (.ret<|.bool true)/\OldK c.heap s'.heap/\s'.os=c.os/\AllBare s'.gens) c:=by
  intro H Z hS J W hK;have f:∀{b:Addr} {o:Obj},c.heap.get? b=some o->H b=none->(hidT c.heap H).get? b=some o:=λe n=>G3 e n
  have S:∀{b:Addr} {o:Obj} {A:Array DictEntry} {t:Nat},c.heap.get? b=some o->o.data=.dict A t->H b=none:=λ{b o A t} e d=>by
   cases q:H b with
   | none=>rfl
   | some u=>
    have N:b=a:=W b (by rw[q];simp);subst N;rw[L]at e;cases e;have d':Data.seq vs.toArray _=Data.dict A t:=d;cases d'
  have i:∀{b:Addr} {m:Str->Option Value},c.heap.Ns b m->(hidT c.heap H).Ns b m:=λ{b m} ⟨o,A,t,e,d,r⟩=>(o,A,t,f e<|S e d,d,r)
  have p:K.In (hidT c.heap H):=λb o e=>f (Y b o e) (by
   cases q:H b with
   | none=>rfl
   | some u=>
    have N:b=a:=W b (by rw[q];simp);subst N;rw[hK (by rw[q];simp)]at e;cases e)
  have hM:Mod K E (hidT c.heap H):=(p,i C,(R,i g,U),let ⟨mc,h1,h2⟩:=B;(mc,i h1,h2));have e0:Env0 P w K E (hidT c.heap H) callerA [] c H:=(rfl,hM,λb o e=>Ix e,Nat.le_of_eq<|Fy _ _,trivial,λb g=>absurd (show b∈([]:List Addr) from g) (by simp),J,.of_eq hg);show RX ((F _ p<|i C).run callerA [] c H ([.ref a],[]) [.ref a] [.ref a] _ _ hr e0 (l c<|.ref a) (.cons rfl .nil)<|M H Z hS) λr s' h=>?_
  cases r with
  | error e=>show(T H e s' h).elim
  | ok fl=>
   cases fl with
   | next=>show False.elim h
   | brk=>show False.elim h
   | cont=>show False.elim h
   | ret u=>
    obtain⟨v,H',os,y,un,G,r',q⟩:=h;have q':v=.bl true:=q;subst q';obtain rfl:u=Value.bool true:=r';show(rfl,OldK.of_keep λb o e=>?_,os,y)
    cases q:H b with
    | none=>show un.keep b o e q (by intro z;show absurd (show b∈([]:List Addr) from z) (by simp)) (by simp)
    | some u=>
     rcases Z b with z | ⟨ob,xs,z⟩
     . rw[q]at z;cases z
     . have z2:=un.frzs b ob _ z;obtain⟨e1,_⟩:=J b _ z;obtain⟨e2,_⟩:=G b _ z2;rw[e]at e1;cases e1;show e2
 cases Q:K.lookup a with
 | some o=>
  have e:=Y a o Q;rw[L]at e;cases e;show j (λ_=>none) (λ_=>.inl rfl) (.inr (_,vs.toArray,_,Q,rfl,rfl,rfl,by rw[PY,I];show hl,by simpa using rv)) (λb u z=>by have D:(none:Option HO)=some u:=z;cases D) (λb z=>absurd rfl z) λz=>absurd rfl z
 | none=>
  show j (λb=>if b=a then some (.frz {cls:=.type "list",data:=.seq vs.toArray}<|.lst<|ns.map V.int) else none) (λb=>?_) (.inl<|.inr ({cls:=.type "list",data:=.seq vs.toArray},PK rfl)) (λb u z=>?_) (λb z=>?_) λ_=>Q
  . by_cases g:b=a
    . show .inr (_,_,PK g)
    . show .inl (PF g)
  . by_cases g:b=a
    . have D:=(PK g).symm.trans z;cases D;subst g;show(L,by rw[Pj];show hl,vs,_,rv,L)
    . have D:=(PF g).symm.trans z;cases D
  . by_cases g:b=a
    . show g
    . show absurd (PF g) z
def  IG {l:PySem.W.OpenLaw} {n k:Nat} {q:Program} {i:List Str} {S:(Str->Option Value)->Heap->Prop} {D:World->Heap->Prop} {d:DefRec} {K:Params->Frag} {CX:World->CXT} {sp:World->Sp} {x:Str}
  (L:l.most=some n) (y:n<=sizeLine) (z:d.params.defaults=[]) (U:Room k callerA)
  (P:∀(w:World) (h:Heap),D w h->(K w.params).In h)
  (F:∀(w:World) (j:Str->Option Value) (p:Addr) (h:Heap),(K w.params).In h->h.Ns mainGlobals j->j d.name=↑p->
   ∃ t:FuncData,(∀(s:Shared) (u:Value),BindsTo s t ([u],[]) [(x ,u)])/\
    ∀ base:Heap,(K w.params).In base->base.Ns mainGlobals j->FnOk l.prog w (K w.params) j base (CX w) k p t [x] (sp w))
  (r:∀(w:World) (H:Hp) (a:Addr) (ns:∅),ns.length<=n->Only H->SqL (K w.params) H a (ns.map V.int)->sp w [.ref a] H (λv _=>v=.bl true) λ_ _ _=>False)
  (B:∀(w:World) (H:Hp) (s:Shared) (e:Value) (s':Shared),CX w [] H s (λ_ _ _=>False) e s'->False):
  PySem.W.WalkO q i S D l.row.toRowW d [] (λf vs=>PySem.call f vs):=by
 show Att.attach_call L z λw s₀ R j mb p o pm Z N a vs ns G Y ho hd M A m c E I=>?_;have C:=P w _ Y;obtain⟨t,X,O⟩:=F w j p _ C G.T.g A;show G9 C G.T.g G.T.b G.T.builtins G.T.nolimit I m c (Pk E y) U O X (λH J Q=>r w H a ns E J Q) λH e s'=>B w H R e s'
def  gG(s:Stmt):Arguments:=match s with
 | .FunctionDef _ a _ _ _ _ _ _ _ _=>a
 | _=>{posonlyargs:=[],args:=[],vararg:=none,kwonlyargs:=[],kw_defaults:=[],kwarg:=none,defaults:=[]}
def  c9(s:Stmt):List Stmt:=match s with
 | .FunctionDef _ _ b _ _ _ _ _ _ _=>b
 | _=>[]
def  av(s:Stmt):Scope:=match s with
 | .FunctionDef _ _ _ _ _ _ a _ _ _=>a
 | _=>{kind:=.function,names:=[],isGenerator:=false,isCoroutine:=false}
abbrev CX0:CXT:=λ_ _ _ _ _ _=>False
abbrev E0:XK:=λ_ _ _=>False
def  xa{X:Cx}:je CX0 X E0:=λ_ _ _ _ _ _ _ h=>h.elim
structure Fun(K:Frag)(x qual:Str)(st:Stmt)(f:Addr)(fd:FuncData):Prop where
 ex:∃(oc:Value) (od:Option Addr) (kV doc pm:Value) (an:Option Addr) (Pd ct:Value) (osl:Array (Option Value)),
  fd=fnOf x qual (gG st) (c9 st) (av st) .none kV doc pm an Pd ct/\K.lookup f=some (oc,od,.func fd,osl)/\codeIn K Pd qual=true
 kp:keepIn K (.ref f)=true
section
variable{P:Program}{w:World}{K:Frag}{mg:Str->Option Value}{base:Heap}
def Fun.ok {x b:Str} {st:Stmt} {f:Addr} {j:FuncData} {N i:List Str} {k:Nat} {sp:Sp} (F:Fun K x b st f j) (S:aM N i (av st)) (len:∀ vs H Q E,sp vs H Q E->vs.length=i.length)
  (c:∀(d:Value) (A:Around) (a:List Env) (s:Shared) (H:Hp) (vs:List V) (Q:VK) (E:XK),Room k (A.deeper<|envOfC b (av st) s.heap.objs.size f d)->sp vs H Q E->
   ∃ t,PSs (cxOf CX0 P w K mg base N b (av st) f d A a s H E).nox (c9 st) t/\t {nx:=λ_ n=>Q .non n,rt:=Q} (start N vs) H):FnOk P w K mg base CX0 (k+1) f j i sp:=by
 obtain⟨B,v,r,o,u,y,d,z,l,rfl,m,g⟩:=F.ex;show Ij m g S len λA a s H vs Q E p e=>?_;obtain⟨t,h,q⟩:=c d A a s H vs Q E p e;show(t,h.nox,q)
def Fun.binds {x a:Str} {st:Stmt} {f:Addr} {j:FuncData} {g:List Str} (F:Fun K x a st f j)
  (h:∀(d b c:Value) (e:Option Addr) (i ct:Value) (us:List Value),us.length=g.length->bindArgs (fnOf x a (gG st) (c9 st) (av st) .none d b c e i ct) (us,[])=pure (g.zip us)):Binds K j g []:=by
 obtain⟨o,n,d,b,c,e,i,ct,l,rfl,m,k⟩:=F.ex;show .all (h d b c e i ct)
def  Bw {x a:Str} {st:Stmt} {f:Addr} {m:Value} {j i:Option Addr} {d:Array (Option Value)} {h b g e ct:Value} (l:K.lookup f=some (m,j,.func<|fnOf x a (gG st) (c9 st) (av st) .none h b g i e ct,d))
  (c:codeIn K e a=true) (k:keepIn K (.ref f)=true):Fun K x a st f (fnOf x a (gG st) (c9 st) (av st) .none h b g i e ct):=((m,j,h,b,g,i,e,ct,d,rfl,l,c),k)
end
def  aZ{n:Nat}(h:n<=1000):n<sizeLine:=QG h #[1]
section
variable{X:Cx}
def pv (i:Nat) {x:Str} {pos:Pos} (b:X.N[i]? =some x:=by rfl) (c:Vis X.env.scope x:=by first | show Or.inl rfl | show Or.inr (Or.inl rfl) | show Or.inr<|Or.inr rfl) (d:(x==("__debug__":Str))=false:=by decide)
  (a:(x==("__classdict__":Str))=false:=by decide):PE X (.Name x pos) (tVar i):=J2 b c d a
end
def iteF{A B:Prop}(h:B):if false=true then A else B:=by
 rw[PF Pt];show h
def iteT{A B:Prop}(h:A):if true=true then A else B:=by
 rw[PK rfl];show h
def  Same(H a:Hp):Prop:=∀ b o,H b=some o->a b=some o
def  Same.refl(H:Hp):Same H H:=λ_ _ h=>h
abbrev Pr:=@Same.refl
def  Same.trans{H d e:Hp}(a:Same H d)(b:Same d e):Same H e:=λc o h=>b c o (a c o h)
def Same.free{H a:Hp}(e:Same H a){l:Addr}(h:a l=Option.none):H l=Option.none:=by
 cases q:H l with
 | none=>rfl
 | some o=>
  rw[e l o q]at h;cases h
def Same.seq{K:Frag}{H b:Hp}{a:Addr}{xs:List V}(e:Same H b)(h:SqL K H a xs):SqL K b a xs:=by
 rcases h with (h | ⟨o,h⟩) | h
 . show .inl (.inl<|e _ _ h)
 . show .inl (.inr (o,e _ _ h))
 . show .inr h
section
variable{κ:Type}[DecidableEq κ]
def  valV(a:List (κ × V))(k:κ):Option V:=(a.find? λb=>decide<|b.1=k).map (·.2)
def  putK(b:List (κ × V))(k:κ)(v:V):List (κ × V):=
 if (b.any λa=>decide<|a.1=k)=true then b.map (λa=>if a.1=k then(a.1 ,v) else a) else b++[(k ,v)]
def  dropK(a:List (κ × V))(k:κ):List (κ × V):=a.filter λb=>decide (b.1≠k)
def rb{p:κ × V}{r:List (κ × V)}{k:κ}(e:p.1=k):valV (p::r) k=some p.2:=by simp[valV,Q8,e]
def re{p:κ × V}{r:List (κ × V)}{k:κ}(e:¬ p.1=k):valV (p::r) k=valV r k:=by simp[valV,Q8,e]
def Bx(k:κ):∀ a:List (κ × V),(a.any λb=>decide<|b.1=k)=(valV a k).isSome
 | []=>rfl
 | p::r=>by
  rw[Re];by_cases e:p.1=k
  . simp only[rb e,Po e,Bool.true_or,Option.isSome_some]
  . rw[re e,Pl e,Bool.false_or];show Bx k r
def vM(a:List (κ × V))(k:κ)(v:V):(putK a k v).length<=a.length+1:=by
 unfold putK
 split
 . rw[Pj];lia
 . rw[Pq,PR,To];lia
def RelO.isSome_eq{o:Option V}{u:Option Value}(r:RelO o u):o.isSome=u.isSome:=by
 cases o with
 | none=>cases u with
  | none=>rfl
  | some _=>show(show False from r).elim
 | some _=>cases u with
  | none=>show(show False from r).elim
  | some _=>rfl
def KV.val{d:List (κ × V)}{vs:List (κ × Value)}(r:KV d vs)(k:κ):RelO (valV d k) (valueAt vs k):=by
 unfold KV at r
 induction r with
 | nil=>show True.intro
 | @cons p q g c h t f=>
  obtain⟨h1,h2⟩:=h;by_cases e:p.1=k
  . have a:q.1=k:=h1.symm.trans e;have b:valueAt (q::c) k=some q.2:=by simp[valueAt,Q8,a]
    rw[rb e,b];show h2
  . have a:¬ q.1=k:=λz=>e<|h1.trans z;have b:valueAt (q::c) k=valueAt c k:=by simp[valueAt,Q8,a]
    rw[re e,b];show f
def KV.any{b:List (κ × V)}{vs:List (κ × Value)}(r:KV b vs)(k:κ):(b.any λa=>decide<|a.1=k)=vs.any λa=>decide (a.1=k):=by
 unfold KV at r
 induction r with
 | nil=>rfl
 | cons h t c=>rw[Re,Re,c,h.1]
def KV.repl{b:List (κ × V)}{vs:List (κ × Value)}(r:KV b vs)(k:κ){y:V}{u:Value}(d:RelV y u):
  KV (b.map λa=>if a.1=k then(a.1 ,y) else a) (vs.map λa=>if a.1=k then(a.1 ,u) else a):=by
 unfold KV at r ⊢
 induction r with
 | nil=>show .nil
 | @cons p q g f h t c=>
  rw[Pz,Pz];show .cons ?_ c;obtain⟨h1,h2⟩:=h;by_cases e:p.1=k
  . rw[PK e,PK<|h1.symm.trans e];show(h1,d)
  . rw[PF e,PF<|λz=>e<|h1.trans z];show(h1,h2)
def KV.put{b:List (κ × V)}{vs:List (κ × Value)}(r:KV b vs)(k:κ){y:V}{u:Value}(a:RelV y u):KV (putK b k y) (stored vs k u):=by
 unfold putK stored;rw[r.any k];by_cases e:(vs.any λc=>decide<|c.1=k)=true
 . rw[PK e,PK e];show r.repl k a
 . rw[PF e,PF e];show Paired.snoc r (rfl,a)
def KV.drop{d:List (κ × V)}{vs:List (κ × Value)}(r:KV d vs)(k:κ):KV (dropK d k) (without vs k):=by
 unfold KV at r ⊢;unfold dropK without
 induction r with
 | nil=>show .nil
 | @cons p q g i h t c=>
  obtain⟨h1,h2⟩:=h;rw[QC,QC];by_cases e:p.1=k
  . have a:¬ decide (p.1≠k)=true:=by simp[e]
    have b:¬ decide (q.1≠k)=true:=by simp[h1.symm.trans e]
    rw[PF a,PF b];show c
  . have f:¬ q.1=k:=λz=>e<|h1.trans z;have a:decide (p.1≠k)=true:=by simp[e]
    have b:decide (q.1≠k)=true:=by simp[f]
    rw[PK a,PK b];show .cons (h1,h2) c
def  KV.length{a:List (κ × V)}{vs:List (κ × Value)}(r:KV a vs):a.length=vs.length:=Ty r
def  Ha(a:List (κ × V))(k:κ):(dropK a k).length<=a.length:=Rq _ _
end
variable{P:Program}
def uT{w:World}{k:Key}{u:Value}(r:RelV (kV k) u):(fz P w).is k u=true:=by
 cases k with
 | inl i=>obtain⟨t,e⟩:=(show ∃ t,u=Value.int i t from r);subst e;show CY P w i t
 | inr x=>obtain⟨t,e⟩:=(show ∃ t,u=Value.str x t from r);subst e;show CZ P w x t
def zU{P:Program}{w:World}:∀{a:List Key} {us:List Value},Vals (a.map kV) us->ItemsAre (fz P w) a us
 | [],_,r=>by rw[TB]at r;cases r;show .nil
 | k::a,_,r=>by
  rw[Pz]at r
  cases r with
  | cons h t=>show .cons (uT h) (zU t)
abbrev KT(H:Hp):List (List Key × V)->List (List Key × Addr × Value)->Prop:=Paired λp q=>p.1=q.1/\H q.2.1=some (.tup<|p.1.map kV)/\RelV p.2 q.2.2
variable{H:Hp}{Pe:List (List Key × V)}{xs:List (List Key × Addr × Value)}
def KT.val(r:KT H Pe xs)(k:List Key):RelO (valV Pe k) ((atKey xs k).map (·.2)):=by
 induction r with
 | nil=>show True.intro
 | @cons p q f a h t d=>
  obtain⟨h1,_,h2⟩:=h;by_cases e:p.1=k
  . have c:q.1=k:=h1.symm.trans e;have b:atKey (q::a) k=some q.2:=by simp[atKey,Q8,c]
    rw[rb e,b];show h2
  . have c:¬ q.1=k:=λz=>e<|h1.trans z;have b:atKey (q::a) k=atKey a k:=by simp[atKey,Q8,c]
    rw[re e,b];show d
def KT.repl(r:KT H Pe xs)(k:List Key){y:V}{u:Value}(c:RelV y u):
  KT H (Pe.map λa=>if a.1=k then(a.1 ,y) else a) (xs.map<|putAt k u):=by
 induction r with
 | nil=>show .nil
 | @cons p q d f h t b=>
  rw[Pz,Pz];show .cons ?_ b;obtain⟨h1,h2,h3⟩:=h;unfold putAt;by_cases e:p.1=k
  . rw[PK e,PK<|h1.symm.trans e];show(h1,h2,c)
  . rw[PF e,PF<|λz=>e<|h1.trans z];show(h1,h2,h3)
def KT.put(r:KT H Pe xs)(k:List Key){b:Addr}{y:V}{u:Value}(c:H b=some (.tup<|k.map kV))(a:RelV y u):
  KT H (putK Pe k y) (storedH xs k b u):=by
 have e:(Pe.any λd=>decide<|d.1=k)=(atKey xs k).isSome:=by
  rw[Bx,(r.val k).isSome_eq,Sa]
 unfold putK storedH;rw[e];by_cases q:(atKey xs k).isSome=true
 . rw[PK q,PK q];show r.repl k a
 . rw[PF q,PF q];show Paired.snoc r (rfl,c,a)
def  KT.keeps{a:Hp}(r:KT H Pe xs)(c:∀ b ys,H b=some (.tup ys)->a b=some (.tup ys)):KT a Pe xs:=
 Paired.mapP r λ_ _ z=>(z.1,c _ _ z.2.1,z.2.2)
section
variable{P:Program}{w:World}{H:Hp}{h:Heap}{a:Addr}
def  Ik{u:HO}(b:HOk P w H h)(e:Rd H a u):ObjOk P w H h a u:=e.ok b
def  rg{Pe:List (Key × V)}(b:HOk P w H h)(e:Rd H a (.dK Pe)):Pe.length<=sizeLine/\(a==sysModules)=false/\∃ vs,KV Pe vs/\h.DictOf (fz P w) a vs:=
 show ObjOk P w H h a (.dK Pe) from Ik b e
def  Il{Pe:List (Key × V)}(b:HOk P w H h)(e:H a=some (.dK Pe)):Pe.length<=sizeLine/\(a==sysModules)=false/\∃ vs,KV Pe vs/\h.DictOf (fz P w) a vs:=rg b (.inl e)
def tD{b:List Key}(c:HOk P w H h)(e:H a=some (.tup<|b.map kV)):(tupleKind<|fz P w).is h b a:=by
 obtain⟨_,d,r,o,h1,h2,n,h3⟩:=(show ObjOk P w H h a (.tup<|b.map kV) from c a _ e);show(o,d.toArray,n,h1,h2,h3,by simpa using zU r)
def uU{Pe:List (List Key × V)}(d:HOk P w H h)(e:Rd H a (.dT Pe)):Pe.length<=sizeLine/\(a==sysModules)=false/\
  ∃ xs,KT H Pe xs/\h.DictOfH (tupleKind<|fz P w) a xs:=by
 obtain⟨z,y,xs,r,o,j,i,h1,h2,h3,h4,h5⟩:=(show ObjOk P w H h a (.dT Pe) from Ik d e);show(z,y,xs,r,o,j,i,h1,h2,h3,h4,λx b=>?_,h5)
 have c:∀{l:List (List Key × V)} {m:List (List Key × Addr × Value)},KT H l m->∀ x∈m,(tupleKind<|fz P w).is h x.1 x.2.1:=by
  intro l m q
  induction q with
  | nil=>intro x b;show nomatch b
  | @cons p q k n f t g=>
   intro x b;rcases Pw.mp b with e | b
   . subst e;show tD d (by rw[← f.1];show f.2.1)
   . show g x b
 show c r x b
def  Lq{Pe:List (List Key × V)}(b:HOk P w H h)(e:H a=some (.dT Pe)):Pe.length<=sizeLine/\(a==sysModules)=false/\
  ∃ xs,KT H Pe xs/\h.DictOfH (tupleKind<|fz P w) a xs:=uU b (.inl e)
end
def  DGet(H:Hp)(a:Addr)(y:V)(r:Option V):Prop:=
 (∃ Pe k,Rd H a (.dK Pe)/\y=kV k/\r=valV Pe k)\/∃ Pe k b,Rd H a (.dT Pe)/\y=.ref b/\H b=some (.tup<|k.map kV)/\r=valV Pe k
def  DPut(H:Hp)(a:Addr)(y v:V)(c:Hp):Prop:=
 (∃ Pe k,H a=some (.dK Pe)/\y=kV k/\Pe.length<sizeLine/\c=upd H a (.dK<|putK Pe k v))\/
 ∃ Pe k b,H a=some (.dT Pe)/\y=.ref b/\H b=some (.tup<|k.map kV)/\Pe.length<sizeLine/\c=upd H a (.dT<|putK Pe k v)
def DGet.k{a:Addr}{Pe:List (Key × V)}{k:Key}(e:H a=some (.dK Pe)):DGet H a (kV k) (valV Pe k):=.inl (Pe,k,.inl e,rfl,rfl)
def DPut.k{a:Addr}{Pe:List (Key × V)}{k:Key}{v:V}(e:H a=some (.dK Pe))(b:Pe.length<sizeLine):DPut H a (kV k) v (upd H a<|.dK<|putK Pe k v):=.inl (Pe,k,e,rfl,b,rfl)
section
variable{X:Cx}{Pc:List (Addr × Obj)}{σ:St}{H:Hp}{s:Shared}{a:Addr}{y v:V}{u r:Value}{o:Option V}{A:Around}{E:Value->Shared->Prop}
def Inv.big(I:Inv X Pc σ H s):sysModules<s.heap.objs.size:=by
 have h:mainGlobals<s.heap.objs.size:=(I.mod.glob.keeps I.bk).lt;show Nat.lt_trans #[1] h
def zV{Q:Value->Shared->Prop}(B:A.units+1<cLine)(I:Inv X Pc σ H s)(g:DGet H a y (some v))(q:RelV y u)(h:∀ f s',Inv X Pc σ H s'->RelV v f->Q f s'):
  wpAny (model X.prog X.w) A (getItem (.ref a) u) Q E s:=by
 rcases g with ⟨Pe,k,e,n,l⟩ | ⟨Pe,k,b,e,n,x,l⟩
 . subst n;obtain⟨z,t,vs,c,j⟩:=rg I.hok e;obtain⟨f,i,d⟩:=Tf (v:=v) (o:=valueAt vs k) (by rw[l];show c.val k);show wpAny_getItem_of (uT q) j.mapOf i (h f _ (I.tok _) d)
 . subst n;cases (show u=Value.ref b from q);obtain⟨z,t,xs,c,j⟩:=uU I.hok e;obtain⟨f,i,d⟩:=Tf (v:=v) (o:=(atKey xs k).map (·.2)) (by rw[l];show c.val k);obtain⟨p,r,m⟩:=Option.map_eq_some_iff.mp i;show wpAny_getItem_heap (RQ B) (tD I.hok x) j r ?_;rw[m];show h f _ (I.tok _) d
def LW{Q:Value->Shared->Prop}(n:A.units+1<cLine)(I:Inv X Pc σ H s)(g:DGet H a y o)(j:RelV y u)(h:∀ s',Inv X Pc σ H s'->Q (.bool o.isSome) s'):
  wpAny (model X.prog X.w) A (compareOp .In u<|.ref a) Q E s:=by
 rcases g with ⟨Pe,k,e,f,l⟩ | ⟨Pe,k,b,e,f,m,l⟩
 . subst f;obtain⟨z,i,vs,c,d⟩:=rg I.hok e;show wpAny_in_of (uT j) i d.mapOf ?_;rw[← (c.val k).isSome_eq,← l];show h _ (I.tok _)
 . subst f;cases (show u=Value.ref b from j);obtain⟨z,i,xs,c,d⟩:=uU I.hok e;show wpAny_in_heap (RQ n) (tD I.hok m) i d ?_;have q:=(c.val k).isSome_eq;rw[Sa]at q;rw[← q,← l];show h _ (I.tok _)
def IH{Q:Value->Shared->Prop}(n:A.units+1<cLine)(I:Inv X Pc σ H s)(g:DGet H a y o)(j:RelV y u)(h:∀ s',Inv X Pc σ H s'->Q (.bool<|!o.isSome) s'):
  wpAny (model X.prog X.w) A (compareOp .NotIn u<|.ref a) Q E s:=by
 rcases g with ⟨Pe,k,e,f,l⟩ | ⟨Pe,k,b,e,f,m,l⟩
 . subst f;obtain⟨z,i,vs,c,d⟩:=rg I.hok e;show wpAny_notIn_of (uT j) i d.mapOf ?_;rw[← (c.val k).isSome_eq,← l];show h _ (I.tok _)
 . subst f;cases (show u=Value.ref b from j);obtain⟨z,i,xs,c,d⟩:=uU I.hok e;show wpAny_notIn_heap (RQ n) (tD I.hok m) i d ?_;have q:=(c.val k).isSome_eq;rw[Sa]at q;rw[← q,← l];show h _ (I.tok _)
def  yQ{h':Heap}{t':Nat}{d:HO}(I:Inv X Pc σ H s)(g:Mut (H a))(h:Heap.SameBut a s.heap h')(f:∃ q,h'.get? a=some q)(c:ObjOk X.prog X.w (upd H a d) h' a d):
  Inv X Pc σ (upd H a d) {s with heap:=h',toks:=t'}:=
 I.write (x:=a) (e:=a) g (.inl rfl) (λb q i z=>(h.2 b i).trans z) f c
def  FL{P:Program}{w:World}{c:Hp}{h':Heap}{Pe:List (Key × V)}{vs:List (Key × Value)}(z:Pe.length<=sizeLine)(d:(a==sysModules)=false)(b:KV Pe vs)(dd:h'.DictOf (fz P w) a vs):
  ObjOk P w c h' a (.dK Pe):=(z,d,vs,b,dd)
def FM{F:Hp}{Q:Unit->Shared->Prop}(L:A.units+1<cLine)(I:Inv X Pc σ H s)(g:DPut H a y v F)(G:RelV y u)(C:RelV v r)(h:∀ s',Inv X Pc σ F s'->Q () s'):
  wpAny (model X.prog X.w) A (setItem (.ref a) u r) Q E s:=by
 rcases g with ⟨Pe,k,e,m,l,t⟩ | ⟨Pe,k,b,e,m,B,l,t⟩
 . subst m t;obtain⟨z,o,vs,d,x⟩:=Il I.hok e;have j:vs.length<=sizeLine:=by rw[← d.length];show z
   have n:(putK Pe k v).length<=sizeLine:=by have:=vM Pe k v;lia
   show wpAny_setItem_pairs (hsz:=j) (uT G) x λD f p=>h _ ?_;have K:∃ q,D.get? a=some q:=let ⟨q,_,_,i,_⟩:=f;(q,i);show yQ I (by rw[e];show True.intro) p K (FL n o (d.put k C) f)
 . subst m t;cases (show u=Value.ref b from G);obtain⟨z,o,xs,d,x⟩:=Lq I.hok e;have j:xs.length<=sizeLine:=by rw[← Ty d];show z
   have n:(putK Pe k v).length<=sizeLine:=by have:=vM Pe k v;lia
   show wpAny_setItem_heap (hsz:=j) (RQ L) (tD I.hok B) x λD f p=>h _ ?_;obtain⟨q,N,M,i,h2,h3,h4,_,h5⟩:=f;show yQ I (by rw[e];show True.intro) p (q,i) (n,o,_,(d.put k B C).keeps λc O J=>?_,q,N,M,i,h2,h3,h4,h5);rw[ao<|Lh J e<|λz=>nomatch z];show J
end
section
variable{X:Cx}{Pc:List (Addr × Obj)}{σ:St}{H:Hp}{s:Shared}{a:Addr}{Pe:List (Key × V)}{k:Key}{u:Value}{A:Around}{E:Value->Shared->Prop}
def Lu {v:V} {b:List Value} {Q:Value->Shared->Prop} (I:Inv X Pc σ H s) (e:H a=some (.dK Pe)) (g:RelV (kV k) u) (l:valV Pe k=some v) (n:b=[]\/∃ x,b=[x])
  (h:∀ f s',Inv X Pc σ (upd H a<|.dK<|dropK Pe k) s'->RelV v f->Q f s'):wpAny (model X.prog X.w) A (call (.builtin "dict.pop") (.ref a::u::b)) Q E s:=by
 obtain⟨z,G,vs,c,m⟩:=Il I.hok e;obtain⟨f,y,j⟩:=Tf (v:=v) (o:=valueAt vs k) (by rw[← l];show c.val k)
 have B:(keyPart u).isSome=true:=by
  cases k with
  | inl i=>obtain⟨t,q⟩:=(show ∃ t,u=Value.int i t from g);subst q;rfl
  | inr x=>obtain⟨t,q⟩:=(show ∃ t,u=Value.str x t from g);subst q;rfl
 have p:argsOk "dict.pop" (.ref a::u::b,[]):=by
  rcases n with q | ⟨x,q⟩
  . subst q;show PySem.F.args_dict_pop_2 _ _
  . subst q;show PySem.F.args_dict_pop_3 _ _ _
 show call_meetsIn Tt m.typeIs PySem.F.entry_dict_pop p (meets_dict_pop_there (fz X.prog X.w) a (uT g) b n B)
  (vs,f,m,by rw[← c.length];show z,y,λC d J=>h f _ ?_ j)
 have r:∃ q,C.get? a=some q:=let ⟨q,_,_,D,_⟩:=d;(q,D);show yQ I (by rw[e];show True.intro) J r (FL (Pk (Ha Pe k) z) G (c.drop k) d)
def Lv{Q:Value->Shared->Prop}(I:Inv X Pc σ H s)(e:Rd H a (.dK Pe))(h:∀ t s',Inv X Pc σ H s'->Q (.int Pe.length t) s'):wpAny (model X.prog X.w) A (call (.builtin "len") [.ref a]) Q E s:=by
 obtain⟨z,d,vs,b,c⟩:=rg I.hok e;show call_len_dict d c (by rw[← b.length];rw[Su]at z;lia) ?_;rw[← b.length];show h _ _ (I.tok _)
end
def  NoSl(i:Expr):Prop:=∀ b a,subscripted i false b a=operate [b,a] (getItem b a)
variable{s:Shared}
def II {prog:Program} {w:World} {A:Around} {E:Value->Shared->Prop} {env:Env} {b a:Expr} {pos:Pos} {T id:String} {Q:Value->Shared->Prop}
  (m:typeLookup (.type T) "__getitem__"=pure (some<|.builtin id)) (n:NoSl a)
  (h:wpAny (model prog w) A (eval b env) (λo j=>wpAny (model prog w) A (eval a env) (λi d=>d.TypeIs o T/\wpAny (model prog w) A (getItem o i) Q E d) E j) E s):
  wpAny (model prog w) A (eval (.Subscript b a pos) env) Q E s:=by
 show Subscript_<|P7 h (λo j k=>P7 k (λi d e=>?_) λ_ _ x=>x) λ_ _ x=>x;obtain⟨f,e⟩:=e;unfold subscriptTail;show PB ?_;rw[getitemInPython_of_ne f.not_modules];show PB (wpAny_specialOf f m ?_)
 have c:wpAny (model prog w) A (subscripted a false o i) (λr g=>wpAny (model prog w) A (letTemporaryGo b o r >>= λ_=>pure r) Q E g) E d:=by
  rw[n o i];show wpAny_operating (P7 e (λr g l=>PB<|wpAny_letTemporaryGo<|P9 l) λ_ _ x=>x)
 first
  | show P9 (PB c)
  | show PB (P9<|PB c)
  | show PB c
variable{Pc:List (Addr × Obj)}
def vN{X:Cx}{σ:St}{a:Addr}{y:V}{o:Option V}(I:Inv X Pc σ H s)(g:DGet H a y o):s.TypeIs (.ref a) "dict":=by
 rcases g with ⟨Pe,k,e,_,_⟩ | ⟨Pe,k,b,e,_,_,_⟩
 . obtain⟨_,_,vs,_,c⟩:=rg I.hok e;show c.typeIs
 . obtain⟨_,_,xs,_,c⟩:=uU I.hok e;show c.typeIs
def  tDGet(d e:TE):TE:=λσ H Q=>d σ H λx c=>e σ c λy b=>∃ a v,x=.ref a/\DGet b a y (some v)/\Q v b
def  yR(d e:TE):TE:=λσ H Q=>d σ H λy c=>e σ c λx b=>∃ a o,x=.ref a/\DGet b a y o/\Q (.bl<|!o.isSome) b
def  sDPut(d e c:TE):TS:=λD σ H=>c σ H λv f=>d σ f λx g=>e σ g λy h=>∃ a b,x=.ref a/\DPut h a y v b/\D.nx σ b
section
variable{X:Cx}{o i e value:Expr}{pos pos' tpos:Pos}{td ty tv:TE}
def IJ(f:X.A.units+1<cLine)(l:PE X o td)(m:PE X i ty)(q:NoSl i):PE X (.Subscript o i pos) (tDGet td ty):=by
 intro Pc s σ H Q I h;show II RC.lookup q<|thn (l Pc s σ H _ I h) λu j ⟨x,p,z,d,n⟩=>thn (m Pc j σ p _ z n) λB C ⟨y,e,c,k,a,v,w,g,r⟩=>?_;subst w;obtain rfl:u=Value.ref a:=d;show(vN c g,zV f c g k λE D t b=>(v,e,t,b,r))
def FN(t:X.A.units+1<cLine)(b:PE X i ty)(v:PE X o td):PC X .NotIn i o (yR ty td):=by
 intro Pc s σ H Q I h;show thn (b Pc s σ H _ I h) λw m ⟨y,f,d,r,e⟩=>thn (v Pc m σ f _ d e) λu z ⟨x,n,k,l,a,c,p,g,q⟩=>?_;subst p;obtain rfl:u=Value.ref a:=l;show IH t k g r λB j=>(.bl<|!c.isSome,n,j,rfl,q)
def IK(d:X.A.units+1<cLine)(n:PE X o td)(p:PE X i ty)(j:PE X value tv)(B:swapsWith value (some<|.Subscript o i pos') pos.line X.env=pure false):
  PS X (.Assign [.Subscript o i pos'] value pos) (sDPut td ty tv):=by
 intro Pc s σ H D I h;show wpAny_Assign_Subscript (thn (j Pc s σ H _ I h) λr k ⟨v,t,J,e,q⟩=>thn (n Pc k σ t _ J q) λu l ⟨x,c,F,b,C⟩=>thn (p Pc l σ c _ F C) λK L ⟨y,N,E,m,a,w,G,g,f⟩=>?_) B;subst G;obtain rfl:u=Value.ref a:=b;show FM d E g m e λM z=>(σ,w,z,f)
end
def  Hc{w:World}(h:Heap)(a:sysModules<h.objs.size):ObjOk P w H (h.push {cls:=.type "dict",data:=.dict #[]}) h.objs.size (.dK []):=
 (Qg _,Rf.mpr<|Rt<|P5 a,[],.nil,Heap.DictOf.new h)
def  By:TE:=λ_ H Q=>∀ p,H p=none->Q (.ref p) (upd H p<|.dK [])
section
variable{X:Cx}{pos:Pos}
def  Hd:PE X (.Dict [] [] pos) By:=λPc s σ H Q I h=>
 wpAny_Dict_empty (.ref s.heap.objs.size,_,I.laid (a:=s.heap.objs.size) (o:=.dK []) (t':=s.toks) (λ_ _ q=>Pu _ q) (Py _)<|Hc s.heap I.big,rfl,h _<|I.hok.fresh<|Py _)
end
structure M1(X:Cx)(o:Expr)(m:Str)(apos:Pos)(e:Expr)(cpos:Pos):Prop where
 base:attributeBase o m X.env (eval o X.env)=eval o X.env
 few:((backTo cpos<|starEach [e] X.env).all (λx=>!x.1)&&(backToKw cpos<|keywordEach [] X.env).all (λx=>x.1.isSome)
  &&decide (([e]:List Expr).length+([]:List Keyword).length+(if ([]:List Keyword).isEmpty then 0 else 1)<30))=true
 line:(apos.endLine==cpos.line)=true
 trees:backTo cpos (starEach [e] X.env)=[(false ,eval e X.env)]
def  IsD(H:Hp)(a:Addr):Prop:=(∃ Pe,Rd H a<|.dK Pe)\/∃ Pe,Rd H a (.dT Pe)
def Kj{X:Cx}{σ:St}{a:Addr}(I:Inv X Pc σ H s)(d:IsD H a):
  s.TypeIs (.ref a) "dict"/\(∀ b,Value.ref a=.ref b->∃ c,s.heap.get? b=some c/\c.dict=none)/\(a==sysModules)=false:=by
 rcases d with ⟨Pe,e⟩ | ⟨Pe,e⟩
 . obtain⟨_,g,vs,_,f⟩:=rg I.hok e;show(f.typeIs,λb q=>?_,g);cases q;obtain⟨c,_,_,h1,h2,_⟩:=f;show(c,h1,h2.2.1)
 . obtain⟨_,g,xs,_,f⟩:=uU I.hok e;show(f.typeIs,λb q=>?_,g);cases q;obtain⟨c,_,_,h1,h2,_⟩:=f;show(c,h1,h2.2.1)
def  FO(d e:TE):TE:=λσ H Q=>d σ H λx b=>∃ a,x=.ref a/\IsD b a/\e σ b λy c=>∃ Pe k v,c a=some (.dK Pe)/\y=kV k/\valV Pe k=some v/\Q v (upd c a<|.dK<|dropK Pe k)
section
variable{X:Cx}{o e f:Expr}{apos cpos:Pos}{td ty tx:TE}
def He(t:PE X o td)(f:PE X e ty)(m:M1 X o "pop" apos e cpos):PE X (.Call (.Attribute o "pop" apos) [e] [] cpos) (FO td ty):=by
 intro Pc s σ H Q I h;show wpAny_Call_method m.base m.few m.line PySem.F.plainAttrs_dict Tt PySem.F.type_dict_pop<|thn (t Pc s σ H _ I h) λu q ⟨x,z,c,i,a,D,d,w⟩=>?_;subst D;obtain rfl:u=Value.ref a:=i;obtain⟨n,p,_⟩:=Kj c d;show(n,p,?_);rw[m.trees];show RZ rfl<|Rx<|Rm<|thn (f Pc q σ z _ c w) λG J ⟨y,E,C,r,Pe,k,v,j,g,l,A⟩=>Ru ?_;subst g;show Lu C j r l (.inl rfl) λL K B b=>(v,_,B,b,A)
end
section
variable{X:Cx}
def FP:CallR X (.builtin "len") (λxs H Q=>∃ a Pe,xs=[V.ref a]/\H a=some (.dK Pe)/\Q (.int Pe.length) H):=by
 intro Pc s σ H xs f Q I r h;obtain⟨a,Pe,rfl,b,q⟩:=h;obtain⟨u,rfl,c⟩:=fj r;cases c;show Lv I (.inl b) λt e d=>(.int Pe.length,H,d,(t,rfl),q)
end
def fW{α:Type}(x:Str):∀(a b:List (Str × α)),(a++b).lookup x=match a.lookup x with | some c=>some c | none=>b.lookup x
 | [],b=>rfl
 | (k ,v)::r,b=>by
  rw[RB,Qn,Qn]
  cases x==k with
  | true=>rfl
  | false=>show fW x r b
def m5:∀(names:List (Str × NameKind)) (n:Nat) (a cl:List (Str × Addr)),cellsFrom n names (a++cl)=cellsFrom n names a++cl
 | [],_,_,_=>rfl
 | (y ,k)::r,n,a,cl=>by
  unfold cellsFrom
  split
  . rw[← RB];show m5 r _ _ cl
  . show m5 r _ _ cl
def kD{x:Str}{c:Addr}:∀(names:List (Str × NameKind)) (n:Nat) (a:List (Str × Addr)),(x ,c)∈cellsFrom n names a->(x ,NameKind.cell)∈names\/(x ,c)∈a
 | [],_,_,h=>.inr h
 | (y ,k)::r,n,a,h=>by
  unfold cellsFrom at h
  split at h
  . rename_i b
    have b:k=.cell:=by simpa using b
    subst b;rcases kD r _ _ h with z | z
    . show .inl (Pm _ z)
    . rcases Pw.mp z with z | z
      . cases z;show .inl Pn
      . show .inr z
  . rcases kD r _ _ h with z | z
    . show .inl (Pm _ z)
    . show .inr z
def rh {env:Env} (f:Str × NameKind->List (Str × Addr)->Sem (ForInStep<|List<|Str × Addr))
  (n:∀ g kind cs,f (g ,kind) cs=if kind==.free then(do let a ← cellOf env g;pure<|.yield ((g ,a)::cs)) else pure (.yield cs)):
  ∀(names:List (Str × NameKind)) (d:List (Str × Addr)),(∀ x,(x ,NameKind.free)∈names->∃ c,env.cells.lookup x=some c)->(∀ x c,d.lookup x=some c->env.cells.lookup x=some c)->
   ∃ cl,forIn names d f=(pure cl:Sem _)/\(∀ x c,cl.lookup x=some c->env.cells.lookup x=some c)/\(∀ x,((x ,NameKind.free)∈names\/∃ c,d.lookup x=some c)->∃ c,cl.lookup x=some c)
 | [],d,_,h2=>(d,rfl,h2,λx h=>h.elim (λz=>nomatch z) id)
 | (y ,k)::r,d,h1,h2=>by
  rw[List.forIn_cons,n];by_cases j:(k==NameKind.free)=true
  . rw[PK j];have l:k=.free:=by simpa using j
    subst l;obtain⟨c,p⟩:=h1 y Pn;have e:(cellOf env y:Sem Addr)=pure c:=by unfold cellOf;rw[p]
    rw[e]
    obtain⟨cl,e1,e2,o⟩:=rh f n r ((y ,c)::d) (λx b=>h1 x<|Pm _ b) (λx m b=>by
     rw[Qn]at b
     cases i:x==y with
     | true=>rw[i]at b;cases b;rw[Q3.mp i];show p
     | false=>rw[i]at b;show h2 x m b)
    show(cl,?_,e2,λx b=>o x ?_)
    . show e1
    . rcases b with b | ⟨m,b⟩
      . rcases Pw.mp b with z | z
        . cases z;show .inr (c,by rw[Qn];simp)
        . show .inl z
      . cases i:x==y with
        | true=>show .inr (c,by rw[Qn,i])
        | false=>show .inr (m,by rw[Qn,i];show b)
  . rw[PF j];obtain⟨cl,e1,e2,o⟩:=rh f n r d (λx b=>h1 x<|Pm _ b) h2;show(cl,e1,e2,λx b=>o x ?_);rcases b with b | b
    . rcases Pw.mp b with z | z
      . cases z;show absurd rfl j
      . show .inl z
    . show .inr b
variable{scope:Scope}
def Ey{env:Env}(h:∀ x,(x ,NameKind.free)∈scope.names->∃ c,env.cells.lookup x=some c):
  ∃ cl,closureFor scope env=pure cl/\(∀ x c,cl.lookup x=some c->env.cells.lookup x=some c)/\∀ x,(x ,NameKind.free)∈scope.names->∃ c,cl.lookup x=some c:=by
 obtain⟨cl,e1,e2,e⟩:=rh (env:=env) (λx b=>match x with | (name ,kind)=>if kind==.free then(do let a ← cellOf env name;pure<|.yield ((name ,a)::b)) else pure (.yield b)) (λ_ _ _=>rfl) scope.names [] h<|λx c d=>nomatch d;show(cl,?_,e2,λx d=>e x<|.inl d)
 have:closureFor scope env=(forIn scope.names [] (λx b=>match x with | (name ,kind)=>if kind==.free then(do let a ← cellOf env name;pure<|.yield ((name ,a)::b)) else pure (.yield b)) >>= λb=>pure b):=by
  simp only[closureFor]
 rw[this,e1];rfl
def  xb(scope:Scope)(cl:List (Str × Addr))(C:Addr)(env:Env):Env:=
 {newEnv scope C env.globals (cellsFrom (C+1) scope.names cl) env.qual none .none (some env) builtinsNs with scope:=relabel scope env}
def Hf {M:Model} {A:Around} {E:Value->Shared->Prop} {s:Shared} {cl:List (Str × Addr)} {env:Env} {Q:Env->Shared->Prop}
  (e:Q (newEnv scope s.heap.objs.size env.globals (cellsFrom (s.heap.objs.size+1) scope.names cl) env.qual none .none (some env) builtinsNs) {s with heap:=pushCells (s.heap.push {cls:=.type "dict",data:=.dict #[]}) scope.names}):
  wpAny M A (newFunctionEnv scope env.globals cl [] env.qual none .none<|some env) Q E s:=by
 simp only[newFunctionEnv,Option.isSome_some,Th];show PB<|wpAny_alloc ?_;show PB (wpAny_layCells _ (λd a c=>by cases b:a==NameKind.cell <;> simp[b]) _ _ _ _ ?_);rw[show({s with heap:=s.heap.push {cls:=.type "dict",data:=.dict #[]}}:Shared).heap.objs.size=s.heap.objs.size+1 from Rw ..];show PB ?_;rw[List.forIn_nil];show P9 (P9 e)
section
variable{prog:Program}{w:World}{A:Around}{E:Value->Shared->Prop}{R:Result->Shared->Prop}{s:Shared}
def FQ {f a d:Expr} {i:List Expr} {scope:Scope} {pos:Pos} {it g:Value} {env:Env} (I:Nat->Shared->Prop)
  (k:∀ n s,I n s->wpAny (model prog w) A (pyNext it) (λr p=>match r with
   | none=>R (.ok .next) p
   | some v=>wpAny (model prog w) A (letOwnedTupleGo a it v) (λ_ l=>wpAny (model prog w) A (assign a env v) (λ_ B=>
     wpAny (model prog w) A (forIn i true λc r=>if r=true then do let j ← isTrue c env (eval c env);pure (ForInStep.yield j) else pure (ForInStep.yield r)) (λj o=>
      if j=true then wpAny (model prog w) A (eval f env) (λx t=>
       wpAny (model prog w) A (call (.builtin "list.append") [g,x]) (λ_ u=>∃ m,m<n/\I m u) (notedBy (model prog w) A env λe s'=>R (.error e) s') t) (notedBy (model prog w) A env λe s'=>R (.error e) s') o
      else ∃ m,m<n/\I m o) (notedBy (model prog w) A env λe s'=>R (.error e) s') B) (notedBy (model prog w) A env λe s'=>R (.error e) s') l) (notedBy (model prog w) A env λe s'=>R (.error e) s') p) (notedBy (model prog w) A env λe s'=>R (.error e) s') s)
  (n:Nat) (h:I n s):
  codeAny (model prog w) A (.compLoop (.ListComp f [(a,d,i,0)] scope pos) 0 it g env) R s:=by
 show codeAny_loop rfl I (λn s D=>?_) n h;change wpAny _ A ((compTurn (.ListComp f [(a,d,i,0)] scope pos) 0 it g env).onRaise (λx=>do noteFrame x env;theTreesLotGoes x)) _ _ s;show wpAny_noted ?_;rw[compTurn_list];show PB (S4<|PB<|P7 (k n s D) (λr p y=>?_) λ_ _ b=>b)
 cases r with
 | none=>show P9 y
 | some v=>
  show PB<|P7 y (λ_ l q=>?_) λ_ _ b=>b;show PB (P7 q (λ_ B C=>PB<|P7 C (λj o z=>?_) λ_ _ b=>b) λ_ _ b=>b)
  cases j with
  | false=>show P9 (rfl,z)
  | true=>
   show PB (PB<|P7 z (λx t E=>PB<|P7 E (λ_ u F=>P9<|P9 (rfl,F)) λ_ _ b=>b) λ_ _ b=>b)
end
variable{scope:Scope}
def oa{env:Env}{x:Str}{k:NameKind}(h:(relabel scope env).names.lookup x=some k):∃ b,scope.names.lookup x=some b/\(k=b\/(b=.free/\k=.cell)):=by
 unfold relabel at h;dsimp only at h;generalize scope.names=names at h ⊢
 induction names with
 | nil=>cases h
 | cons p r d=>
  obtain⟨n,k0⟩:=p;rw[Pz]at h;rw[Qn]
  cases a:x==n with
  | true=>
   show(k0,rfl,?_);dsimp only at h
   split at h
   . rename_i c
     rw[Qn,a]at h;cases h;simp only[P3,Q3]at c;show .inr (c.1.1,rfl)
   . rw[Qn,a]at h;cases h;show .inl rfl
  | false=>
   dsimp only at h;show d ?_
   split at h
   . rw[Qn,a]at h;show h
   . rw[Qn,a]at h;show h
def  blkCx(X:Cx)(N:List Str)(scope:Scope)(cl:List (Str × Addr))(s:Shared)(H:Hp)(fp:List Addr):Cx where
 prog:=X.prog
 w:=X.w
 K:=X.K
 mg:=X.mg
 base:=X.base
 A:=X.A
 N:=N
 s₀:=s
 H₀:=H
 env:=xb scope cl (s.heap.objs.size+1) X.env
 outer:=X.stack
 stack:=X.stack
 ex:=fp
 fn:=λx=>scope.names.lookup x==some .cell
 calm:=X.calm
 pn:=[]
 xe:=λf e=>(∃(Pc:List (Addr × Obj)) (σ:St),Inv X Pc σ H s/\∀ b∈fp,FpOk X Pc H b)->notedBy (model X.prog X.w) X.A (xb scope cl (s.heap.objs.size+1) X.env) (λx c=>∃ m,c.heap.Ns (s.heap.objs.size+1) m/\∀ d,Heap.SameBut (s.heap.objs.size+1) c.heap d->∀ a:Env,a.locals=s.heap.objs.size+1->
  wpAny (model X.prog X.w) X.A (passOn "comprehension.variables-let-go" x a:Sem Value) (λ_ _=>False) X.xe {c with heap:=d}) f e
def  subσ(ix:List (Option Nat))(σ:St):St:=ix.map λo=>match o with | none=>none | some i=>match σ[i]? with | some v=>v | none=>none
structure BlkOk(X:Cx)(N:List Str)(ix:List (Option Nat))(scope:Scope):Prop where
 kind:scope.kind=.function
 nd:N.Nodup
 len:ix.length=N.length
 names:(scope.names.map (·.1)).Nodup
 free:∀ x,(x ,NameKind.free)∈scope.names->X.env.kindOf x=some .cell\/X.env.kindOf x=some .free
 at_:∀(j i:Nat) (x:Str),N[j]? =some x->ix[j]? =some (some i)->X.N[i]? =some x/\(x ,NameKind.free)∈scope.names
def jf{α:Type}:∀{l:List (Str × α)} {x:Str} {k:α},(l.map (·.1)).Nodup->(x ,k)∈l->l.lookup x=some k
 | (y ,k0)::r,x,k,nd,h=>by
  rw[Pz,Q7]at nd;rw[Qn];rcases Pw.mp h with e | e
  . cases e;simp
  . have:x≠y:=by
     rintro rfl;show nd.1 (PM.mpr ((x ,k),e,rfl))
    have a:(x==y)=false:=by simpa using this
    rw[a];show jf nd.2 e
def FR {X:Cx} {Pc:List (Addr × Obj)} {σ:St} {H:Hp} {s:Shared} {N:List Str} {ix:List (Option Nat)} {cl:List (Str × Addr)} {fp:List Addr} (B:BlkOk X N ix scope)
  (I:Inv X Pc σ H s) (g:∀ x c,cl.lookup x=some c->X.env.cells.lookup x=some c) (O:∀ x,(x ,NameKind.free)∈scope.names->∃ c,cl.lookup x=some c)
  (C:∀ b∈fp,FpOk X Pc H b) (Z:∀ b∈fp,∃ o,s.heap.get? b=some o/\∀ v,o.data≠.cell v):
  Inv (blkCx X N scope cl s H fp) [] (subσ ix σ) (upd H s.heap.objs.size<|.lst [])
   {s with heap:=pushCells ((s.heap.push {cls:=.type "list",data:=.seq #[]}).push {cls:=.type "dict",data:=.dict #[]}) scope.names}:=by
 have R:(s.heap.push {cls:=.type "list",data:=.seq #[]}).objs.size=s.heap.objs.size+1:=Rw ..;have Q:((s.heap.push {cls:=.type "list",data:=.seq #[]}).push {cls:=.type "dict",data:=.dict #[]}).objs.size=s.heap.objs.size+2:=by rw[Rw,R]
 have U:∀ b o,s.heap.get? b=some o->(pushCells ((s.heap.push {cls:=.type "list",data:=.seq #[]}).push {cls:=.type "dict",data:=.dict #[]}) scope.names).get? b=some o:=
  λb o e=>Sy _ _ b o (Pu _<|Pu _ e)
 have hl:(pushCells ((s.heap.push {cls:=.type "list",data:=.seq #[]}).push {cls:=.type "dict",data:=.dict #[]}) scope.names).get? s.heap.objs.size=some {cls:=.type "list",data:=.seq #[]}:=
  Sy _ _ _ _ (Pu _<|Qa _ rfl)
 have D:=cellsFrom_ok scope.names ((s.heap.push {cls:=.type "list",data:=.seq #[]}).push {cls:=.type "dict",data:=.dict #[]}) (s.heap.objs.size+2) [] (λ_ _ L=>(nomatch L),List.Pairwise.nil) (by rw[Q];show Py _);rw[Q]at D
 have f:(blkCx X N scope cl s H fp).env.cells=cellsFrom (s.heap.objs.size+2) scope.names []++cl:=by
  change cellsFrom (s.heap.objs.size+1+1) scope.names cl=_;rw[← QX cl,m5];simp
 have a:∀ x c,(blkCx X N scope cl s H fp).env.cells.lookup x=some c->((x ,c)∈cellsFrom (s.heap.objs.size+2) scope.names []/\(x ,NameKind.cell)∈scope.names)\/((cellsFrom (s.heap.objs.size+2) scope.names []).lookup x=none/\cl.lookup x=some c):=λx c e=>by
  rw[f,fW]at e
  cases q:(cellsFrom (s.heap.objs.size+2) scope.names []).lookup x with
  | none=>rw[q]at e;show .inr (rfl,e)
  | some T=>
   rw[q]at e;cases e;have m:=QD q;show .inl (m,?_);rcases kD _ _ _ m with z | z
   . show z
   . show nomatch z
 have k:∀ x c,cl.lookup x=some c->c<s.heap.objs.size:=λx c e=>by
  obtain⟨v,q⟩:=I.cell x c<|g x c e;show q.lt
 have J:H s.heap.objs.size=none:=I.hok.fresh (Py _)
 have E:∀ b,s.heap.objs.size<b->(upd H s.heap.objs.size<|.lst []) b=none:=λb h=>by
  rw[ao<|SI h];show I.hok.fresh (Qd h)
 have S:∀ b∈fp,b<s.heap.objs.size:=λb h=>by
  obtain⟨o,e,_⟩:=Z b h;show PQ e
 have W:=I.env0;have d:∀ x c,(x ,c)∈cellsFrom (s.heap.objs.size+2) scope.names []->s.heap.objs.size+2<=c:=λx c m=>(D.empty x c m).2
 show((I.ok.mod,B.kind,I.ok.glob,I.ok.blt,RU _,λx y c e1 e2=>?_,λx hx=>?_,λx c hx e=>?_,I.ok.hd,I.ok.frames,.inl rfl,λb h=>(?_,λx c e=>?_),W.bs,W.bsz,λb o e h=>?_,λb h ad=>?_,W.funs,W.frf),
  rfl,I.bare,Un.laid U (Py _) J,(λ_=>none,?_,λj x v e1 e2 e3=>?_),λx c e=>?_,E _<|S8 _,λx c e=>?_,λp hp=>absurd (show p∈([]:List (Addr × Obj)) from hp) (by simp),?_,?_)
 . rcases a x c e1 with ⟨A,k1⟩ | ⟨M,t⟩ <;> rcases a y c e2 with ⟨m2,k2⟩ | ⟨n2,w⟩
   . show name_of_addr D.apart A m2
   . show absurd (PU (k _ _ w)<|Pk (Sq _ _)<|d _ _ A) (QM _)
   . show absurd (PU (k _ _ t)<|Pk (Sq _ _)<|d _ _ m2) (QM _)
   . show I.ok.inj x y c (g _ _ t) (g _ _ w)
 . have G:(relabel scope X.env).names.lookup x=some .cell\/(relabel scope X.env).names.lookup x=some .free:=hx
   have aa:scope.names.lookup x=some .cell\/scope.names.lookup x=some .free:=by
    rcases G with z | z
    . obtain⟨k',e,r | r⟩:=oa z
      . rw[← r]at e;show .inl e
      . rw[r.1]at e;show .inr e
    . obtain⟨k',e,r | r⟩:=oa z
      . rw[← r]at e;show .inr e
      . cases r.2
   rw[f];rcases aa with z | z
   . obtain⟨c,q⟩:=ra (n:=s.heap.objs.size+2) z;show(c,by rw[fW,q])
   . obtain⟨c,q⟩:=O x (QD z)
     cases w:(cellsFrom (s.heap.objs.size+2) scope.names []).lookup x with
     | none=>show(c,by rw[fW,w];show q)
     | some T=>show(T,by rw[fW,w])
 . have G:scope.names.lookup x=some .cell:=by simpa [blkCx] using hx
   rcases a x c e with ⟨A,k1⟩ | ⟨M,t⟩
   . show Pk (Sq _ _) (d _ _ A)
   . obtain⟨T,q⟩:=ra (n:=s.heap.objs.size+2) G;rw[q]at M;cases M
 . show P5 (Q9<|S b h)
 . rcases a x c e with ⟨A,k1⟩ | ⟨M,t⟩
   . show SI (PU (S b h)<|Pk (Sq _ _)<|d _ _ A)
   . show(C b h).2.2.2.2.1 x c (g _ _ t)
 . rcases(C b h).2.2.2.1 with z | z
   . show I.ok.noex b o e z
   . show absurd (PU (PQ e)<|Pk I.ok.bsz z) (QM _)
 . rcases Pw.mp (I.stkSub b ad) with z | z
   . show(C b h).2.1 z
   . show(C b h).2.2.1 z
 . change Heap.Ns _ (s.heap.objs.size+1) _;rw[← R];show(Heap.Ns.new _<|.type "dict").keeps (Sy _ _)
 .
   unfold subσ at e2;rw[Pp]at e2
   cases q:ix[j]? with
   | none=>rw[q]at e2;cases e2
   | some o=>
    rw[q]at e2
    cases o with
    | none=>cases e2
    | some i=>
     simp only[Option.map_some,S1]at e2;obtain⟨hN,L⟩:=B.at_ j i x e1 q
     have hσ:σ[i]? =some (some v):=by
      cases w:σ[i]? with
      | none=>rw[w]at e2;cases e2
      | some z=>rw[w]at e2;show congrArg some e2
     obtain⟨m,hn,Y⟩:=I.loc;have l:=B.free x L;have P:Vis X.env.scope x:=l.elim (λz=>.inr<|.inl z) λz=>.inr<|.inr z;obtain⟨u,ru,lk⟩:=Y i x v hN hσ P;show(u,ru,?_);obtain⟨c,hc⟩:=O x L
     have K:(cellsFrom (s.heap.objs.size+2) scope.names []).lookup x=none:=by
      cases w:(cellsFrom (s.heap.objs.size+2) scope.names []).lookup x with
      | none=>rfl
      | some T=>
       rcases kD _ _ _ (QD w) with z | z
       . have a1:=jf B.names z;have a2:=jf B.names L;rw[a1]at a2;cases a2
       . show nomatch z
     have F:(blkCx X N scope cl s H fp).env.cells.lookup x=some c:=by rw[f,fW,K];show hc
     have ab:(blkCx X N scope cl s H fp).env.kindOf x=some .cell\/(blkCx X N scope cl s H fp).env.kindOf x=some .free:=by
      rcases e3 with z | z | z
      . obtain⟨k',e,r | r⟩:=oa (show(relabel scope X.env).names.lookup x=some .local from z)
        . rw[jf B.names L]at e;cases e;cases r
        . cases r.2
      . show .inl z
      . show .inr z
     show .inr (ab,c,F,?_);rcases lk with ⟨k1,_⟩ | ⟨_,c2,e4,z⟩
     . rcases l with z | z <;> rw[k1]at z <;> cases z
     . rw[g x c hc]at e4;cases e4;show z.keeps U
 . rcases a x c e with ⟨A,k1⟩ | ⟨M,t⟩
   . show(none,(D.empty x c A).1)
   . obtain⟨v,z⟩:=I.cell x c<|g _ _ t;show(v,z.keeps U)
 . rcases a x c e with ⟨A,k1⟩ | ⟨M,t⟩
   . show E c (PU (Nat.lt_add_of_pos_right #[1])<|d _ _ A)
   . rw[ao<|P5<|k _ _ t];show I.freeC x c (g _ _ t)
 . show I.hok.laid U (Py _) (Qg _,[],0,.nil,hl)
 . change(subσ ix σ).length=N.length;unfold subσ;rw[Pj];show B.len
def  PTs(X:Cx)(a:List Expr)(t:TT):Prop:=
 ∀(Pc:List (Addr × Obj)) (s:Shared) (σ:St) (H:Hp) (Q:Bool->Hp->Prop),Inv X Pc σ H s->t σ H Q->
  wpAny (model X.prog X.w) X.A (forIn a true λc r=>if r=true then do let ok ← isTrue c X.env (eval c X.env);pure (ForInStep.yield ok) else pure (ForInStep.yield r)) (TP X Pc σ Q) X.xe s
def  tTrue:TT:=λ_ H Q=>Q true H
def  eX{X:Cx}:PTs X [] tTrue:=λ_ _ _ H _ I h=>wpAny_tests_nil (H,I,h)
def  IL{X:Cx}{c:Expr}{t:TT}(h:PT X c t):PTs X [c] t:=λPc s σ H Q I q=>wpAny_tests_one (h Pc s σ H Q I q)
def  BA(ix:List (Option Nat))(t:TI)(g:TG)(s:TT)(r:TE)(f:Addr->Hp->Prop):St->Hp->Prop:=λσ H=>t σ H λJ k=>∀ l,k l=none->
 ∃ W:Nat->Nat->St->Hp->Prop,(∃ m,W 0 m (subσ ix σ)<|upd k l<|.lst [])/\∀ i m q d,W i m q d->
  (J.stop i d/\f l d)\/(J.go i d/\∃ N:St->Hp->Prop,(∀ a c,N a c->∃ o,o<m/\W (i+1) o a c)/\∀ x p,J.yld i d x p->g x q p λe u=>s e u λb n=>
   if b=true then r e n λy j=>∃ h,j l=↥h/\h.length<sizeLine/\N e (upd j l<|.lst<|h++[y]) else N e n)
section
variable{X:Cx}{Pc:List (Addr × Obj)}{σ σ':St}{H H':Hp}{s s':Shared}{N:List Str}{scope:Scope}{cl:List (Str × Addr)}{fp:List Addr}
def Dw{h':Heap}(I:Inv X Pc σ H s)(J:Inv (blkCx X N scope cl s H fp) [] σ' H' s')(h:∀ b∈fp,FpOk X Pc H b)(f:Heap.SameBut (s.heap.objs.size+1) s'.heap h'):Inv X Pc σ H' {s' with heap:=h'}:=by
 have u:Un (frs X.stack) fp H H' s.heap s'.heap:=J.base;have j:H' (s.heap.objs.size+1)=none:=J.free;have i:∀ b o,s.heap.get? b=some o->b≠s.heap.objs.size+1:=λb o e=>P5<|Q9<|PQ e;show I.call' (s':={s' with heap:=h'}) (ch:=fp) J.os (λb o e n d a=>?_,λb o e n d a=>?_,u.free,λb o e a=>?_,u.tups,u.frzs,u.tbls) (λb t e=>?_) J.bare λb d=>?_
 . show(f.2 b<|i b o e).trans (u.keep b o e n d a)
 . obtain⟨l,q⟩:=u.slot b o e n d a;show(l,(f.2 b<|i b o e).trans q)
 . obtain⟨k,q⟩:=u.there b o e a;show(k,(f.2 b<|i b o e).trans q)
 . show(J.hok b t e).stay (λc y g q=>(f.2 c ?_).trans q) (λ_ q=>q) λ_ _ q=>q;rintro rfl;rcases g with rfl | g
   . rw[j]at e;cases e
   . rw[j]at g;cases g
 . obtain⟨w,p,x,v,r,m⟩:=h b d;show(v,p,r,m)
def  BB {tg t L:Expr} {K:List Expr} {pos:Pos} {ix:List (Option Nat)} {wi:TI} {g:TG} {tt:TT} {te:TE} {aa:Addr->Hp->Prop} {RR:Value->Addr->Result->Shared->Prop} (B:BlkOk X N ix scope) (hc:X.calm=true)
  (hi:PI X tg t wi) (hg:∀ cl s H fp,PG (blkCx X N scope cl s H fp) tg g) (ht:∀ cl s H fp,PTs (blkCx X N scope cl s H fp) K tt) (he:∀ cl s H fp,PE (blkCx X N scope cl s H fp) L te)
  (ah:∀ x c,cl.lookup x=some c->X.env.cells.lookup x=some c) (am:∀ x,(x ,NameKind.free)∈scope.names->∃ c,cl.lookup x=some c)
  (I:Inv X Pc σ H s) (h:BA ix wi g tt te aa σ H)
  (ok:∀(f:Shared) (j:Hp) (fp:List Addr) (σ3:St) (H3:Hp) (s3:Shared),Inv X Pc σ j f->(∀ b∈fp,FpOk X Pc j b)->Inv (blkCx X N scope cl f j fp) [] σ3 H3 s3->aa f.heap.objs.size H3->RR (.ref f.heap.objs.size) (f.heap.objs.size+1) (.ok .next) s3)
  (R:∀(a C:Addr) (x:Value) (s':Shared),(∃ m,s'.heap.Ns C m/\∀ h',Heap.SameBut C s'.heap h'->∀ k:Env,k.locals=C->wpAny (model X.prog X.w) X.A (passOn "comprehension.variables-let-go" x k:Sem Value) (λ_ _=>False) X.xe {s' with heap:=h'})->RR (.ref a) C (.error x) s'):
  wpAny (model X.prog X.w) X.A (eval t X.env) (λx s₁=>wpAny (model X.prog X.w) X.A (pyIter x) (λit s₂=>wpAny (model X.prog X.w) X.A (newList []) (λaf s₃=>
   wpAny (model X.prog X.w) X.A (newFunctionEnv scope X.env.globals cl [] X.env.qual none .none<|some X.env) (λk s₄=>
    codeAny (model X.prog X.w) X.A (.compStart (.ListComp L [(tg,t,K,0)] scope pos) 0 it af {k with scope:=relabel scope X.env}) (RR af k.locals) s₄) X.xe s₃) X.xe s₂) X.xe s₁) X.xe s:=by
 show thn (hi Pc s σ H _ I h) λv s1 h1=>thn h1 λau f h2=>?_;obtain⟨it,fp,tn,J,j,e,I2,T,O,f2,h2⟩:=h2;subst e;show wpAny_newList (Hf ?_)<|Qg _;have aq:(f.heap.push {cls:=.type "list",data:=.seq (([]:List Value)).toArray}).objs.size=f.heap.objs.size+1:=Rw ..;dsimp only;rw[aq];have I3:=FR (fp:=fp) B I2 ah am f2<|T.obj _ _ O;obtain⟨W,⟨m0,w0⟩,U⟩:=h2 f.heap.objs.size I2.fresh
 have hk:∀ b o,f.heap.get? b=some o->(pushCells ((f.heap.push {cls:=.type "list",data:=.seq #[]}).push {cls:=.type "dict",data:=.dict #[]}) scope.names).get? b=some o:=
  λb o e=>Sy _ _ b o (Pu _<|Pu _ e)
 have Z:=T.keep _ _ _ O λb _ o e=>hk b o e
 have ar:∀ b∈fp,(upd j f.heap.objs.size<|.lst []) b=none:=λb z=>by
  obtain⟨o,e,_⟩:=T.obj _ _ O b z;rw[ao<|P5<|PQ e];show(f2 b z).1
 have D:∀{σ5:St} {H5:Hp} {s5:Shared},Inv (blkCx X N scope cl f j fp) [] σ5 H5 s5->(∀ b∈fp,H5 b=none)->∀ b∈fp,FpOk (blkCx X N scope cl f j fp) [] H5 b:=λI5 hn b z=>
  (hn b z,(I5.ok.exf b z).1,I5.ok.exfs b z,.inl z,(I5.ok.exf b z).2,λp hp=>absurd (show p∈([]:List (Addr × Obj)) from hp) (by simp))
 have F:∀ s₃:Shared,s₃={f with heap:=pushCells ((f.heap.push {cls:=.type "list",data:=.seq #[]}).push {cls:=.type "dict",data:=.dict #[]}) scope.names}->
   codeAny (model X.prog X.w) X.A (.compLoop (.ListComp L [(tg,t,K,0)] scope pos) 0 (.ref it) (.ref f.heap.objs.size) (blkCx X N scope cl f j fp).env) (RR (.ref f.heap.objs.size)<|f.heap.objs.size+1) s₃:=by
  rintro s₃ rfl;show FQ (λn s'=>∃ i σ' H',Inv (blkCx X N scope cl f j fp) [] σ' H' s'/\tn i s'.heap/\(∀ b∈fp,H' b=none)/\W i n σ' H') ?_ m0 (0,_,_,I3,Z,ar,w0);rintro n s4 ⟨i,σ4,H4,I4,ae,S,w4⟩
  have l:∀ x s',(blkCx X N scope cl f j fp).xe x s'->notedBy (model X.prog X.w) X.A (blkCx X N scope cl f j fp).env (λe s'=>RR (.ref f.heap.objs.size) (f.heap.objs.size+1) (.error e) s') x s':=λx s' hx=>
   P7 (hx (Pc,σ,I2,f2)) (λ_ ai q=>R _ _ _ _ q) λe ai q=>R _ _ _ _ q
  rcases U i n σ4 H4 w4 with ⟨Y,qn⟩ | ⟨go,Nx,hN,ab⟩
  . show P7 (T.done (blkCx X N scope cl f j fp) rfl rfl rfl hc i [] s4 σ4 H4 _ I4 (D I4 S) ae Y) (λr s5 ⟨hr,I5⟩=>?_) l;subst hr;show ok f j fp σ4 H4 s5 I2 f2 I5 qn
  . show P7 (T.item (blkCx X N scope cl f j fp) rfl rfl rfl hc i [] s4 σ4 H4 _ I4 (D I4 S) ae go) (λr s5 ⟨u,hr,h5⟩=>?_) l;subst hr;show P7 h5 (λ_ s6 ⟨x,H6,I6,r6,y6,G,aj⟩=>?_) l;have ap:=I6.pinned (D I6 aj)<|T.obj _ _ G;show P7 (hg cl f j fp _ s6 σ4 H6 x u _ ap r6<|ab x H6 y6) (λ_ s7 ⟨σ7,H7,I7,q7⟩=>?_) l
    have E:∀{σ8:St} {M:Hp} {P:Shared},Inv (blkCx X N scope cl f j fp) ([]++tm fp s6.heap) σ8 M P->Nx σ8 M->∃ m,m<n/\∃ i σ' H',Inv (blkCx X N scope cl f j fp) [] σ' H' P/\tn i P.heap/\(∀ b∈fp,H' b=none)/\W i m σ' H':=λ{σ8 M P} Q n8=>by
     obtain⟨m',hm,w8⟩:=hN σ8 M n8;show(m',hm,i+1,σ8,M,Q.unpinned,T.keep _ _ _ G λb z o e=>(Q.pin (b ,o)<|PZ _<|PZ _<|nP z e).1,λb z=>?_,w8);obtain⟨o,e,d⟩:=T.obj _ _ G b z;show(Q.pin (b ,o)<|PZ _<|PZ _<|nP z e).2.1
    show P7 (ht cl f j fp _ s7 σ7 H7 _ I7 q7) (λak P ⟨M,Q,q8⟩=>?_) l
    cases ak with
    | false=>show E Q q8
    | true=>
     show P7 (he cl f j fp _ P σ7 M _ Q q8) (λy s9 ⟨yv,H9,I9,r9,ys,hl,hz,q9⟩=>?_) l;show P7 (zS (X:=blkCx X N scope cl f j fp) _ s9 σ7 H9 (.ref f.heap.objs.size) [yv] (.ref f.heap.objs.size) [y] (λ_ ad=>Nx σ7 ad) I9 rfl (.cons r9 .nil) (_,ys,yv,rfl,rfl,hl,hz,q9)) (λ_ as ⟨_,ad,ag,_,al⟩=>?_) l;show E ag al
 show codeAny_compStart_list (F _ rfl) (T.self _ 0 _ _ _ Z<|F _ rfl)
def  tComp(ix:List (Option Nat))(c:TI)(g:TG)(a:TT)(b:TE):TE:=λσ H Q=>BA ix c g a b (λl H'=>Q (.ref l) H') σ H
def  sComp(k:Nat)(ix:List (Option Nat))(c:TI)(g:TG)(a:TT)(b:TE):TS:=λD σ H=>BA ix c g a b (λl H'=>D.nx (σ.set k ↑l) H') σ H
def  Dy(I:Inv X Pc σ H s){ix:List (Option Nat)}(B:BlkOk X N ix scope):∃ cl,closureFor scope X.env=pure cl/\(∀ x c,cl.lookup x=some c->X.env.cells.lookup x=some c)/\∀ x,(x ,NameKind.free)∈scope.names->∃ c,cl.lookup x=some c:=
 Ey λx a=>I.ok.has x (B.free x a)
def  vO{ix:List (Option Nat)}(B:BlkOk X N ix scope):∀ x∈scope.names,x.2=NameKind.local->scope.names.lookup x.1=some .local:=λx a e=>by
 obtain⟨n,k⟩:=x;cases e;show jf B.names a
def fA {e b c:Expr} {d:List Expr} {pos:Pos} {ix:List (Option Nat)} {k:TI} {g:TG} {j:TT} {i:TE} (N:List Str) (B:BlkOk X N ix scope) (z:X.calm=true)
  (v:PI X e b k) (n:∀ cl s H fp,PG (blkCx X N scope cl s H fp) e g) (o:∀ cl s H fp,PTs (blkCx X N scope cl s H fp) d j) (l:∀ cl s H fp,PE (blkCx X N scope cl s H fp) c i)
  (y:∀ x,foldedSetIterable b X.env x=pure x:=by intro _;rfl):PE X (.ListComp c [(e,b,d,0)] scope pos) (tComp ix k g j i):=by
 intro Pc s σ H Q I h;obtain⟨cl,e1,e2,u⟩:=Dy I B;rw[eval_ListComp];show S5 (use:=none) rfl y e1 B.kind (vO B) ?_;show BB (RR:=λf C=>compPost (model X.prog X.w) X.A X.xe none (EP X Pc σ Q) f C) B z v n o l e2 u I h (λK F fp M E L D p J q=>?_)<|λa C x s' q=>q;obtain⟨m,t,_⟩:=J.loc;show(m,t,λG r=>(.ref _,E,Dw D J p r,rfl,q))
def Dz {y:Str} {n j:Pos} {k:Nat} {r d f:Expr} {i:List Expr} {pos:Pos} {ix:List (Option Nat)} {S:TI} {g:TG} {R:TT} {M:TE} (T:X.N.Nodup) (hy:X.N[k]? =some y) (hx:Loc X.env.scope y)
  (E:swapsWith (.ListComp f [(r,d,i,0)] scope pos) (some<|.Name y n) j.line X.env=pure true) (N:List Str) (B:BlkOk X N ix scope) (hc:X.calm=true)
  (hi:PI X r d S) (Y:∀ cl s H fp,PG (blkCx X N scope cl s H fp) r g) (ht:∀ cl s H fp,PTs (blkCx X N scope cl s H fp) i R) (U:∀ cl s H fp,PE (blkCx X N scope cl s H fp) f M)
  (hs:∀ x,foldedSetIterable d X.env x=pure x:=by intro _;rfl) (Z:X.fn y=true\/X.env.scope.names.lookup y=some .local:=by first | show .inl rfl | show .inr rfl | assumption):
  PS X (.Assign [.Name y n] (.ListComp f [(r,d,i,0)] scope pos) j) (sComp k ix S g R M):=by
 intro Pc s σ H D I h;obtain⟨cl,e1,e2,e3⟩:=Dy I B;rw[exec_Assign_Name_used _ _ _ _ E];show PB<|S4<|PB ?_;change wpAny _ X.A (do let _ ← comprehension (.ListComp f [(r,d,i,0)] scope pos) scope X.env _ (newList []) false (eval d X.env) (some<|assign (.Name y n) X.env)) _ _ s;show PB<|P7 (S5 (use:=some (assign (.Name y n) X.env)) (Q:=λ_ s'=>SP X Pc D .next s') rfl hs e1 B.kind (vO B) ?_) (λ_ s' hq=>P9<|P9 hq) λ_ _ e=>e;show BB (RR:=λL C=>compPost (model X.prog X.w) X.A X.xe (some<|assign (.Name y n) X.env) (λ_ s'=>SP X Pc D .next s') L C) B hc hi Y ht U e2 e3 I h (λG H2 fp σ3 O P l f2 J q=>?_)<|λa C x s' q=>q;obtain⟨m,hn,_⟩:=J.loc;have I3:Inv X Pc σ O {P with heap:=P.heap}:=Dw l J f2<|Heap.SameBut.refl _ _;change wpAny _ X.A (assign (.Name y n) X.env<|.ref _) _ _ _;show wpAny_assign_Name (zL (v:=.ref _) I3 T hy hx rfl (λs4 I4 ⟨a,u,t⟩=>?_) Z)
 have K:a<G.heap.objs.size:=by
  rcases t with rfl | t
  . show l.lt
  . obtain⟨v,z⟩:=l.cell _ _ t;show z.lt
 have F:G.heap.objs.size+1≠a:=SI<|Q9 K;show(m,hn.sameBut u F,λh' sb=>?_);show(_,O,I4.turned (t':=s4.toks) (it:=G.heap.objs.size+1) (λb o hb e=>(sb.2 b hb).trans e) J.free (SI<|Q9 l.lt) (.inr<|Pk l.sz<|RU _) (λx c e=>?_)<|λp W=>?_,q)
 . obtain⟨v,z⟩:=l.cell x c e;show P5 (Q9 z.lt)
 . show P5 (Q9<|PQ (l.pin p W).1)
end
def  bnd{α:Type}:Option α->(α->Prop)->Prop
 | some a,k=>k a
 | none,_=>False
def  bV{α:Type}{o:Option α}{a:α}{k:α->Prop}(h:o=some a)(q:k a):bnd o k:=by subst h;show q
def cV{α:Type}{o:Option α}{k:α->Prop}(h:bnd o k):∃ a,o=some a/\k a:=by
 cases o with
 | none=>show h.elim
 | some a=>show(a,rfl,h)
def  bA{α:Type}{a:α}{k:α->Prop}:bnd (some a) k=k a:=rfl
def  unM:Option HO->Option (List V)
 | ↥xs=>some xs
 | _=>none
def  unL:Option HO->Option (List V)
 | ↥xs=>some xs
 | some (.frz _ (.lst xs))=>some xs
 | _=>none
def  unS:Option HO->Option (List V)
 | ↥xs=>some xs
 | some (.frz _ (.lst xs))=>some xs
 | some (.tup xs)=>some xs
 | _=>none
variable{o:Option HO}{xs:List V}
def og(h:unM o=some xs):o=↥xs:=by
 unfold unM at h;split at h
 . cases h;rfl
 . cases h
def BC{K:Frag}{H:Hp}{p:Addr}(h:unL (H p)=some xs):SqL K H p xs:=by
 unfold unL at h;split at h
 . rename_i e;cases h;show .inl (.inl e)
 . rename_i o _ e;cases h;show .inl (.inr (_,e))
 . cases h
def tE{K:Frag}{H:Hp}{p:Addr}(h:unS (H p)=some xs):SqL K H p xs\/SqT K H p xs:=by
 unfold unS at h;split at h
 . rename_i e;cases h;show .inl (.inl<|.inl e)
 . rename_i o _ e;cases h;show .inl (.inl<|.inr (_,e))
 . rename_i e;cases h;show .inr (.inl<|.inl e)
 . cases h
mutual
inductive DV(K:Frag)(H:Hp):V->PyData->Prop
 | non:DV K H .non .none
 | bl (b:Bool):DV K H (.bl b) (.bool b)
 | int (i:Int):DV K H (.int i) (.int i)
 | str (x:Str):DV K H (.str x) (.str x)
 | lst {a:Addr} {xs:List V} {ds:List PyData}:SqL K H a xs->DVs K H xs ds->DV K H (.ref a) (.list ds)
 | tup {a:Addr} {xs:List V} {ds:List PyData}:SqT K H a xs->DVs K H xs ds->DV K H (.ref a) (.tuple ds)
inductive DVs(K:Frag)(H:Hp):List V->List PyData->Prop
 | nil:DVs K H [] []
 | cons {x:V} {d:PyData} {xs:List V} {ds:List PyData}:DV K H x d->DVs K H xs ds->DVs K H (x::xs) (d::ds)
end
section
variable{X:Cx}{Pc:List (Addr × Obj)}{σ:St}{H:Hp}{s:Shared}
mutual
def DV.reads(I:Inv X Pc σ H s):∀{x:V} {d:PyData} {v:Value},DV X.K H x d->RelV x v->∃ c,Reads s.heap v d c
 | _,_,_,.non,r=>by cases r;show(_,.none)
 | _,_,_,.bl b,r=>by cases r;show(_,.bool b)
 | _,_,_,.int i,r=>by obtain⟨t,rfl⟩:=r;show(_,.int i t)
 | _,_,_,.str x,r=>by obtain⟨t,rfl⟩:=r;show(_,.str x t)
 | _,_,_,.lst (a:=a) h hs,r=>by
  cases r;obtain⟨Pf,e,p,_⟩:=I.list h;obtain⟨c,q⟩:=DVs.reads I hs e;obtain⟨o,h1,h2,n,h3⟩:=p.isList;show(_,.list h1 h2 h3 q)
 | _,_,_,.tup (a:=a) h hs,r=>by
  cases r;obtain⟨Pf,e,p,_⟩:=I.tuple h;obtain⟨c,q⟩:=DVs.reads I hs e;obtain⟨o,h1,h2,n,h3⟩:=p;show(_,.tuple h1 h2 h3 q)
def DVs.reads(I:Inv X Pc σ H s):∀{xs:List V} {a:List PyData} {us:List Value},DVs X.K H xs a->Vals xs us->∃ b,ReadsAll s.heap us a b
 | _,_,_,.nil,.nil=>(_,.nil)
 | _,_,_,.cons h hs,.cons r rs=>by
  obtain⟨b,q⟩:=DV.reads I h r;obtain⟨bs,c⟩:=DVs.reads I hs rs;show(_,.cons q c)
end
end
def DVs.ints{K:Frag}{H:Hp}:∀ ns:∅,DVs K H (ns.map V.int) (ns.map PyData.int)
 | []=>.nil
 | n::r=>.cons (.int n) (DVs.ints r)
def  Hg:∀ ns a:∅,PyData.eqvAll (ns.map PyData.int) (a.map PyData.int)=decide (ns=a):=PySem.W.ked_eqvAll
def BD:∀ ns:∅,PyData.canLayAll0 (ns.map PyData.int)=true
 | []=>rfl
 | n::r=>by rw[Pz,PyData.canLayAll0,BD r];rfl
def xf:∀ ns:∅,PyData.depthAll (ns.map PyData.int)=0
 | []=>rfl
 | n::r=>by rw[Pz,PyData.depthAll,xf r];rfl
def vP(ns:∅):SeqAt.shaped (.list<|ns.map PyData.int)=true:=by
 simp[SeqAt.shaped,PyData.canLay0,BD,PyData.depth,xf]
def  cAdd:R2
 | .int i,.int j,H,Q=>Q (.int<|i+j) H
 | .str i,.str j,H,Q=>i.length+j.length<=sizeLine/\Q (.str<|i++j) H
 | .ref l,.ref b,H,Q=>bnd (unM<|H l) λxs=>bnd (unM<|H b) λa=>xs.length+a.length<=sizeLine/\∀ p,H p=none->Q (.ref p) (upd H p<|.lst<|xs++a)
 | _,_,_,_=>False
def  cSub:R2
 | .int i,.int j,H,Q=>Q (.int<|i-j) H
 | _,_,_,_=>False
def  cMul:R2
 | .int i,.int j,H,Q=>CMul i j/\Q (.int<|i*j) H
 | _,_,_,_=>False
def  cDiv:R2
 | .int i,.int j,H,Q=>CDiv i j/\Q (.int<|i/j) H
 | _,_,_,_=>False
def  cMod:R2
 | .int i,.int j,H,Q=>0<j/\Q (.int<|i%j) H
 | _,_,_,_=>False
def  cPow:R2
 | .int i,.int j,H,Q=>CPow i j/\Q (.int<|i^j.toNat) H
 | _,_,_,_=>False
def  cCmp(g:Int->Int->Bool):R2
 | .int i,.int j,H,Q=>Q (.bl<|g i j) H
 | _,_,_,_=>False
def  rEqD(K:Frag):R2:=λx y H Q=>∃ d e,DV K H x d/\DV K H y e/\SeqAt.shaped d=true/\SeqAt.shaped e=true/\Q (.bl<|PyData.eqv d e) H
def  rNeD(K:Frag):R2:=λx y H Q=>∃ d e,DV K H x d/\DV K H y e/\SeqAt.shaped d=true/\SeqAt.shaped e=true/\Q (.bl<|!PyData.eqv d e) H
def  cEq(K:Frag):R2
 | .int i,.int j,H,Q=>Q (.bl<|decide<|i=j) H
 | .bl i,.bl j,H,Q=>Q (.bl<|decide<|i=j) H
 | .str i,.str j,H,Q=>Q (.bl<|decide<|i=j) H
 | x,y,H,Q=>rEqD K x y H Q
def  cNe(K:Frag):R2
 | .int i,.int j,H,Q=>Q (.bl<|!decide (i=j)) H
 | .bl i,.bl j,H,Q=>Q (.bl<|!decide (i=j)) H
 | .str i,.str j,H,Q=>Q (.bl<|!decide (i=j)) H
 | x,y,H,Q=>rNeD K x y H Q
def  rInD(K:Frag)(b:Bool):R2:=λx y H Q=>∃ d a,DV K H x d/\(DV K H y (.list a)\/DV K H y (.tuple a))/\PyData.canLayAll0 a=true/\PyData.canLay0 d=true/\min (PyData.depthAll a) d.depth<=62/\
 Q (.bl (if b then !a.any (λy=>PyData.eqv y d) else a.any λy=>PyData.eqv y d)) H
def  keyOf:V->Option Key
 | .int i=>some (.inl i)
 | .str x=>some (.inr x)
 | _=>none
def  unD:Option HO->Option (List<|Key × V)
 | some (.dK Pe)=>some Pe
 | _=>none
def  cIn(K:Frag)(b:Bool):R2
 | .ref a,y,H,Q=>rInD K b (.ref a) y H Q
 | x,.ref p,H,Q=>(match unD (H p) with
  | some Pe=>bnd (keyOf x) λk=>Q (.bl (if b then !(valV Pe k).isSome else(valV Pe k).isSome)) H
  | none=>bnd (unS<|H p) λxs=>flatV x=true/\xs.all flatV=true/\Q (.bl (if b then !inV x xs else inV x xs)) H)
 | .str i,.str j,H,Q=>Q (.bl (if b then !(!(Builtin.Str.occurrences j i 0 j.length 1).isEmpty) else !(Builtin.Str.occurrences j i 0 j.length 1).isEmpty)) H
 | _,_,_,_=>False
def  cIx:R2
 | .ref p,y,H,Q=>(match unD (H p) with
  | some Pe=>bnd (keyOf y) λk=>bnd (valV Pe k) λv=>Q v H
  | none=>match y with
   | .int i=>bnd (unS<|H p) λxs=>bnd (atI xs i) λv=>Q v H
   | _=>False)
 | .str z,.int i,H,Q=>z.length<=sizeLine/\bnd (atI z.cps.toList i) λc=>Q (.str ⟨#[c]⟩) H
 | _,_,_,_=>False
def BE{Pe:List (Key × V)}(h:unD o=some Pe):o=some (.dK Pe):=by
 unfold unD at h;split at h
 . cases h;rfl
 . cases h
def BF{x:V}{k:Key}(h:keyOf x=some k):x=kV k:=by
 unfold keyOf at h;split at h
 . cases h;rfl
 . cases h;rfl
 . cases h
section
variable{X:Cx}{a b c:Expr}{ta tb tc:TE}{pos:Pos}
def ah:OpR X (binaryOp .Add) cAdd:=by
 intro Pc s σ H x y v u Q I b a h;unfold cAdd at h
 split at h
 . show J7 Pc s σ H _ _ v u Q I b a (_,_,rfl,rfl,h)
 . show Ep Pc s σ H _ _ v u Q I b a (_,_,rfl,rfl,h.1,h.2)
 . obtain⟨xs,e1,h⟩:=cV h;obtain⟨c,e2,h⟩:=cV h;show Kh Pc s σ H _ _ v u Q I b a (_,_,xs,c,rfl,rfl,og e1,og e2,h.1,h.2)
 . show h.elim
def n4:OpR X (binaryOp .Sub) cSub:=by
 intro Pc s σ H x y v u Q I b a h;unfold cSub at h
 split at h
 . show J8 Pc s σ H _ _ v u Q I b a (_,_,rfl,rfl,h)
 . show h.elim
def iB:OpR X (binaryOp .Mult) cMul:=by
 intro Pc s σ H x y v u Q I b a h;unfold cMul at h
 split at h
 . show J9 Pc s σ H _ _ v u Q I b a (_,_,rfl,rfl,h.1,h.2)
 . show h.elim
def uV:OpR X (binaryOp .FloorDiv) cDiv:=by
 intro Pc s σ H x y v u Q I b a h;unfold cDiv at h
 split at h
 . show Iy Pc s σ H _ _ v u Q I b a (_,_,rfl,rfl,h.1,h.2)
 . show h.elim
def jU:OpR X (binaryOp .Mod) cMod:=by
 intro Pc s σ H x y v u Q I b a h;unfold cMod at h
 split at h
 . show Ka Pc s σ H _ _ v u Q I b a (_,_,rfl,rfl,h.1,h.2)
 . show h.elim
def uW{a:CmpOp}{g:Int->Int->Bool}(o:OpR X (compareOp a) (rI0 λi j=>.bl<|g i j)):OpR X (compareOp a) (cCmp g):=by
 intro Pc s σ H x y v u Q I c b h;unfold cCmp at h
 split at h
 . show o Pc s σ H _ _ v u Q I c b (_,_,rfl,rfl,h)
 . show h.elim
def  qk:OpR X (compareOp .Lt) (cCmp λi j=>decide<|i<j):=uW Ll
def  ly:OpR X (compareOp .LtE) (cCmp λi j=>decide<|i<=j):=uW Lm
def  oh:OpR X (compareOp .Gt) (cCmp λi j=>decide<|j<i):=uW Lo
def  FS:OpR X (compareOp .GtE) (cCmp λi j=>decide<|j<=i):=uW Lp
def Kk(g:X.A.units+64<cLine):OpR X (compareOp .Eq) (rEqD X.K):=by
 intro Pc s σ H x y v u Q I a f h;obtain⟨d,e,h1,h2,h3,h4,q⟩:=h;obtain⟨i,c⟩:=h1.reads I a;obtain⟨j,b⟩:=h2.reads I f;show eq_dataH c b h3 h4 g (.bl _,H,I,rfl,q)
def Kl(g:X.A.units+64<cLine):OpR X (compareOp .NotEq) (rNeD X.K):=by
 intro Pc s σ H x y v u Q I a f h;obtain⟨d,e,h1,h2,h3,h4,q⟩:=h;obtain⟨i,c⟩:=h1.reads I a;obtain⟨j,b⟩:=h2.reads I f;show ne_dataH c b h3 h4 g (.bl _,H,I,rfl,q)
def aY(c:X.A.units+64<cLine):OpR X (compareOp .Eq) (cEq X.K):=by
 intro Pc s σ H x y v u Q I b a h;unfold cEq at h
 split at h
 . show Em Pc s σ H _ _ v u Q I b a (rfl,?_)
   simpa using h
 . show Em Pc s σ H _ _ v u Q I b a (rfl,?_)
   simpa using h
 . show Em Pc s σ H _ _ v u Q I b a (rfl,?_)
   simpa using h
 . show Kk c Pc s σ H _ _ v u Q I b a h
def cW(c:X.A.units+64<cLine):OpR X (compareOp .NotEq) (cNe X.K):=by
 intro Pc s σ H x y v u Q I b a h;unfold cNe at h
 split at h
 . show Eo Pc s σ H _ _ v u Q I b a (rfl,?_)
   simpa using h
 . show Eo Pc s σ H _ _ v u Q I b a (rfl,?_)
   simpa using h
 . show Eo Pc s σ H _ _ v u Q I b a (rfl,?_)
   simpa using h
 . show Kl c Pc s σ H _ _ v u Q I b a h
def Km(j:X.A.units+64<cLine):OpR X (compareOp .In) (rInD X.K false):=by
 intro Pc s σ H x y v u Q I e c h;obtain⟨d,i,h1,h2,h3,h4,h5,q⟩:=h;obtain⟨g,b⟩:=h1.reads I e;rcases h2 with h2 | h2
 . obtain⟨f,a⟩:=h2.reads I c;show SeqAt.in_list_reads a b h3 h4 #[4] (.bl _,H,I,rfl,q)
 . obtain⟨f,a⟩:=h2.reads I c;show SeqAt.in_tuple_reads a b h3 h4 #[4] (.bl _,H,I,rfl,q)
def oi(c:X.A.units+64<cLine):OpR X (compareOp .In) (cIn X.K false):=by
 intro Pc s σ H x y v u Q I a b h;unfold cIn at h
 split at h
 . show Km c Pc s σ H _ _ v u Q I a b h
 . rename_i p m
   split at h
   . rename_i Pe e
     obtain⟨k,d,q⟩:=cV h;cases (show u=Value.ref p from b);have g:DGet H p x (valV Pe k):=by rw[BF d];show DGet.k (BE e)
     show LW (QG (SE (by decide:1<=64) _) c) I g a λl i=>(.bl _,H,i,rfl,q)
   . obtain⟨xs,e,f,j,q⟩:=cV h;show tw Pc s σ H _ _ v u Q I a b (p,xs,rfl,tE e,f,j,q)
 . show FE Pc s σ H _ _ v u Q I a b (_,_,rfl,rfl,h)
 . show h.elim
end
section
variable{X:Cx}{a b c:Expr}{ta tb tc:TE}{pos:Pos}
def LX(B:X.A.units+64<cLine):IxR X cIx:=by
 intro a b Pc s σ H x y v u Q I f j h l
 cases x with
 | ref p=>
  unfold cIx at h;dsimp only at h
  split at h
  . rename_i Pe e
    obtain⟨k,o,h⟩:=cV h;obtain⟨z,d,q⟩:=cV h;cases (show v=Value.ref p from f);have g:DGet H p y (some z):=by rw[BF o,← d];show DGet.k (BE e)
    show tail_any (vN I g) RC.lookup (zV (QG (SE (by decide:1<=64) _) B) I g j λC D t m=>(z,H,t,m,q)) l
  . split at h
    . obtain⟨xs,e,h⟩:=cV h;obtain⟨z,d,q⟩:=cV h;rcases tE (K:=X.K) e with r | r
      . show Dv a b Pc s σ H _ _ v u Q I f j (p,xs,_,z,rfl,rfl,r,d,q) l
      . show Kd a b Pc s σ H _ _ v u Q I f j (p,xs,_,z,rfl,rfl,r,d,q) l
    . show h.elim
 | str n=>
  cases y with
  | int i=>
   obtain⟨w,h⟩:=(show n.length<=sizeLine/\bnd (atI n.cps.toList i) λc=>Q (.str ⟨#[c]⟩) H from h);obtain⟨z,d,q⟩:=cV h;show Ke a b Pc s σ H _ _ v u Q I f j (_,_,z,rfl,rfl,w,d,q) l
  | _=>show False.elim h
 | _=>show False.elim h
def  kLen:List V->Hp->VK->Prop
 | [.ref p],H,Q=>(match unD (H p) with
  | some Pe=>Q (.int Pe.length) H
  | none=>bnd (unS<|H p) λxs=>Q (.int xs.length) H)
 | [.str z],H,Q=>z.length<=sizeLine/\Q (.int z.length) H
 | _,_,_=>False
def br:CallR X (.builtin "len") kLen:=by
 intro Pc s σ H xs a Q I r h;unfold kLen at h
 split at h
 . split at h
   . rename_i Pe e
     show FP Pc s σ H _ a Q I r (_,Pe,rfl,BE e,h)
   . obtain⟨b,e,q⟩:=cV h;show tz Pc s σ H _ a Q I r (_,b,rfl,tE e,q)
 . show Bs Pc s σ H _ a Q I r (_,rfl,h.1,h.2)
 . show h.elim
def  kAbs:List V->Hp->VK->Prop
 | [.int i],H,Q=>Q (.int (if i<0 then -i else i)) H
 | _,_,_=>False
def  kMin:List V->Hp->VK->Prop
 | [.int i,.int j],H,Q=>Q (.int (if j<i then j else i)) H
 | _,_,_=>False
def  kMax:List V->Hp->VK->Prop
 | [.int i,.int j],H,Q=>Q (.int (if j>i then j else i)) H
 | _,_,_=>False
def  kList:List V->Hp->VK->Prop
 | [.ref p],H,Q=>bnd (unS<|H p) λys=>∀ l,H l=none->Q (.ref l) (upd H l<|.lst ys)
 | _,_,_=>False
def jV:CallR X (.type "list") kList:=by
 intro Pc s σ H xs a Q I r h;unfold kList at h
 split at h
 . obtain⟨b,e,q⟩:=cV h;show Bu Pc s σ H _ a Q I r (_,b,rfl,tE e,q)
 . show h.elim
def  kA(H:Hp):V->Option String
 | .non=>some "NoneType"
 | .bl _=>some "bool"
 | .int _=>some "int"
 | .str _=>some "str"
 | .ref p=>match H p with
  | ↥_=>some "list"
  | some (.frz _ (.lst _))=>some "list"
  | some (.tup _)=>some "tuple"
  | some (.dK _)=>some "dict"
  | _=>none
 | _=>none
def  isTy(t n:String):Bool:=t==n||(t=="bool"&&n=="int")
def  uX(n:String):Bool:=["int","bool","str","list","tuple","dict"].contains n
def FT{K:Frag}{H:Hp}{x:V}{t:String}(h:kA H x=some t):TyOf K H x (.type t)/\["NoneType","int","bool","str","list","tuple","dict"].contains t=true:=by
 cases x with
 | non=>cases h;show(.non,by decide)
 | bl b=>cases h;show(.bl b,by decide)
 | int i=>cases h;show(.int i,by decide)
 | str i=>cases h;show(.str i,by decide)
 | byt _=>cases h
 | flt _=>cases h
 | ty _=>cases h
 | ref p=>
  unfold kA at h;dsimp only at h
  split at h
  . rename_i e;cases h;show(.lst e,by decide)
  . rename_i e;cases h;show(.frz e,by decide)
  . rename_i e;cases h;show(.tup e,by decide)
  . rename_i e;cases h;show(.dK e,by decide)
  . cases h
def Kn(K:Frag):∀ t∈["NoneType","int","bool","str","list","tuple","dict"],∀ n∈["int","bool","str","list","tuple","dict"],PySem.W.kitOne K (.type t) (.type n)=some (isTy t n):=by
 intro t a n b;simp only[Pw,Qf,Ra]at a b;rcases a with rfl | rfl | rfl | rfl | rfl | rfl | rfl <;> rcases b with rfl | rfl | rfl | rfl | rfl | rfl <;> rfl
def  kIsi:List V->Hp->VK->Prop
 | [x,.ty n],H,Q=>uX n=true/\bnd (kA H x) λt=>Q (.bl<|isTy t n) H
 | _,_,_=>False
def dB:CallR X (.builtin "isinstance") kIsi:=by
 intro Pc s σ H xs i Q I r h;unfold kIsi at h
 split at h
 . obtain⟨e,h⟩:=h;obtain⟨t,d,q⟩:=cV h;obtain⟨u,w,rfl,c,a⟩:=Bi r;cases a;obtain⟨b,g⟩:=FT (K:=X.K) d;show FH I c b (Kn X.K t (by simpa using g) _ (by simpa [uX] using e)) λf=>(.bl _,H,I.tok f,rfl,q)
 . show h.elim
def  mq:V->List V->Hp->VK->Prop
 | .ref l,[y],H,Q=>bnd (unM<|H l) λxs=>xs.length<sizeLine/\Q .non (upd H l<|.lst<|xs++[y])
 | _,_,_,_=>False
def ri:MtR X "list.append" mq:=by
 intro Pc s σ H x vs v b Q I c a h;unfold mq at h
 split at h
 . obtain⟨xs,e,h1,q⟩:=cV h;show zS Pc s σ H _ _ v b Q I c a (_,xs,_,rfl,rfl,og e,h1,q)
 . show h.elim
def  uY:V->List V->Hp->VK->Prop
 | .ref l,[.ref b],H,Q=>bnd (unM<|H l) λxs=>bnd (unM<|H b) λa=>xs.length+a.length<=sizeLine/\Q .non (upd H l<|.lst<|xs++a)
 | _,_,_,_=>False
def Ez:MtR X "list.extend" uY:=by
 intro Pc s σ H x vs v c Q I d b h;unfold uY at h
 split at h
 . obtain⟨xs,e,h⟩:=cV h;obtain⟨a,e2,h1,q⟩:=cV h;show FK Pc s σ H _ _ v c Q I d b (_,_,xs,a,rfl,rfl,og e,og e2,h1,q)
 . show h.elim
def  rj{K:Frag}{H:Hp}{p:Addr}{xs:List V}(h:H p=↥xs):tyV K "list" (.ref p) H:=.inl (rfl,_,Qm h)
def  cSl:V->Option Int->Option Int->Hp->VK->Prop
 | .ref p,lo,hi,H,Q=>bnd (unL<|H p) λxs=>∀ l,H l=none->Q (.ref l) (upd H l<|.lst<|cutV xs lo hi)
 | _,_,_,_,_=>False
def LY:SlR X cSl:=by
 intro Pc s σ H x v i b g a c Q I d f k j h;unfold cSl at h
 split at h
 . obtain⟨xs,e,q⟩:=cV h;show IC Pc s σ H _ v i b g a c Q I d f k j (_,xs,rfl,BC e,q)
 . show h.elim
end
structure Cal(P:Program)(w:World)(K:Frag)(mg:Str->Option Value)(base:Heap)(k:Nat)(x:Str)(ps:List Str)(sp:Sp):Prop where
 ex:∃(f:Addr) (fd:FuncData),FnOk P w K mg base CX0 k f fd ps sp/\mg x=↑f/\keepIn K (.ref f)=true/\Binds K fd ps []
def FU {X:Cx} {k n:Nat} {x:Str} {m:List Str} {sp:Sp} {p pos:Pos} {e:Expr} {a:List Expr} {t:TA} (C:Cal X.prog X.w X.K X.mg X.base k x m sp) (j:Room n X.A) (g:k<=n) (l:Gl X x) (h:PA X (e::a) t)
  (b:(x==("__debug__":Str))=false:=by decide) (i:starEach (e::a) X.env=(false ,eval e X.env)::starEach a X.env:=by rfl) (c:(backTo pos<|starEach a X.env).any (·.1)=false:=by rfl):
  PE X (.Call (.Name x p) (e::a) [] pos) (tCall sp [] E0 t):=by
 obtain⟨f,r,F,o,d,q⟩:=C.ex;show Dt F (j.mono g) l o d q .nil xa h b i c
def  hu1{u:Nat}(h:u+64<cLine):u+1<cLine:=QG (SE (by decide:1<=64) _) h
def ck:bootBuiltins "len"=some (.builtin "len"):=by decide+kernel
def aN:bootBuiltins "isinstance"=some (.builtin "isinstance"):=by decide+kernel
def jm:bootBuiltins "list"=some (.type "list"):=by decide+kernel
def xg:bootBuiltins "int"=some (.type "int"):=by decide+kernel
def IM:bootBuiltins "bool"=some (.type "bool"):=by decide+kernel
def ql:bootBuiltins "str"=some (.type "str"):=by decide+kernel
def oj:bootBuiltins "tuple"=some (.type "tuple"):=by decide+kernel
def  compN(scope:Scope):List Str:=(scope.names.filter λp=>p.2==.local||p.2==.cell||p.2==.free).map (·.1)
def  xh(N:List Str)(scope:Scope):List (Option Nat):=(compN scope).map λx=>if scope.names.lookup x==some .free then N.findIdx? (· ==x) else none
def  isCF:Option NameKind->Bool
 | some .cell=>true
 | some .free=>true
 | _=>false
def  Ko{X:Cx}{scope:Scope}(h1:scope.kind=.function)(h2:(scope.names.map (·.1)).Nodup)(h3:(scope.names.all λp=>p.2 != .free||isCF (X.env.kindOf p.1))=true):BlkOk X (compN scope) (xh X.N scope) scope where
 kind:=h1
 nd:=h2.sublist (List.Sublist.map _<|List.filter_sublist ..)
 len:=by unfold xh;rw[Pj]
 names:=h2
 free:=λx b=>by
  have:=PL.mp h3 (x ,.free) b;simp only[bne_self_eq_false,Bool.false_or]at this;unfold isCF at this
  split at this
  . rename_i e;show .inl e
  . rename_i e;show .inr e
  . cases this
 at_:=λj i x e1 e2=>by
  unfold xh at e2;rw[Pp,e1]at e2;simp only[Option.map_some,S1]at e2
  split at e2
  . rename_i c
    obtain⟨a,d,_⟩:=List.findIdx?_eq_some_iff_getElem.mp e2
    have b:X.N[i]? =some x:=by
     rw[Px a];have:X.N[i]=x:=by simpa using d
     rw[this]
    show(b,QD (by simpa using c))
  . cases e2
section
variable{t u:TS}{D:Ends}{σ:St}{H:Hp}{Q:VK}{ta tb:TE}{R:Bool->Hp->Prop}{c d:TT}
def  aB:tSeq t u D σ H=t {D with nx:=u D} σ H:=rfl
def  cy:tNext D σ H=D.nx σ H:=rfl
def  bg{g:TG}:tAsg ta g D σ H=ta σ H λx a=>g x σ a D.nx:=rfl
def  aH{i:Nat}{v:V}{k:St->Hp->Prop}:gName i v σ H k=k (σ.set i<|some v) H:=rfl
def  cq{v:V}{σ:St}:tVar 0 (some v::σ) H Q=Q v H:=rfl
def  cr{i:Nat}{a:Option V}{σ:St}:tVar (i+1) (a::σ) H Q=tVar i σ H Q:=rfl
def  w_c{v:V}:tC v σ H Q=Q v H:=rfl
def  fK{r:R2}:tOp r ta tb σ H Q=ta σ H λx a=>tb σ a λy b=>r x y b Q:=rfl
def  cp:tRet ta D σ H=ta σ H D.rt:=rfl
def  cz:tRetN D σ H=D.rt .non H:=rfl
def  cu:tDrop ta D σ H=ta σ H λ_ a=>D.nx σ a:=rfl
def  aT:tIfS c t u D σ H=c σ H λb a=>if b=true then t D σ a else u D σ a:=rfl
def  cA:tTest ta σ H R=ta σ H λx a=>∃ k,x=.bl k/\R k a:=rfl
def  w_b:tB ta σ H R=ta σ H λx a=>∃ k,x=.bl k/\R k a:=rfl
def  w_not:tNot c σ H R=c σ H λk a=>R (!k) a:=rfl
def  dG:tAnd c d σ H R=c σ H λk a=>if k=true then d σ a R else R false a:=rfl
def  gD:tOr c d σ H R=c σ H λk a=>if k=true then R true a else d σ a R:=rfl
def  cB:tNotV ta σ H Q=ta σ H λx a=>∃ c,x=.bl c/\Q (.bl<|!c) a:=rfl
def  cC:tAndV ta tb σ H Q=ta σ H λx a=>∃ c,x=.bl c/\if c=true then tb σ a Q else Q (.bl false) a:=rfl
def  dH:tOrV ta tb σ H Q=ta σ H λx a=>∃ c,x=.bl c/\if c=true then Q (.bl true) a else tb σ a Q:=rfl
def  cZ{k:List V->Hp->Prop}:tNil σ H k=k [] H:=rfl
def  bN{a:TA}{k:List V->Hp->Prop}:tCons ta a σ H k=ta σ H λx b=>a σ b λxs c=>k (x::xs) c:=rfl
def  fY{r:List V->Hp->VK->Prop}{a:TA}:tCB r a σ H Q=a σ H λvs b=>r vs b Q:=rfl
def  cD{sp:Sp}{a:List V}{E:XK}{b:TA}:tCall sp a E b σ H Q=b σ H λvs c=>sp (vs++a) c Q E:=rfl
def  di{a:TA}:tTup a σ H Q=a σ H λxs b=>xs.length<=sizeLine/\∀ p,b p=none->Q (.ref p) (upd b p<|.tup xs):=rfl
def  df{a:TA}:tLst a σ H Q=a σ H λxs b=>xs.length<=sizeLine/\∀ p,b p=none->Q (.ref p) (upd b p<|.lst xs):=rfl
def  fZ{K:Frag}{T:String}{r:V->List V->Hp->VK->Prop}{b:TA}:tBM K T r ta b σ H Q=ta σ H λx a=>tyV K T x a/\b σ a λxs c=>r x xs c Q:=rfl
def  dI{K:Frag}{T:String}{r:V->List V->Hp->VK->Prop}:G8 K T r ta σ H Q=ta σ H λx a=>tyV K T x a/\r x [] a Q:=rfl
def  bP:tTrue σ H R=R true H:=rfl
def  cF:By σ H Q=∀ p,H p=none->Q (.ref p) (upd H p<|.dK []):=rfl
def  cG{c d b:TE}:sDPut c d b D σ H=b σ H λv f=>c σ f λx g=>d σ g λy h=>∃ a e,x=.ref a/\DPut h a y v e/\D.nx σ e:=rfl
def  dJ{i j:Int}:cAdd (.int i) (.int j) H Q=Q (.int<|i+j) H:=rfl
def  dj{i j:Int}:cSub (.int i) (.int j) H Q=Q (.int<|i-j) H:=rfl
def  dL{i j:Int}:cMul (.int i) (.int j) H Q=(CMul i j/\Q (.int<|i*j) H):=rfl
def  dM{i j:Int}:cDiv (.int i) (.int j) H Q=(CDiv i j/\Q (.int<|i/j) H):=rfl
def  dO{i j:Int}:cMod (.int i) (.int j) H Q=(0<j/\Q (.int<|i%j) H):=rfl
def  dP{g:Int->Int->Bool}{i j:Int}:cCmp g (.int i) (.int j) H Q=Q (.bl<|g i j) H:=rfl
def  dQ{K:Frag}{i j:Int}:cEq K (.int i) (.int j) H Q=Q (.bl<|decide<|i=j) H:=rfl
def  dR{K:Frag}{i j:Int}:cNe K (.int i) (.int j) H Q=Q (.bl<|!decide (i=j)) H:=rfl
def  dS{K:Frag}{i j:Bool}:cEq K (.bl i) (.bl j) H Q=Q (.bl<|decide<|i=j) H:=rfl
def  dW{K:Frag}{i j:Bool}:cNe K (.bl i) (.bl j) H Q=Q (.bl<|!decide (i=j)) H:=rfl
def rm{p:Addr}{i:Int}{xs:List V}(h:H p=some (.tup xs)):cIx (.ref p) (.int i) H Q=bnd (atI xs i) λv=>Q v H:=by
 unfold cIx;dsimp only;rw[h];rfl
def Lw{p:Addr}{i:Int}{xs:List V}(h:H p=↥xs):cIx (.ref p) (.int i) H Q=bnd (atI xs i) λv=>Q v H:=by
 unfold cIx;dsimp only;rw[h];rfl
def  dX{i:Int}:kAbs [.int i] H Q=Q (.int (if i<0 then -i else i)) H:=rfl
def  dY{i j:Int}:kMin [.int i,.int j] H Q=Q (.int (if j<i then j else i)) H:=rfl
def ij{p:Addr}{xs:List V}(h:H p=↥xs):kLen [.ref p] H Q=Q (.int xs.length) H:=by
 unfold kLen;dsimp only;rw[h];rfl
def BG{p:Addr}{xs:List V}(h:H p=some (.tup xs)):kLen [.ref p] H Q=Q (.int xs.length) H:=by
 unfold kLen;dsimp only;rw[h];rfl
def wq{p:Addr}{xs:List V}{y:V}(h:H p=↥xs):mq (.ref p) [y] H Q=(xs.length<sizeLine/\Q .non (upd H p<|.lst<|xs++[y])):=by
 unfold mq;dsimp only;rw[h];rfl
def zW:∀ ns:∅,(ns.map V.int).all flatV=true
 | []=>rfl
 | n::r=>by rw[Pz,Sr,zW r];rfl
def BH(i:Int):∀ ns:∅,inV (.int i) (ns.map V.int)=decide (i∈ns)
 | []=>by simp[inV]
 | n::r=>by
  have a:=BH i r;unfold inV at a ⊢;rw[Pz,Re,a];change((n==i)||decide (i∈r))=decide (i∈n::r);rw[QS,Sz,Q3,PP,PP,Pw];show(λh=>h.elim (λe=>.inl e.symm) .inr,λh=>h.elim (λe=>.inl e.symm) .inr)
def Hh{K:Frag}{p:Addr}{i:Int}{ns:∅}(h:H p=↥(ns.map V.int)):cIn K false (.int i) (.ref p) H Q=Q (.bl<|decide<|i∈ns) H:=by
 unfold cIn;dsimp only;rw[h];dsimp only[unD,unS,bnd];rw[BH,zW];simp[flatV]
end
def  LoopR(J:It)(g:TG)(d:TS)(D:Ends)(σ:St)(e:Hp):Prop:=∃ W:Nat->Nat->St->Hp->Prop,(∃ m,W 0 m σ e)/\∀ i m σ H,W i m σ H->
 (J.stop i H/\D.nx σ H)\/(J.go i H/\∃ N:St->Hp->Prop,(∀ c a,N c a->∃ b,b<m/\W (i+1) b c a)/\∀ x a,J.yld i H x a->g x σ a λf h=>d {D with nx:=N,ct:=N,bk:=D.nx} f h)
def  CompR(J:It)(g:TG)(s:TT)(r:TE)(f:Addr->Hp->Prop)(t:St)(k:Hp):Prop:=∀ l,k l=none->
 ∃ W:Nat->Nat->St->Hp->Prop,(∃ m,W 0 m t<|upd k l<|.lst [])/\∀ i m q d,W i m q d->
  (J.stop i d/\f l d)\/(J.go i d/\∃ N:St->Hp->Prop,(∀ a c,N a c->∃ o,o<m/\W (i+1) o a c)/\∀ x p,J.yld i d x p->g x q p λe u=>s e u λb n=>
   if b=true then r e n λy j=>∃ h,j l=↥h/\h.length<sizeLine/\N e (upd j l<|.lst<|h++[y]) else N e n)
section
variable{K:Frag}{g:TG}{tb:TS}{D:Ends}{σ:St}{H:Hp}{tl:TE}{ta:TA}{ix:List (Option Nat)}{tt:TT}{te:TE}{k:Nat}{Q:VK}
def  cH:tFor (iList K tl) g tb D σ H=tl σ H λx b=>∃ a,x=.ref a/\(∃ xs,SqL K b a xs)/\LoopR (Itl K a) g tb D σ b:=rfl
def  bQ:tFor (mO ta) g tb D σ H=ta σ H λvs a=>∃ j:Int,vs=[.int j]/\ -(2^62)<=j/\j<2^62/\LoopR (Itr 0 j.toNat) g tb D σ a:=rfl
def  bR:tFor (Ei ta) g tb D σ H=ta σ H λvs a=>∃ i j:Int,vs=[.int i,.int j]/\(-(2^62)<=i/\i<2^62/\ -(2^62)<=j/\j<2^62)/\LoopR (Itr i (j-i).toNat) g tb D σ a:=rfl
def  bH:tComp ix (iList K tl) g tt te σ H Q=tl σ H λx b=>∃ a,x=.ref a/\(∃ xs,SqL K b a xs)/\CompR (Itl K a) g tt te (λl c=>Q (.ref l) c) (subσ ix σ) b:=rfl
def  bD:tComp ix (mO ta) g tt te σ H Q=ta σ H λvs a=>∃ j:Int,vs=[.int j]/\ -(2^62)<=j/\j<2^62/\CompR (Itr 0 j.toNat) g tt te (λl b=>Q (.ref l) b) (subσ ix σ) a:=rfl
def  bE:sComp k ix (iList K tl) g tt te D σ H=tl σ H λx b=>∃ a,x=.ref a/\(∃ xs,SqL K b a xs)/\CompR (Itl K a) g tt te (λl c=>D.nx (σ.set k ↑l) c) (subσ ix σ) b:=rfl
def  bt:sComp k ix (mO ta) g tt te D σ H=ta σ H λvs a=>∃ j:Int,vs=[.int j]/\ -(2^62)<=j/\j<2^62/\CompR (Itr 0 j.toNat) g tt te (λl b=>D.nx (σ.set k ↑l) b) (subσ ix σ) a:=rfl
def EB {r:Int} {n:Nat} {f:Addr->Hp->Prop} {q:St} {h:Hp} (a:Addr->Nat->St->Hp->Prop) (h0:∀ l,h l=none->a l 0 q (upd h l<|.lst []))
  (v:∀ l i σ H,h l=none->i<n->a l i σ H->g (.int<|r+i) σ H λj w=>tt j w λb o=>if b=true then te j o λy k=>∃ ys,k l=↥ys/\ys.length<sizeLine/\a l (i+1) j (upd k l<|.lst<|ys++[y]) else a l (i+1) j o)
  (u:∀ l σ H,h l=none->a l n σ H->f l H):CompR (Itr r n) g tt te f q h:=by
 intro l c;show(λi m σ H=>m=n-i/\i<=n/\a l i σ H,(n,by simp,Qg _,h0 l c),?_);rintro i m σ H ⟨rfl,z,p⟩;by_cases d:i<n
 . show .inr (d,a l<|i+1,λA s t=>(n - (i+1),by lia,rfl,d,t),λx s y=>?_);obtain⟨e,y⟩:=y;subst e y;show v l i σ _ c d p
 . have e:i=n:=by lia
   subst e;show .inl (Py _,u l σ H c p)
def mU {a:Addr} {xs:List V} {h:Addr->Hp->Prop} {r:St} {f:Hp} (d:Addr->Nat->St->Hp->Prop) (h0:∀ l,f l=none->d l 0 r (upd f l<|.lst [])) (z:∀ l i σ H,f l=none->i<=xs.length->d l i σ H->SqL K H a xs)
  (w:∀ l i x σ H,f l=none->xs[i]? =some x->d l i σ H->g x σ H λk A=>tt k A λb o=>if b=true then te k o λy n=>∃ ys,n l=↥ys/\ys.length<sizeLine/\d l (i+1) k (upd n l<|.lst<|ys++[y]) else d l (i+1) k o)
  (v:∀ l σ H,f l=none->d l xs.length σ H->h l H):CompR (Itl K a) g tt te h r f:=by
 intro l c;show(λi m σ H=>m=xs.length-i/\i<=xs.length/\d l i σ H,(xs.length,by simp,Qg _,h0 l c),?_);rintro i m σ H ⟨rfl,s,p⟩;have q:=z l i σ H c s p;by_cases j:i<xs.length
 . show .inr ((xs,xs[i],q,by simp[j]),d l<|i+1,λB t u=>(xs.length - (i+1),by lia,rfl,j,u),λx t y=>?_);obtain⟨e,y⟩:=y;subst e;show w l i x σ _ c (y xs q) p
 . have e:i=xs.length:=by lia
   subst e;show .inl ((xs,q,Py _),v l σ H c p)
def Im{p q:Addr}{xs ys:∅}(b:H p=↥(xs.map V.int))(a:H q=↥(ys.map V.int))(h:Q (.bl<|decide<|xs=ys) H):cEq K (.ref p) (.ref q) H Q:=by
 change rEqD K (.ref p) (.ref q) H Q;show(.list<|xs.map PyData.int,.list<|ys.map PyData.int,.lst (Qm b)<|.ints xs,.lst (Qm a)<|.ints ys,vP xs,vP ys,?_);rw[PyData.eqv,Hg];show h
def tF{p:Addr}{xs:List V}(a:H p=↥xs)(h:∀ l,H l=none->Q (.ref l) (upd H l<|.lst xs)):kList [.ref p] H Q:=by
 unfold kList;dsimp only;rw[a];show h
end
def dw{X:Cx}{N:List Str}{ix:List (Option Nat)}{scope:Scope}(h1:scope.kind=.function)(h2:(scope.names.map (·.1)).Nodup)(h3:(scope.names.all λp=>p.2 != .free||isCF (X.env.kindOf p.1))=true)(h4:N=compN scope)(h5:ix=xh X.N scope):BlkOk X N ix scope:=by
 subst h4 h5;show Ko h1 h2 h3
def  kLenS(K:Frag):List V->Hp->VK->Prop:=λxs H Q=>∃ p a,xs=[.ref p]/\(SqL K H p a\/SqT K H p a)/\Q (.int a.length) H
structure Bt(mg:Str->Option Value):Prop where
 len_:mg "len"=none
 abs_:mg "abs"=none
 min_:mg "min"=none
 max_:mg "max"=none
 sorted_:mg "sorted"=none
 any_:mg "any"=none
 isinstance_:mg "isinstance"=none
 list_:mg "list"=none
 int_:mg "int"=none
 bool_:mg "bool"=none
 str_:mg "str"=none
 tuple_:mg "tuple"=none
 reversed_:mg "reversed"=none
 set_:mg "set"=none
 range_:mg "range"=none
 zip_:mg "zip"=none
def Vals.get':∀{xs:List V} {us:List Value} {i:Nat} {u:Value},Vals xs us->us[i]? =some u->∃ x,xs[i]? =some x/\RelV x u
 | _,_,_,_,.nil,h=>by simp at h
 | _,_,0,_,.cons r _,h=>by simp at h;subst h;show(_,rfl,r)
 | _,_,i+1,_,.cons _ t,h=>by
  obtain⟨x,a,r⟩:=Vals.get' (i:=i) t (by simpa using h);show(x,by simpa using a,r)
section
variable{X:Cx}{Pc:List (Addr × Obj)}{σ:St}{H:Hp}{s s':Shared}
def  Inv.kept'(I:Inv X Pc σ H s)(k:∀ b u,s.heap.get? b=some u->s'.heap.get? b=some u)(c:s'.os=s.os)(a:AllBare s'.gens):Inv X Pc σ H s':=
 I.call' (ch:=[]) c (Un.kept k) (I.hok.kept k) a λb z=>absurd z (by simp)
def Inv.walked{l:Addr}{o:Obj}(I:Inv X Pc σ H s)(c:Moved [s.heap.objs.size] (λa b=>b=a) {s with heap:=s.heap.push o} s'):Inv X Pc σ H s':=by
 show I.kept' (λb u e=>c.heap b u (λz=>?_)<|Pu _ e) c.os (by rw[show s'.gens=s.gens from c.gens];show I.bare);have:b=s.heap.objs.size:=by simpa using z
 show absurd (PQ e) (by rw[this];show QM _)
def Kp{h:Heap}{a b:Addr}{o u:Obj}{c d:String}(g:h.get? a=some o)(f:h.get? b=some u)(i:o.cls=.type c)(e:u.cls=.type d)(j:c≠d):a≠b:=by
 rintro rfl;rw[g]at f;cases f;rw[i]at e;cases e;show j rfl
end
open Builtin Builtin.Str
def uZ:∀{ts:List Str} {us:List Value},Vals (ts.map V.str) us->∃ l:List (Str × Tok),us=strValues l/\l.map (·.1)=ts
 | [],_,.nil=>([],rfl,rfl)
 | t::ts,_,.cons r rs=>by
  obtain⟨l,rfl,e⟩:=uZ (ts:=ts) rs;obtain⟨u,rfl⟩:=r;show((t ,u)::l,rfl,by rw[Pz,e])
def zX:∀(l:List (Str × Tok)),Vals ((l.map (·.1)).map V.str) (strValues l)
 | []=>.nil
 | (t ,u)::l=>.cons (u,rfl) (zX l)
section
variable{X:Cx}
def  kJoin:V->List V->Hp->VK->Prop
 | .str sep,[.ref p],H,Q=>bnd (unL<|H p) λys=>∃ ts:List Str,ys=ts.map V.str/\JoinOk sep ts=true/\Q (.str<|Txt.join sep ts) H
 | _,_,_,_=>False
def wr:MtR X "str.join" kJoin:=by
 intro Pc s σ H x vs v y Q I f m h;unfold kJoin at h
 split at h
 . rename_i g p
   obtain⟨n,e,o,rfl,b,q⟩:=cV h;obtain⟨t,rfl⟩:=f;obtain⟨u,rfl,d⟩:=fj m;cases d;obtain⟨w,a,c,r⟩:=I.list<|BC e;obtain⟨l,rfl,i⟩:=uZ a;show SC.join c.isList i b λj k=>(.str _,H,I.tok k,(j,rfl),q)
 . show h.elim
def  kFind:V->List V->Hp->VK->Prop
 | .str x,[.str y],H,Q=>Q (.int<|Txt.find x y) H
 | _,_,_,_=>False
def Hi:MtR X "str.find" kFind:=by
 intro Pc s σ H x vs v e Q I b c h;unfold kFind at h
 split at h
 . obtain⟨t,rfl⟩:=b;obtain⟨u,rfl,a⟩:=fj c;obtain⟨d,rfl⟩:=a;show SC.find (.int _,H,I.tok _,(_,rfl),h)
 . show h.elim
def  iC:V->List V->Hp->VK->Prop
 | .str x,[.str y],H,Q=>(y.length==0)=false/\x.length<=sizeLine/\(Txt.split x y).length<=sizeLine/\∀ l,H l=none->Q (.ref l) (upd H l<|.lst<|(Txt.split x y).map V.str)
 | _,_,_,_=>False
def gI:MtR X "str.split" iC:=by
 intro Pc s σ H x vs v o Q I j n h;unfold iC at h
 split at h
 . rename_i x y
   obtain⟨t,rfl⟩:=j;obtain⟨u,rfl,i⟩:=fj n;obtain⟨c,rfl⟩:=i;obtain⟨g,m,f,q⟩:=h
   have a:∀(l:List (Str × Tok)) (k:Nat),l.map (·.1)=Txt.split x y->EP X Pc σ Q (.ref s.heap.objs.size) {s with heap:=s.heap.push {cls:=.type "list",data:=.seq (strValues l).toArray},toks:=k}:=λl k e=>by
    show(.ref s.heap.objs.size,_,I.lnew (t':=k) (ys:=(Txt.split x y).map V.str) (Pf:=strValues l) ?_ (by rw[Pj];show f),rfl,q _ I.fresh);rw[← e];show zX l
   cases h1:(decide (x.length<y.length)||decide (strKind x<strKind y))
   . cases b:(occurrences x y 0 x.length<|x.length+1).isEmpty
     . have d:Txt.split x y=partsBetween x (occurrences x y 0 x.length<|x.length+1) y.length:=(PF<|SG h1).trans<|PF<|SG b;show RO S9 (So _ _ _) S2 (SQ _ _) (meets_str_split_sep x y t c h1 g b m (by rw[← d];show f)) ?_;change wants _ _ _ {s with toks:=_,heap:=s.heap.push {cls:=.type "list",data:=.seq (strsFrom s.toks<|partsBetween x (occurrences x y 0 x.length<|x.length+1) y.length).toArray}};rw[strsFrom_eq];show a (numbered s.toks _) _ ((numbered_texts _ _).trans d.symm)
     . show RO S9 (So _ _ _) S2 (SQ _ _) (meets_str_split_not_found x y t c h1 g b)
        (a [(x ,t)] s.toks ((PF<|SG h1).trans<|PK b).symm)
   . show RO S9 (So _ _ _) S2 (SQ _ _) (meets_str_split_cannot_occur x y t c h1)
      (a [(x ,t)] s.toks (PK h1).symm)
 . show h.elim
def  lz:V->Option Int->Option Int->Hp->VK->Prop
 | .ref p,lo,hi,H,Q=>cSl (.ref p) lo hi H Q
 | .str z,lo,hi,H,Q=>z.length<=sizeLine/\Q (.str<|Txt.slice z lo hi) H
 | _,_,_,_,_=>False
def nR:SlR X lz:=by
 intro Pc s σ H x v A w f d y Q I n b r m h
 cases x with
 | ref p=>show LY Pc s σ H _ v A w f d y Q I n b r m h
 | str z=>
  obtain⟨c,q⟩:=(show z.length<=sizeLine/\Q (.str<|Txt.slice z f d) H from h);obtain⟨t,rfl⟩:=n;have a:∀ g k,EP X Pc σ Q (.str (Txt.slice z f d) g) {s with toks:=k}:=λg k=>(.str _,H,I.tok k,(g,rfl),q);show("str",_,F.slot_str_getitem.lookup,So _ _ _,?_)
  cases r with
  | none=>
   cases m with
   | none=>show Rh (l:=none) (u:=none) (st:=none) b rfl (SA (Pk (Ti z _ _) c,a))
   | int j e=>show Rh (l:=none) (u:=some (j ,e)) (st:=none) b rfl (SA (Pk (Ti z _ _) c,a))
  | int i o=>
   cases m with
   | none=>show Rh (l:=some (i ,o)) (u:=none) (st:=none) b rfl (SA (Pk (Ti z _ _) c,a))
   | int j e=>show Rh (l:=some (i ,o)) (u:=some (j ,e)) (st:=none) b rfl (SA (Pk (Ti z _ _) c,a))
 | _=>show False.elim h
def  Its(x:Str):It:=(λi _=>i<x.cps.size,λi H v a=>a=H/\∃ c,x.cps[i]? =some c/\v=.str ⟨#[c]⟩,λi _=>x.cps.size<=i)
def  BI {P:Program} {w:World} {K:Frag} {Y:Expr} {x:Str} {t:Tok} (it:Addr) (l:String) (p:["enumerate","zip","dict_itemiterator","dict_reverseitemiterator","odict_iterator","itertools.zip_longest","itertools.pairwise"].contains l=false)
  (W:∀ A:Around,A.handled=none->Walks P w A it [it] [it] x.cps.size (SignAt x) (λi h=>h.IsStrIter it l x t i))
  (y:∀(A:Around) (i:Nat) (s:Shared) (Q:Value->Shared->Prop) (E:Value->Shared->Prop),s.heap.IsStrIter it l x t i->Q (.ref it) s->wpAny (model P w) A (pyIter<|.ref it) Q E s):
  Turn P w K Y (Its x) [it] it (λi h=>i<=x.cps.size/\h.IsStrIter it l x t i) where
 mem:=by simp
 obj:=λi h a b f=>by
  have e:b=it:=by simpa using f
  subst e;obtain⟨_,o,e,c,d⟩:=a;show(o,e,λv z=>by rw[d]at z;cases z)
 keep:=λi h n a k=>by
  obtain⟨hi,o,e,c,d⟩:=a;show(hi,o,k it (by simp) o e,c,d)
 item:=by
  intro X J B C R i Pc s σ H E I m a r;subst J B C;obtain⟨S,D,U,M,G,q⟩:=m it (by simp);have j:i<x.cps.size:=r;show(W X.A<|I.ok.hd R).item i s _ _ j a.2 λv n F Z g L=>?_;obtain⟨c,u,N,rfl⟩:=Z;have I1:Inv X Pc σ H {s with heap:=n,toks:=F}:=I.turned (λb o f e=>L b o (by simpa using f) e) S D M G q;obtain⟨o,e,T,d⟩:=id g;show(_,rfl,Bh (s:={s with heap:=n,toks:=F}) e T d p (.str ⟨#[c]⟩,H,I1,(u,rfl),(rfl,c,N,rfl),(j,g),λb f=>(m b f).1))
 done:=by
  intro X J B C R i Pc s σ H E I m a r;subst J B C;obtain⟨S,D,U,M,G,q⟩:=m it (by simp);have O:x.cps.size<=i:=r;have e:i=x.cps.size:=Nat.le_antisymm a.1 O;subst e;show(W X.A<|I.ok.hd R).done s _ _ a.2 λn F L=>(rfl,I.turned (λb o f e=>L b o (by simpa using f) e) S D M G q)
 self:=λA i s Q E a h=>y A i s Q E a.2 h
def  iStr(a:TE):TI:=λσ H R=>a σ H λx b=>∃ z,x=.str z/\R (Its z) b
def BJ{p l:Expr}{n:TE}(w:PE X l n):PI X p l (iStr n):=by
 intro Pc s σ H R I h;show thn (w Pc s σ H _ I h) λv a ⟨x,g,d,B,r⟩=>?_;obtain⟨z,rfl,q⟩:=r;obtain⟨t,rfl⟩:=B
 have c:∀ b∈[a.heap.objs.size],FpOk X Pc g b:=λb u=>by
  have e:b=a.heap.objs.size:=by simpa using u
  subst e;show d.fpOk (Py _) (d.hok.fresh<|Py _)
 cases m:z.cps.all (· < 128)
 . show wpAny_pyIter_wide m (a.heap.objs.size,[a.heap.objs.size],_,Its z,g,rfl,d.kept (t':=a.toks) λb o e=>Pu _ e,BI (t:=t) _ "str_iterator" #[1] (λy f=>Walks.strWide f _ z t) (λA i s Q E k j=>wpAny_pyIter_striter_wide k j),(Qg _,_,Qa _ rfl,rfl,rfl),c,q)
 . show wpAny_pyIter_ascii m (a.heap.objs.size,[a.heap.objs.size],_,Its z,g,rfl,d.kept (t':=a.toks) λb o e=>Pu _ e,BI (t:=t) _ "str_ascii_iterator" #[1] (λy f=>Walks.strAscii f _ z t) (λA i s Q E k j=>wpAny_pyIter_striter_ascii k j),(Qg _,_,Qa _ rfl,rfl,rfl),c,q)
end
section
variable{K:Frag}{g:TG}{tb:TS}{D:Ends}{σ:St}{H:Hp}{tl:TE}{ix:List (Option Nat)}{tt:TT}{te ta:TE}{k:Nat}{Q:VK}
def  gE{r:V->Option Int->Option Int->Hp->VK->Prop}{a b:TO}:tSl r te a b σ H Q=te σ H λx c=>a σ c λl d=>b σ d λu e=>r x l u e Q:=rfl
def  cI{R:Option Int->Hp->Prop}:tPart te σ H R=te σ H λx a=>∃ i,x=.int i/\R (some i) a:=rfl
def  bF{R:Option Int->Hp->Prop}:jk σ H R=R none H:=rfl
def  cJ{a b:TE}{t:TSet}{v:V}{R:St->Hp->Prop}:gSub a b t v σ H R=a σ H λo c=>b σ c λi d=>t o i v d λe=>R σ e:=rfl
def  gF{r:V->Hp->VK->Prop}:tUn r te σ H Q=te σ H λx a=>r x a Q:=rfl
def  cK:tFor (iStr tl) g tb D σ H=tl σ H λx a=>∃ z,x=.str z/\LoopR (Its z) g tb D σ a:=rfl
def  bS:tComp ix (iStr tl) g tt te σ H Q=tl σ H λx a=>∃ z,x=.str z/\CompR (Its z) g tt te (λl b=>Q (.ref l) b) (subσ ix σ) a:=rfl
def  bG:sComp k ix (iStr tl) g tt te D σ H=tl σ H λx a=>∃ z,x=.str z/\CompR (Its z) g tt te (λl b=>D.nx (σ.set k ↑l) b) (subσ ix σ) a:=rfl
def  dg{x:Str}:tyV K "str" (.str x) H:=rfl
def  dZ{i j:Str}:cEq K (.str i) (.str j) H Q=Q (.bl<|decide<|i=j) H:=rfl
def  ee{i j:Str}:cNe K (.str i) (.str j) H Q=Q (.bl<|!decide (i=j)) H:=rfl
def  cL{z:Str}:kLen [.str z] H Q=(z.length<=sizeLine/\Q (.int z.length) H):=rfl
def  cw{i j:Str}:cAdd (.str i) (.str j) H Q=(i.length+j.length<=sizeLine/\Q (.str<|i++j) H):=rfl
def  EC{z:Str}{i:Int}:cIx (.str z) (.int i) H Q=(z.length<=sizeLine/\bnd (atI z.cps.toList i) λc=>Q (.str ⟨#[c]⟩) H):=rfl
def  cM{x y:Str}:kFind (.str x) [.str y] H Q=Q (.int<|Txt.find x y) H:=rfl
def  jW{x y:Str}:iC (.str x) [.str y] H Q=((y.length==0)=false/\x.length<=sizeLine/\(Txt.split x y).length<=sizeLine/\∀ l,H l=none->Q (.ref l) (upd H l<|.lst<|(Txt.split x y).map V.str)):=rfl
def BK{a:Str}{p:Addr}{ts:List Str}(c:H p=↥(ts.map V.str))(b:JoinOk a ts=true)(h:Q (.str<|Txt.join a ts) H):kJoin (.str a) [.ref p] H Q:=by
 unfold kJoin;dsimp only;rw[c];show(ts,rfl,b,h)
def xi{p:Addr}{a b:Option Int}{xs:List V}(c:H p=↥xs)(h:∀ l,H l=none->Q (.ref l) (upd H l<|.lst<|cutV xs a b)):lz (.ref p) a b H Q:=by
 change bnd (unL<|H p) _;rw[c];show h
end
def  cBitI(g:Int->Int->Int):R2
 | .int i,.int j,H,Q=>Q (.int<|g i j) H
 | _,_,_,_=>False
def  cShr:R2
 | .int i,.int j,H,Q=>0<=j/\Q (.int<|i/2^j.toNat) H
 | _,_,_,_=>False
section
variable{X:Cx}
def IN:OpR X (binaryOp .RShift) cShr:=by
 intro Pc s σ H x y v u Q I b a h;unfold cShr at h
 split at h
 . show Kb Pc s σ H _ _ v u Q I b a (_,_,rfl,rfl,h.1,h.2)
 . show h.elim
end
section
variable{H:Hp}{Q:VK}{i j:Int}
def  ei{g:Int->Int->Int}:cBitI g (.int i) (.int j) H Q=Q (.int<|g i j) H:=rfl
def  gk:cShr (.int i) (.int j) H Q=(0<=j/\Q (.int<|i/2^j.toNat) H):=rfl
end
section
variable{X:Cx}
def  kInt:List V->Hp->VK->Prop
 | [.int i],H,Q=>Q (.int i) H
 | [.bl k],H,Q=>Q (.int (if k then 1 else 0)) H
 | _,_,_=>False
def  u6:V->List V->Hp->VK->Prop
 | .int i,[],H,Q=>Q (.int (Builtin.Int.intBits i:Nat)) H
 | _,_,_,_=>False
def ED:MtR X "int.bit_length" u6:=by
 intro Pc s σ H x vs v c Q I b a h;unfold u6 at h
 split at h
 . obtain⟨t,rfl⟩:=b;cases a;show call_int_bit_length (.int _,H,I.tok _,(_,rfl),h)
 . show h.elim
def  cRepL:R2
 | .ref l,.int k,H,Q=>bnd (unM<|H l) λxs=> -(2^63)<=k/\k<2^63/\xs.length*k.toNat<=sizeLine/\∀ p,H p=none->Q (.ref p) (upd H p<|.lst (List.replicate k.toNat xs).flatten)
 | _,_,_,_=>False
def rn:OpR X (binaryOp .Mult) cRepL:=by
 intro Pc s σ H x y v u Q I b a h;unfold cRepL at h
 split at h
 . obtain⟨xs,e,h1,h2,h3,q⟩:=cV h;show Ki Pc s σ H _ _ v u Q I b a (_,_,xs,rfl,rfl,og e,h1,h2,h3,q)
 . show h.elim
def  kAll:List V->Hp->VK->Prop
 | [.ref p],H,Q=>bnd (unL<|H p) λys=>∃ bs:List Bool,ys=bs.map V.bl/\Q (.bl<|bs.all id) H
 | _,_,_=>False
def FV(bs:List Bool):(List.range bs.length).all (λi=>bs.getD i false)=bs.all id:=by
 rw[QS,PL,PL];constructor
 . intro h b d;obtain⟨i,c,e⟩:=Ry.mp d;have:=h i<|Qk.mpr c;rw[List.getD,Px c,e]at this;show this
 . intro h i c;have a:i<bs.length:=Qk.mp c;have:=h bs[i] (Ta a)
   simpa [List.getD,a] using this
def xj:bootBuiltins "all"=some (.builtin "all"):=by decide+kernel
def pj(C:X.calm=true):CallR X (.builtin "all") kAll:=by
 intro Pc s σ H xs G Q I r h;unfold kAll at h
 split at h
 . rename_i p
   obtain⟨D,e,c,rfl,q⟩:=cV h;obtain⟨u,rfl,k⟩:=fj r;cases k;obtain⟨a,g,f,E⟩:=I.list<|BC e;have j:=g.length;rw[Pj]at j
   have d:p<s.heap.objs.size:=by
    obtain⟨o,h1,_⟩:=f.isList;show PQ h1
   show call_all_walkS<|wpAny_pyIter_list f.isList ?_;show(s.heap.objs.size,_,_,_,a.toArray.size,_,_,λi=>c.getD i false,rfl,(Walks.list (A:=X.A.in1) (I.ok.hd C) s.heap.objs.size p (P5 d) a.toArray).toS,((_,Qa _ rfl,rfl,rfl),f.isList.push _),?_,λK y=>?_)
   . intro i v J F L w t;have n:a[i]? =some v:=by simpa using w
     obtain⟨x,B,m⟩:=g.get' n;obtain⟨b,hb,rfl⟩:∃ b,c[i]? =some b/\V.bl b=x:=by simpa using B
     cases m;show QW ?_;have z:c.getD i false=b:=by simp[List.getD,hb]
     rw[← z];show t
   . show(.bl _,H,I.walked (l:=p) y,?_,q);have e2:a.toArray.size=c.length:=by rw[PY];show j.symm
     rw[e2,FV];rfl
 . show h.elim
def  Itd(b:Int)(n:Nat):It:=(λi _=>i<n,λi H x a=>a=H/\x=.int (b-i),λi _=>n<=i)
def  iRngD(a:TA):TI:=λσ H R=>a σ H λvs b=>∃ i j:Int,vs=[.int i,.int j,.int<|-1]/\(-(2^60)<=i/\i<2^60/\ -(2^60)<=j/\j<2^60)/\R (Itd i (i-j).toNat) b
end
section
variable{K:Frag}{g:TG}{tb:TS}{D:Ends}{σ:St}{H:Hp}{ta:TA}{Q:VK}
def  eC{k:Bool}:kInt [.bl k] H Q=Q (.int (if k then 1 else 0)) H:=rfl
def  eE{i:Int}:kInt [.int i] H Q=Q (.int i) H:=rfl
def  bX{i:Int}:u6 (.int i) [] H Q=Q (.int (Builtin.Int.intBits i:Nat)) H:=rfl
def Bj{p:Addr}{bs:List Bool}(b:H p=↥(bs.map V.bl))(h:Q (.bl<|bs.all id) H):kAll [.ref p] H Q:=by
 change bnd (unL<|H p) _;rw[b];show bV (a:=bs.map V.bl) rfl (bs,rfl,h)
def xk{p:Addr}{xs:List V}{k:Int}(c:H p=↥xs)(h0:0<=k)(h1:k<=1000)(b:xs.length<=1)(h:∀ l,H l=none->Q (.ref l) (upd H l<|.lst (List.replicate k.toNat xs).flatten)):cRepL (.ref p) (.int k) H Q:=by
 change bnd (unM<|H p) _;rw[c];show bV (a:=xs) rfl (by lia,by lia,?_,h);show Qd<|aZ<|Pk (Sv _ b) ?_;lia
def  cR:tFor (iRngD ta) g tb D σ H=ta σ H λvs a=>∃ i j:Int,vs=[.int i,.int j,.int<|-1]/\(-(2^60)<=i/\i<2^60/\ -(2^60)<=j/\j<2^60)/\LoopR (Itd i (i-j).toNat) g tb D σ a:=rfl
end
section
variable{X:Cx}
def  Ite(K:Frag)(a:Addr):It:=
 (λi H=>∃ xs x,SqL K H a xs/\xs[i]? =some x,
  λi H v b=>∃ T x,v=.ref T/\H T=none/\b=upd H T (.tup [.int i,x])/\∀ xs,SqL K H a xs->xs[i]? =some x,
  λi H=>∃ xs,SqL K H a xs/\xs.length<=i)
def  ESt(a e it:Addr)(i:Nat)(h:Heap):Prop:=(∃ b,IsEnum h e it i b)/\h.IsListIter it a i
def  FW{P:Program}{w:World}{K:Frag}{es:List Expr}{x1:Nat}{pos:Pos}(a e it:Addr):
  Turn P w K (.Tuple es x1 pos) (Ite K a) [e,it] e (ESt a e it) where
 mem:=by simp
 obj:=λi h m c f=>by
  obtain⟨⟨l,j⟩,⟨L,e1,G,A⟩⟩:=m;simp only[Pw,Qf,Ra]at f;rcases f with rfl | rfl
  . show(_,j,λv z=>by have z':Data.fields _=Data.cell v:=z;cases z')
  . show(_,e1,λv z=>by rw[A]at z;cases z)
 keep:=λi h h' m k=>by
  obtain⟨⟨l,j⟩,h1⟩:=m;show((l,k e (by simp) _ j),h1.at λo q=>k it (by simp) o q)
 item:=by
  intro X hP T W f i Pc s σ H E I D m Q;subst hP T W;obtain⟨xs,x,p,r⟩:=Q;obtain⟨t,y,R,aa⟩:=I.list p;obtain⟨u1,ad,ae⟩:=y.get r;obtain⟨⟨l,j⟩,⟨L,e1,G,A⟩⟩:=id m;have F:e≠it:=Kp j e1 rfl G #[1];show wpAny_pyNext_enum_item j (L,e1,G,A) R.isList (x:=u1) (by simpa using ad) F λh' a1 a2 a3 a4 hk=>?_;show(_,rfl,wpAny_letOwnedTupleGo_enum a1 λh2 S U=>?_);have B:H s.heap.objs.size=none:=I.fresh;have lt:∀{c o},s.heap.get? c=some o->c≠s.heap.objs.size:=λe=>P5 (PQ e)
  have M:∀ c o,c∉[e,it]->s.heap.get? c=some o->h2.get? c=some o:=λc o f q=>by
   simp only[Pw,Qf,Ra,not_or]at f;show U.extBut _ _ f.1 (hk c o f.1 f.2 q)
  have Z:s.heap.objs.size≠e:=(lt j).symm;have gT:h2.get? s.heap.objs.size=some {cls:=.type "tuple",data:=.seq #[.int i s.toks,u1]}:=U.extBut _ _ Z a3;have nH:∀ c∈[e,it],H c=none:=λc f=>(D c f).1;show(.ref s.heap.objs.size,upd H s.heap.objs.size<|.tup [.int i,x],I.call' (s':={s with heap:=h2,toks:=s.toks+1}) (ch:=[e,it]) rfl (λc o e n _ r=>M c o r e,λc o e n _ r=>(o.slots,M c o r e),λc o e n _=>by rw[ao<|lt e];show n,λc o e r=>(o,M c o r e),λc xs e=>by rw[ao<|aI e B];show e,λc o u e=>by rw[ao<|aI e B];show e,λc ps e=>(#[],by rw[ao<|aI e B,e];simp)) ?_ I.bare ?_,rfl,(_,x,rfl,B,rfl,λzs af=>by rw[I.list_inj af p];show r),?_,?_)
  . intro c ob e;by_cases N:c=s.heap.objs.size
    . subst N;rw[ak]at e;cases e;show(by change(2:Nat)<=sizeLine;show Qd<|aZ #[1],[.int i s.toks,u1],.cons (_,rfl)<|.cons ae .nil,(_,gT,rfl,_,rfl))
    . rw[ao N]at e;show(I.hok c ob e).stay (λd w' J g=>M d w' ?_ g) (λd g=>by rw[ao<|aI g B];show g) λd xs g=>by rw[ao<|aI g B];show g
      intro hm;rcases J with rfl | J
      . rw[nH _ hm]at e;cases e
      . rw[nH _ hm]at J;cases J
  . intro c f;obtain⟨f0,A,f2,f3,Y,O⟩:=D c f;show(f3,A,Y,O)
  . show((_,S),a2.extBut U.extBut F.symm)
  . intro c f
    obtain⟨o,q⟩:∃ o,s.heap.get? c=some o:=by
     simp only[Pw,Qf,Ra]at f;rcases f with rfl | rfl
     . show(_,j)
     . show(_,e1)
    rw[ao<|lt q];show(D c f).1
 done:=by
  intro X hP T W f i Pc s σ H E I D m Q;subst hP T W;obtain⟨xs,p,r⟩:=Q;obtain⟨t,y,R,aa⟩:=I.list p;have ag:=y.length;obtain⟨⟨l,j⟩,⟨L,e1,G,A⟩⟩:=id m;have C:t.toArray[i]? =none:=by simp;omega
  obtain⟨f0,ab,f2,f3,Y,O⟩:=D it (by simp);show wpAny_pyNext_enum_end (I.ok.hd f) j (L,e1,G,A) R.isList C λh' eb=>(rfl,I.turned (t':=s.toks) (λb o N e=>eb b o N e) f0 ab f3 Y O)
 self:=λ_ _ _ _ _ m h=>by
  obtain⟨⟨l,j⟩,_⟩:=m;show wpAny_pyIter_enum j h
def  iEnum(K:Frag)(c:TA):TI:=λσ H R=>c σ H λvs b=>∃ a,vs=[.ref a]/\(∃ xs,SqL K b a xs)/\R (Ite K a) b
def BL:bootBuiltins "enumerate"=some (.type "enumerate"):=by decide+kernel
def  yS{B:List Expr}{E:Nat}{e:Pos}{e1:Expr}{j:TA}{p pos:Pos}(r:Gl X "enumerate")(y:X.mg "enumerate"=none)(o:PA X [e1] j)(C:starEach [e1] X.env=[(false ,eval e1 X.env)]:=by rfl):
  PI X (.Tuple B E e) (.Call (.Name "enumerate" p) [e1] [] pos) (iEnum X.K j):=by
 intro Pc s σ H R I h;show Call_<|lx I r y BL<|QF (thn (o pos Pc s σ H _ I h) λG b ⟨vs,l,f,F,A⟩=>?_) C rfl;obtain⟨a,rfl,⟨xs,g⟩,q⟩:=A;obtain⟨L,rfl,i⟩:=fj F;cases i;obtain⟨n,u,t,x⟩:=f.list g;show call_enumerate_list t.isList λw k v J z=>?_;show wpAny_pyIter_enum k ?_;have D:Inv X Pc σ l {b with heap:=w,toks:=b.toks}:=f.kept z;show(b.heap.objs.size+1,[b.heap.objs.size+1,b.heap.objs.size],ESt a (b.heap.objs.size+1) b.heap.objs.size,Ite X.K a,l,rfl,D,FW a (b.heap.objs.size+1) b.heap.objs.size,((_,k),v),λc m=>?_,q)
 have d:b.heap.objs.size<=c:=by
  simp only[Pw,Qf,Ra]at m;rcases m with rfl | rfl <;> omega
 show f.fpOk d (f.hok.fresh d)
end
section
variable{K:Frag}{g:TG}{tb:TS}{D:Ends}{σ:St}{H:Hp}{ta:TA}{Q:VK}{ix:List (Option Nat)}{tt:TT}{te:TE}{k:Nat}
def  eJ:tFor (iEnum K ta) g tb D σ H=ta σ H λvs b=>∃ a,vs=[.ref a]/\(∃ xs,SqL K b a xs)/\LoopR (Ite K a) g tb D σ b:=rfl
def  cS:tComp ix (iEnum K ta) g tt te σ H Q=ta σ H λvs b=>∃ a,vs=[.ref a]/\(∃ xs,SqL K b a xs)/\CompR (Ite K a) g tt te (λl c=>Q (.ref l) c) (subσ ix σ) b:=rfl
def  bY:sComp k ix (iEnum K ta) g tt te D σ H=ta σ H λvs b=>∃ a,vs=[.ref a]/\(∃ xs,SqL K b a xs)/\CompR (Ite K a) g tt te (λl c=>D.nx (σ.set k ↑l) c) (subσ ix σ) b:=rfl
def FX {a:Addr} {xs:List V} {h:Addr->Hp->Prop} {r:St} {f:Hp} (d:Addr->Nat->St->Hp->Prop) (h0:∀ l,f l=none->d l 0 r (upd f l<|.lst [])) (B:∀ l i σ H,f l=none->i<=xs.length->d l i σ H->SqL K H a xs)
  (A:∀ l i x T σ H,f l=none->xs[i]? =some x->d l i σ H->H T=none->g (.ref T) σ (upd H T<|.tup [.int i,x]) λk C=>tt k C λb o=>if b=true then te k o λy n=>∃ ys,n l=↥ys/\ys.length<sizeLine/\d l (i+1) k (upd n l<|.lst<|ys++[y]) else d l (i+1) k o)
  (z:∀ l σ H,f l=none->d l xs.length σ H->h l H):CompR (Ite K a) g tt te h r f:=by
 intro l c;show(λi m σ H=>m=xs.length-i/\i<=xs.length/\d l i σ H,(xs.length,by simp,Qg _,h0 l c),?_);rintro i m σ H ⟨rfl,t,p⟩;have q:=B l i σ H c t p;by_cases j:i<xs.length
 . show .inr ((xs,xs[i],q,by simp[j]),d l<|i+1,λD u w=>(xs.length - (i+1),by lia,rfl,j,w),λv u y=>?_);obtain⟨T,x,rfl,s,rfl,e⟩:=y;show A l i x T σ _ c (e xs q) p s
 . have e:i=xs.length:=by lia
   subst e;show .inl ((xs,q,Py _),z l σ H c p)
def EE {a:Addr} {xs:List V} {j:Addr->Hp->Prop} {g:St} {c:Hp} {k1 k2:Nat} (b:Nat->Bool) (f:Nat->V) (P:xs.length<=900) (k:k1≠k2) (N:SqL K c a xs)
  (F:∀(i:Nat) x H R,xs[i]? =some x->Same c H->(∀ m,Same H m->R (b i) m)->tt ((g.set k1 ⇑(i:Int)).set k2<|some x) H R)
  (D:∀(i:Nat) x H Q,xs[i]? =some x->b i=true->Same c H->(∀ m,Same H m->Q (f i) m)->te ((g.set k1 ⇑(i:Int)).set k2<|some x) H Q)
  (G:∀ l H,c l=none->Same c H->H l=↥(((List.range xs.length).filter b).map f)->j l H):
  CompR (Ite K a) (gTup K 2<|gCons (gName k1)<|gCons (gName k2) gNil) tt te j g c:=by
 show FX (xs:=xs) (λl i σ H=>(σ=g\/∃ C y,σ=(g.set k1 C).set k2 y)/\Same c H/\H l=↥(((List.range i).filter b).map f)) (λl n=>(.inl rfl,λb u e=>by rw[ao<|aI e n];show e,by rw[ak];rfl)) (λl i σ H _ _ p=>p.2.1.seq N) ?_<|λl σ H n p=>G l H n p.2.1 p.2.2;rintro l i x T σ H n t ⟨O,z,M⟩ J;have L:i<xs.length:=(Ps.mp t).1;have v:Same H (upd H T<|.tup [.int i,x]):=λb u e=>by rw[ao<|aI e J];show e
 show(T,_,rfl,TH ak,rfl,_,_,rfl,_,_,rfl,rfl,?_)
 have e:(σ.set k1 ⇑i).set k2 (some x)=(g.set k1 ⇑i).set k2 (some x):=by
  rcases O with rfl | ⟨C,y,rfl⟩
  . rfl
  . rw[List.set_comm _ _<|Rt k,Rn,Rn,List.set_comm _ _ k]
 change tt ((σ.set k1 ⇑i).set k2<|some x) _ _;rw[e];show F i x _ _ t (z.trans v) λE A=>?_;have h:=A _ _<|v _ _ M;have d:=(z.trans v).trans A;have r:∀{q:Hp} {o:HO},Same c q->Same c (upd q l o):=λs b u e=>by rw[ao<|aI e n];show s b u e
 have I:∀ i,i<=900->(((List.range i).filter b).map f).length<sizeLine:=λi L=>by
  rw[Pj];show aZ<|Pk (Rq b _) ?_;rw[Sb];lia
 cases w:b i with
 | false=>
  rw[PF Pt];show(.inr (_,_,rfl),d,?_);rw[QP,QH,QC,w]
  simpa using h
 | true=>
  rw[PK rfl];show D i x E _ t w d λq B=>(_,B _ _ h,I i #[4],.inr (_,_,rfl),r<|d.trans B,?_);rw[ak,QP,QH,QC,w];simp
end
def  rngL(i j:Int):∅:=(List.range (j-i).toNat).map λ(k:Nat)=>i+(k:Int)
def wt(i j:Int):(rngL i j).length=(j-i).toNat:=by unfold rngL;simp
def vQ:∀{xs:List V} {us:List Value},xs.length=us.length->(∀(i:Nat) x u,xs[i]? =some x->us[i]? =some u->RelV x u)->Vals xs us
 | [],[],_,_=>.nil
 | [],_::_,h,_=>by simp at h
 | _::_,[],h,_=>by simp at h
 | x::xs,u::us,h,f=>.cons (f 0 x u rfl rfl) (vQ (by simpa using h) λi y e h1 h2=>f (i+1) y e (by simpa using h1) (by simpa using h2))
def Hj{i j:Int}{b:Array Value}(h:ItemsOf (λk v=>∃ t,v=.int (i+k*1) t) b (j-i).toNat):Vals ((rngL i j).map V.int) b.toList:=by
 show vQ (by rw[Pj,wt,SB];show h.1.symm) λk x u a d=>?_;obtain⟨t,rfl⟩:=h.2 k u (by simpa using d);unfold rngL at a;rw[P8,Pp]at a;by_cases c:k < (j-i).toNat
 . rw[QE c]at a;cases a;show(t,by rw[Int.mul_one])
 . rw[PX (by simpa using c)]at a;cases a
section
variable{X:Cx}
def  tG(b:TA):TE:=λσ H Q=>b σ H λvs a=>∃ j:Int,vs=[.int j]/\ -(2^60)<=j/\j<=1000/\∀ l,a l=none->Q (.ref l) (upd a l<|.lst<|(rngL 0 j).map V.int)
def  FY(b:TA):TE:=λσ H Q=>b σ H λvs a=>∃ i j:Int,vs=[.int i,.int j]/\(0<=i/\i<=1000/\ -(2^60)<=j/\j<=1000)/\∀ l,a l=none->Q (.ref l) (upd a l<|.lst<|(rngL i j).map V.int)
def Hk {Pc:List (Addr × Obj)} {σ:St} {f:Hp} {a:Shared} {Q:VK} {i j:Int} {t u v:Tok} {p:Nat} {A:Around} {E:Value->Shared->Prop} (r:A.handled=none) (y:Inv X Pc σ f a) (h1:0<=i) (h2:i<=1000) (h3: -(2^60)<=j) (h4:j<=1000)
  (q:∀ l,f l=none->Q (.ref l) (upd f l<|.lst<|(rngL i j).map V.int)):
  wpAny (model X.prog X.w) A (call (.type "list") [.ref a.heap.objs.size]) (EP X Pc σ Q) E {a with heap:=a.heap.push {cls:=.type "range",data:=.fields #[.int i t,.int j u,.int 1 v]},toks:=p}:=by
 have m:Inv X Pc σ f {a with heap:=a.heap.push {cls:=.type "range",data:=.fields #[.int i t,.int j u,.int 1 v]},toks:=p}:=y.kept λb o e=>Pu _ e;show call_list_range (n:=(j-i).toNat) r (IsRange.new ..) (small_one #[4] #[4] #[4] #[4]) (by rw[rangeSize_one];split <;> lia) #[4] λz k c s g h d=>?_;have x:((rngL i j).map V.int).length<=sizeLine:=by rw[Pj,wt];show Qd (aZ #[4])
 show(.ref _,_,m.laid (t':=k) (o:=.lst ((rngL i j).map V.int)) g (Py _) (x,c.toList,s,Hj d,h),rfl,q _<|m.hok.fresh<|Py _)
def C3 {a:Expr} {k:TA} {p d pos b:Pos} (v:X.calm=true) (g:Gl X "list") (f:Gl X "range") (n:X.mg "list"=none) (w:X.mg "range"=none) (l:PA X [a] k)
  (c:starEach [.Call (.Name "range" d) [a] [] b] X.env=[(false ,eval (.Call (.Name "range" d) [a] [] b) X.env)]:=by rfl) (o:starEach [a] X.env=[(false ,eval a X.env)]:=by rfl):
  PE X (.Call (.Name "list" p) [.Call (.Name "range" d) [a] [] b] [] pos) (tG k):=by
 intro Pc s σ H Q I h;show Qz<|lx I g n jm ?_ #[1] #[1];show QF ?_ c rfl;rw[c];change wpAny _ _ (spliced [(false ,eval (.Call (.Name "range" d) [a] [] b) X.env)]) _ _ s;show Rm ?_;show Call_<|lx I f w boot_range<|QF (thn (l b Pc s σ H _ I h) λz A ⟨vs,B,y,x,i⟩=>?_) o rfl;obtain⟨j,e,i,u,q⟩:=i;subst e
 cases x with
 | cons r m=>
  cases m;obtain⟨t,rfl⟩:=r;show call_range_1 ?_;show Ru ?_;show Hk (I.ok.hd v) y #[4] #[4] i u q
end
section
variable{σ:St}{H:Hp}{Q:VK}{ta:TA}
def  cT:tG ta σ H Q=ta σ H λvs a=>∃ j:Int,vs=[.int j]/\ -(2^60)<=j/\j<=1000/\∀ l,a l=none->Q (.ref l) (upd a l<|.lst<|(rngL 0 j).map V.int):=rfl
def  cU:FY ta σ H Q=ta σ H λvs a=>∃ i j:Int,vs=[.int i,.int j]/\(0<=i/\i<=1000/\ -(2^60)<=j/\j<=1000)/\∀ l,a l=none->Q (.ref l) (upd a l<|.lst<|(rngL i j).map V.int):=rfl
end
end L2
namespace L2
end L2
namespace L2
open PySem PySem.Spec PyProof.Rows
def   wk9(t:String):Lean.MacroM Lean.Syntax:=do
 let x<-(t.splitOn " ").toArray.mapM λs=>`(Lean.Parser.Tactic.simpLemma|$(Lean.mkIdent s.toName):term)
 `(tactic|(first|simp only[$x,*]|dsimp only|skip))
def   ws1:String:="aB cy bg aH cq cr w_c fK cp cz cu cA w_b w_not dG gD cB cC dH cZ bN fY cD di df fZ dI bP cF cG cH bQ bR bH bD bE bt dJ dj dL dM dO dP dQ dR dS dW dX dY gE cI bF cJ gF cK bS bG dZ ee cL cw cM List.getElem?_cons_zero List.getElem?_cons_succ Option.some.injEq exists_eq_left' exists_eq_left List.set_cons_zero List.set_cons_succ bA V.int.injEq V.bl.injEq V.ref.injEq V.str.injEq List.nil_append List.cons_append"
local macro_rules|`(tactic|walk_at "w")=>wk9 ws1
local macro_rules|`(tactic|symm)=>`(tactic|walk_at "w")
def  bi{n:Nat}(h:n<=1000):n<=sizeLine:=Qd (aZ h)
def  lnR{n:Nat}(h:Nat.ble n 1000=true):n<=sizeLine:=bi (Ql h)
def  IsFl(H:Hp)(a:Addr)(h w g:Int):Prop:=H a=some (.tup [.int h,.int w,.int g])
variable{p:Addr}
def  Same.laid{H a:Hp}{o:HO}(s:Same H a)(h:a p=none):Same H (upd a p o):=λb u e=>by
 rw[ao<|aI (s b u e) h];show s b u e
def  cP{H:Hp}{U:Addr}(O:HO)(h:H U=none):∃ z,upd H U O=z/\Same H z/\z U=some O:=(_,rfl,(Pr H).laid h,ak)
def  Same.own{H a:Hp}{o:HO}(s:Same H a)(h:H p=none):Same H (upd a p o):=λb u e=>by
 rw[ao<|aI e h];show s b u e
variable{l:∅}
def qm{i:Nat}{x:Int}(h:l[i]? =some x):l.getD i 0=x:=by
 rw[List.getD,h];rfl
def BM{ns:∅}{k:Int}(h0:0<=k)(h1:k<ns.length):atI (ns.map V.int) k=⇑(ns.getD k.toNat 0):=by
 have e:((k.toNat:Nat):Int)=k:=RD h0;have a:k.toNat<ns.length:=by lia
 have:(ns.map V.int)[k.toNat]? =⇑(ns.getD k.toNat 0):=by
  rw[Pp,Px a];simp[List.getD,a]
 have q:=aJ this;rw[e]at q;show q
def  fm{α:Type}(l:List α):l.filter (λ_=>true)=l:=List.filter_eq_self.mpr λ_ _=>rfl
def ic{i:Nat}{y:V}(h:(l.map V.int)[i]? =some y):∃ z,l[i]? =some z/\y=.int z:=by
 rw[Pp]at h
 cases e:l[i]? with
 | none=>rw[e]at h;cases h
 | some z=>rw[e]at h;cases h;show(z,rfl,rfl)
def  zY{h w:Int}(h0:1<=h)(h1:h<=6):CMul h w:=.inl (by omega,by omega)
def BN{a:List Addr}{k:Int}(h0:0<=k)(h:a[k.toNat]? =some p):atI (a.map V.ref) k=↑p:=by
 have e:((k.toNat:Nat):Int)=k:=RD h0;have b:(a.map V.ref)[k.toNat]? =↑p:=by rw[Pp,h];rfl
 have q:=aJ b;rw[e]at q;show q
section
variable{k:Nat}{lo:Int}{n:Nat}{tt:TT}{te:TE}{fin:Addr->Hp->Prop}{σ0:St}{H1:Hp}{K:Frag}{a:Addr}
def wu{n i:Nat}(b:Nat->Bool)(h:i<n)(a:n<=900):((List.range i).filter b).length<=900:=by
 have:=Rq b<|List.range i;rw[Sb]at this;lia
def C4 (b:Nat->Bool) (f:Nat->V) (s:n<=900)
  (w:∀ i H R,i<n->Same H1 H->(∀ c,Same H c->R (b i) c)->tt (σ0.set k ⇑(lo+i)) H R)
  (r:∀ i H Q,i<n->b i=true->Same H1 H->(∀ c,Same H c->Q (f i) c)->te (σ0.set k ⇑(lo+i)) H Q)
  (v:∀ l H,H1 l=none->Same H1 H->H l=↥(((List.range n).filter b).map f)->fin l H):
  CompR (Itr lo n) (gName k) tt te fin σ0 H1:=by
 show EB (λl i σ H=>(σ=σ0\/∃ q,σ=σ0.set k q)/\Same H1 H/\H l=↥(((List.range i).filter b).map f)) (λl d=>(.inl rfl,(Pr H1).laid d,by rw[ak];rfl)) ?_<|λl σ H d p=>v l H d p.2.1 p.2.2;rintro l i σ H d j ⟨x,g,t⟩;rw[aH]
 have e:σ.set k ⇑(lo+i)=σ0.set k ⇑(lo+i):=by
  rcases x with rfl | ⟨q,rfl⟩
  . rfl
  . show Rn ..
 rw[e];show w i H _ j g λu h=>?_;have a:=h _ _ t
 cases m:b i with
 | false=>
  rw[PF Pt];show(.inr (_,rfl),g.trans h,?_);rw[QP,QH,QC,m]
  simpa using a
 | true=>
  rw[PK rfl];show r i u _ j m (g.trans h) λy o=>(_,o _ _ a,by rw[Pj];show aZ<|Pk (wu b j s) #[1],.inr (_,rfl),((g.trans h).trans o).own d,?_);rw[ak,QP,QH,QC,m];simp
def iN {xs:List V} (b:Nat->Bool) (f:Nat->V) (u:xs.length<=900) (z:SqL K H1 a xs)
  (t:∀ i x H R,xs[i]? =some x->Same H1 H->(∀ d,Same H d->R (b i) d)->tt (σ0.set k<|some x) H R)
  (r:∀ i x H Q,xs[i]? =some x->b i=true->Same H1 H->(∀ d,Same H d->Q (f i) d)->te (σ0.set k<|some x) H Q)
  (v:∀ l H,H1 l=none->Same H1 H->H l=↥(((List.range xs.length).filter b).map f)->fin l H):
  CompR (Itl K a) (gName k) tt te fin σ0 H1:=by
 show mU (xs:=xs) (λl i σ H=>(σ=σ0\/∃ q,σ=σ0.set k q)/\Same H1 H/\H l=↥(((List.range i).filter b).map f)) (λl g=>(.inl rfl,(Pr H1).laid g,by rw[ak];rfl)) (λl i σ H _ _ p=>p.2.1.seq z) ?_<|λl σ H g p=>v l H g p.2.1 p.2.2;rintro l i x σ H g n ⟨A,h,y⟩;have w:i<xs.length:=(Ps.mp n).1;rw[aH]
 have e:σ.set k (some x)=σ0.set k (some x):=by
  rcases A with rfl | ⟨q,rfl⟩
  . rfl
  . show Rn ..
 rw[e];show t i x H _ n h λs j=>?_;have c:=j _ _ y
 cases m:b i with
 | false=>
  rw[PF Pt];show(.inr (_,rfl),h.trans j,?_);rw[QP,QH,QC,m]
  simpa using c
 | true=>
  rw[PK rfl];show r i x s _ n m (h.trans j) λB o=>(_,o _ _ c,by rw[Pj];show aZ<|Pk (wu b w u) #[1],.inr (_,rfl),((h.trans j).trans o).own g,?_);rw[ak,QP,QH,QC,m];simp
def FZ(b:Int->Bool)(f:Int->Int)(xs:∅):((List.range xs.length).filter λi=>b<|xs.getD i 0).map (λi=>V.int<|f<|xs.getD i 0)=((xs.filter b).map f).map V.int:=by
 have e:xs=(List.range xs.length).map λi=>xs.getD i 0:=by
  show QL λi=>?_;rw[Pp];by_cases h:i<xs.length
  . rw[QE h,Px h];simp[List.getD,h]
  . rw[PX #[4],PX (by simpa using h)];rfl
 conv=>rhs;rw[e]
 rw[List.filter_map,P8,P8];rfl
def EF {xs:∅} (b:Int->Bool) (f:Int->Int) (o:xs.length<=900) (s:SqL K H1 a (xs.map V.int))
  (r:∀ x H R,x∈xs->Same H1 H->(∀ d,Same H d->R (b x) d)->tt (σ0.set k ⇑x) H R)
  (n:∀ x H Q,x∈xs->b x=true->Same H1 H->(∀ d,Same H d->Q (.int<|f x) d)->te (σ0.set k ⇑x) H Q)
  (q:∀ l H,H1 l=none->Same H1 H->H l=↥(((xs.filter b).map f).map V.int)->fin l H):
  CompR (Itl K a) (gName k) tt te fin σ0 H1:=by
 show iN (xs:=xs.map V.int) (λi=>b<|xs.getD i 0) (λi=>.int<|f<|xs.getD i 0) (by rw[Pj];show o) s ?_ ?_ ?_
 . intro i x H R g e h;obtain⟨z,c,rfl⟩:=ic g;rw[qm c]at h;show r z H R (PD c) e h
 . intro i x H Q g m e h;obtain⟨z,c,rfl⟩:=ic g;rw[qm c]at h m;show n z H Q (PD c) m e h
 . intro l H p e j;show q l H p e ?_;rw[Pj]at j;rw[j,FZ]
end
def DA:∀{a:List PyData},(∀ d∈a,PyData.canLay0 d=true)->PyData.canLayAll0 a=true
 | [],_=>rfl
 | d::r,h=>by rw[PyData.canLayAll0,h d Pn,DA λe b=>h e<|Pm _ b];rfl
def zZ{n:Nat}:∀{a:List PyData},(∀ d∈a,PyData.depth d<=n)->PyData.depthAll a<=n
 | [],_=>Qg _
 | d::r,h=>by rw[PyData.depthAll];show Nat.max_le.mpr (h d Pn,zZ λe b=>h e<|Pm _ b)
def yT{α:Type}[DecidableEq α](g:α->PyData)(c:∀ a b,PyData.eqv (g a) (g b)=decide (a=b)):∀ xs ys:List α,PyData.eqvAll (xs.map g) (ys.map g)=decide (xs=ys)
 | [],[]=>rfl
 | [],_::_=>rfl
 | _::_,[]=>rfl
 | x::xs,y::ys=>by
  rw[Pz,Pz,PyData.eqvAll,c,yT g c xs ys,QS];simp
structure FlOk(h w g:Int):Prop where
 h0:1<=h
 h1:h<=6
 w0:1<=w
 w1:w<=6
 m:h*w<=16
 g0:1<=g
 g1:g<=6
section
variable{K:Frag}{H:Hp}{Q:VK}
def BO{p:Addr}{xs:List V}(b:H p=↥xs)(h:Q (.bl true) H):kIsi [.ref p,.ty "list"] H Q:=by
 show(by decide,bV (a:="list") (by unfold kA;dsimp only;rw[b]) ?_);rw[show isTy "list" "list"=true by decide];show h
def BP{p:Addr}{xs:List V}(b:H p=some (.tup xs))(h:Q (.bl true) H):kIsi [.ref p,.ty "tuple"] H Q:=by
 show(by decide,bV (a:="tuple") (by unfold kA;dsimp only;rw[b]) ?_);rw[show isTy "tuple" "tuple"=true by decide];show h
def F0{x:Str}(h:Q (.bl true) H):kIsi [.str x,.ty "str"] H Q:=by
 show(by decide,bV (a:="str") rfl ?_);rw[show isTy "str" "str"=true by decide];show h
def Hl{p q:Addr}{xs ys:List V}(c:H p=↥xs)(b:H q=↥ys)(a:xs.length+ys.length<=1000)(h:Q .non (upd H p<|.lst<|xs++ys)):uY (.ref p) [.ref q] H Q:=by
 change bnd (unM<|H p) _;rw[c];change bnd (unM<|H q) _;rw[b];show(Qd<|aZ a,h)
def  BQ{n:Nat}{t:TGs}{σ:St}{k:St->Hp->Prop}{p:Addr}{xs:List V}(b:H p=some (.tup xs))(a:xs.length=n)(h:t xs σ H k):gTup K n t (.ref p) σ H k:=(p,xs,rfl,TH b,a,h)
def wv{i j:Nat}{x y:V}{σ:St}{k:St->Hp->Prop}:gCons (gName i) (gCons (gName j) gNil) [x,y] σ H k=k ((σ.set i<|some x).set j<|some y) H:=by
 show propext (?_,λh=>(x,[y],rfl,y,[],rfl,rfl,h));rintro⟨v,r,e,b,a,e2,c,h⟩;cases e;cases e2;show h
end
end L2
namespace L2
open PySem PySem.Builtin PySem.Builtin.Str
def  tx(l:List Nat):Str:=⟨l.toArray⟩
def jg(l:List Nat):(tx l).cps.toList=l:=by simp[tx]
def u7(x:Str):tx x.cps.toList=x:=by cases x;simp[tx]
def gJ{a b:List Nat}(h:tx a=tx b):a=b:=by rw[← jg a,h,jg]
def aF(l:List Nat):(tx l).length=l.length:=by simp[tx,Str.length]
def lA(a b:List Nat):tx a++tx b=tx (a++b):=by
 show Str.ext' ?_;rw[Str.cps_append];simp[tx]
def lB(a b:List Nat):decide (tx a=tx b)=decide (a=b):=by
 by_cases h:a=b
 . subst h;simp
 . have:¬ tx a=tx b:=λe=>h<|gJ e;rw[Pl h,Pl this]
def  catL(c:Nat):List (List Nat)->List Nat
 | []=>[]
 | [x]=>x
 | x::y::r=>x++c::catL c (y::r)
def mr(c:Nat):∀ ts:List (List Nat),Str.join (tx [c]) (ts.map tx)=tx (catL c ts)
 | []=>rfl
 | [x]=>rfl
 | x::y::r=>by
  change tx x++tx [c]++Str.join (tx [c]) ((y::r).map tx)=_;rw[mr c (y::r),lA,lA];change tx _=tx (x++c::catL c (y::r));rw[Qj];rfl
def BR:∀ ts:List (List Nat),Str.join (tx []) (ts.map tx)=tx ts.flatten
 | []=>rfl
 | [x]=>by change tx x=tx [x].flatten;simp
 | x::y::r=>by
  change tx x++tx []++Str.join (tx []) ((y::r).map tx)=_;rw[BR (y::r),lA,lA];simp
def  jJ(a:Str)(ts:List Str):Txt.join a ts=Str.join a ts:=StrLaws.glued_eq_join a ts
def DB{c:Nat}:∀{a b x y:List Nat},c∉a->c∉b->a++c::x=b++c::y->a=b/\x=y
 | [],[],_,_,_,_,h=>(rfl,by simpa using h)
 | [],b::bs,_,_,_,hb,h=>by
  simp at h;show absurd (Pw.mpr<|.inl h.1) hb
 | a::as,[],_,_,ha,_,h=>by
  simp at h;show absurd (Pw.mpr<|.inl h.1.symm) ha
 | a::as,b::bs,x,y,ha,hb,h=>by
  simp at h;have:=DB (λz=>ha<|Pm _ z) (λz=>hb<|Pm _ z) h.2;show(by rw[h.1,this.1],this.2)
def BS{c:Nat}:∀{x:List Nat} {r:List (List Nat)} {y:List Nat},c∈catL c (x::y::r):=by
 intro x r y;change c∈x++c::_;simp
def ww{c:Nat}:∀{xs ys:List (List Nat)},xs≠[]->ys≠[]->(∀ x∈xs,c∉x)->(∀ y∈ys,c∉y)->catL c xs=catL c ys->xs=ys
 | [],_,h,_,_,_,_=>absurd rfl h
 | _,[],_,h,_,_,_=>absurd rfl h
 | [x],[y],_,_,_,_,h=>by
  have h':x=y:=h;rw[h']
 | [x],y::z::r,_,_,hx,_,h=>by
  have h':x=catL c (y::z::r):=h;show absurd (h' ▸ BS) (hx x Pn)
 | x::z::r,[y],_,_,_,hy,h=>by
  have h':catL c (x::z::r)=y:=h;show absurd (h' ▸ BS) (hy y Pn)
 | x::z::r,y::u::s,_,_,hx,hy,h=>by
  obtain⟨e1,e2⟩:=DB (hx x Pn) (hy y Pn) (show x++c::catL c (z::r)=y++c::catL c (u::s) from h);rw[e1,ww (by simp) (by simp) (λw a=>hx w<|Pm _ a) (λw a=>hy w<|Pm _ a) e2]
def wx(x y:Str):Txt.split x y≠[]:=by
 intro h;unfold Txt.split at h
 split at h
 . cases h
 . split at h
   . cases h
   . rw[RV]at h;obtain⟨p,r,e⟩:=StrLaws.partsFrom_ne x y.length 0<|occurrences x y 0 x.length<|x.length+1;rw[e]at h;cases h
def ro{c:Nat}{rows:List (List Nat)}(a:rows≠[])(d:∀ r∈rows,c∉r):Txt.split (tx<|catL c rows) (tx [c])=rows.map tx:=by
 have h1:=SR (tx<|catL c rows)<|tx [c];have h2:∀ p∈Txt.split (tx<|catL c rows) (tx [c]),c∉p.cps.toList:=StrLaws.split_free _ c;have h3:=wx (tx<|catL c rows)<|tx [c];generalize Txt.split (tx<|catL c rows) (tx [c])=S at*
 have e:S=(S.map (·.cps.toList)).map tx:=by
  rw[P8]
  conv=>lhs;rw[← Tu S]
  show QK λx _=>(u7 x).symm
 rw[e,mr]at h1;have h4:=gJ h1;have h5:=ww (c:=c) (xs:=S.map (·.cps.toList)) (ys:=rows) (by simpa using h3) a (λx b=>by obtain⟨p,f,rfl⟩:=PM.mp b;show h2 p f) d h4;rw[e,h5]
def vR(c:Nat)(l:List Nat):∃ rows:List (List Nat),rows≠[]/\(∀ r∈rows,c∉r)/\catL c rows=l/\Txt.split (tx l) (tx [c])=rows.map tx:=by
 have h1:=SR (tx l)<|tx [c];have h2:∀ p∈Txt.split (tx l) (tx [c]),c∉p.cps.toList:=StrLaws.split_free _ c;have h3:=wx (tx l)<|tx [c];generalize Txt.split (tx l) (tx [c])=S at*
 have e:S=(S.map (·.cps.toList)).map tx:=by
  rw[P8]
  conv=>lhs;rw[← Tu S]
  show QK λx _=>(u7 x).symm
 rw[e,mr]at h1;show(S.map (·.cps.toList),by simpa using h3,(λx a=>by obtain⟨p,b,rfl⟩:=PM.mp a;show h2 p b),gJ h1,e)
def BT(c:Nat):∀ rows:List (List Nat),rows.length<=(catL c rows).length+1
 | []=>Qg _
 | [x]=>by simp[catL]
 | x::y::r=>by
  have:=BT c (y::r);change _<=(x++c::catL c (y::r)).length+1;rw[Pq,PR];simp only[PR]at this ⊢;lia
def DC(l:List Nat)(c:Nat):Txt.find (tx l) (tx [c])=if c∈l then((l.idxOf c:Nat):Int) else -1:=by
 have a:∀ i,StrLaws.At (tx l) (tx [c]) (tx l).length i↔l[i]? =some c:=λi=>by
  unfold StrLaws.At;rw[StrLaws.subAt_eq,jg,jg,aF,aF];change i+1<=l.length/\((l.drop i).take 1==[c])=true↔_;rw[StrLaws.take1_drop];show(λh=>h.2,λh=>(?_,h));have:=(Ps.mp h).1;lia
 unfold Txt.find;rcases StrLaws.occ_head (tx l) (tx [c]) 1 (Py _) with ⟨e,h⟩ | ⟨i,r,e,h,f⟩
 . rw[e]
   have:c∉l:=λm=>by
    obtain⟨i,b,e⟩:=Ry.mp m;show h i ((a i).mpr (by rw[Px b,e]))
   rw[PF this]
 . rw[e];have b:=(a i).mp h;rw[PK<|PD b]
   have h1:l.idxOf c=i:=by
    obtain⟨g,d⟩:=Ps.mp b;have j:c∈l:=PD b;have h2:=List.idxOf_lt_length_of_mem j;have h3:l[l.idxOf c]? =some c:=by rw[Px h2,List.getElem_idxOf h2]
    rcases Nat.lt_trichotomy (l.idxOf c) i with q | q | q
    . show absurd ((a _).mpr h3) (f _ q)
    . show q
    . have h4:=List.not_of_lt_findIdx (p:=(· ==c)) (xs:=l) (i:=i) q;simp[d]at h4
   change((i:Nat):Int)=_;rw[h1]
end L2
namespace L2
def  figc(s:Int):Nat:=s!".123456".getD s.toNat 0
def  rowAt(w:Nat)(xs:∅)(r:Nat):∅:=(xs.drop<|r*w).take w
def  rowsL(h w:Nat)(xs:∅):List ∅:=(List.range h).map (rowAt w xs)
def  showL(h w:Nat)(xs:∅):List Nat:=catL 47 ((rowsL h w xs).map (·.map figc))
def DD(c:Nat):∀ rows:List (List Nat),(catL c rows).length<=(rows.map (·.length)).sum+rows.length
 | []=>Qg _
 | [x]=>by simp[catL]
 | x::y::r=>by
  have:=DD c (y::r);change(x++c::catL c (y::r)).length<=_;rw[Pq,PR];simp only[Pz,S6,PR]at this ⊢;lia
variable{xs:∅}
def  IO{w:Nat}{r:Nat}{x:Int}(h:x∈rowAt w xs r):x∈xs:=List.mem_of_mem_drop (List.mem_of_mem_take h)
def F1{h w:Nat}(h6:h<=6)(k:w<=6):(showL h w xs).length<=100:=by
 show Pk (DD ..) ?_
 have j:∀ l:List (List Nat),(∀ r∈l,r.length<=6)->(l.map (·.length)).sum<=6*l.length:=by
  intro l b
  induction l with
  | nil=>simp
  | cons a r d=>
   have h1:=b a Pn;have h2:=d λx f=>b x<|Pm _ f;simp only[Pz,S6,PR];lia
 have:=j ((rowsL h w xs).map (·.map figc)) (λr e=>by
  obtain⟨y,c,rfl⟩:=PM.mp e;unfold rowsL at c;obtain⟨i,_,rfl⟩:=PM.mp c;rw[Pj];unfold rowAt;rw[QB];lia)
 have g:((rowsL h w xs).map (·.map figc)).length=h:=by simp[rowsL]
 rw[g]at this ⊢;lia
end L2
namespace L2
open PySem PySem.Spec PyProof.Rows
local macro_rules|`(tactic|walk_at "w")=>wk9 ws1
local macro_rules|`(tactic|symm)=>`(tactic|walk_at "w")
section
variable{k:Nat}{tt:TT}{te:TE}{fin:Addr->Hp->Prop}{σ0:St}{H1:Hp}
def tH {cs:List Nat} (b:Nat->Bool) (f:Nat->V) (z:cs.length<=900)
  (y:∀ i c H R,cs[i]? =some c->Same H1 H->(∀ a,Same H a->R (b i) a)->tt (σ0.set k<|some<|.str<|tx [c]) H R)
  (u:∀ i c H Q,cs[i]? =some c->b i=true->Same H1 H->(∀ a,Same H a->Q (f i) a)->te (σ0.set k<|some<|.str<|tx [c]) H Q)
  (A:∀ l H,H1 l=none->Same H1 H->H l=↥(((List.range cs.length).filter b).map f)->fin l H):
  CompR (Its<|tx cs) (gName k) tt te fin σ0 H1:=by
 intro l q;have g:(tx cs).cps.size=cs.length:=by simp[tx]
 show(λi m σ H=>m=cs.length-i/\i<=cs.length/\(σ=σ0\/∃ p,σ=σ0.set k p)/\Same H1 H/\H l=↥(((List.range i).filter b).map f),(cs.length,by simp,Qg _,.inl rfl,(Pr H1).laid q,by rw[ak];rfl),?_);rintro i m σ H ⟨rfl,F,C,n,t⟩;by_cases d:i<cs.length
 . show .inr (by change i < (tx cs).cps.size;rw[g];show d,λσ H=>(σ=σ0\/∃ p,σ=σ0.set k p)/\Same H1 H/\H l=↥(((List.range<|i+1).filter b).map f),λE a v=>(cs.length - (i+1),by lia,rfl,d,v),?_);rintro x a ⟨rfl,c,B,rfl⟩;have h:cs[i]? =some c:=by simpa [tx] using B
   change gName k (.str<|tx [c]) σ a _;rw[aH]
   have e:σ.set k (some<|.str<|tx [c])=σ0.set k (some<|.str<|tx [c]):=by
    rcases C with rfl | ⟨p,rfl⟩
    . rfl
    . show Rn ..
   rw[e];show y i c a _ h n λw o=>?_;have j:=o _ _ t
   cases r:b i with
   | false=>
    rw[PF Pt];show(.inr (_,rfl),n.trans o,?_);rw[QP,QH,QC,r]
    simpa using j
   | true=>
    rw[PK rfl];show u i c w _ h r (n.trans o) λD s=>(_,s _ _ j,by rw[Pj];show aZ<|Pk (wu b d z) #[1],.inr (_,rfl),((n.trans o).trans s).own q,?_);rw[ak,QP,QH,QC,r];simp
 . have e:i=cs.length:=by lia
   subst e;show .inl (by change(tx cs).cps.size<=_;rw[g];show Py _,A l H q n t)
end
def sy{α:Type}(xs:∅)(g:Int->α):(List.range xs.length).map (λi=>g<|xs.getD i 0)=xs.map g:=by
 have e:xs=(List.range xs.length).map λi=>xs.getD i 0:=by
  show QL λi=>?_;rw[Pp];by_cases h:i<xs.length
  . rw[QE h,Px h];simp[List.getD,h]
  . rw[PX #[4],PX (by simpa using h)];rfl
 conv=>rhs;rw[e]
 rw[P8];rfl
def IP{xs:List V}{a b:Nat}(c:a<=b)(d:b<=xs.length):cutV xs (some (a:Int)) (some (b:Int))=(xs.drop a).take (b-a):=by
 have h1:HT.sIx xs.length 0 (some (a:Int))=a:=by rw[HT.sIx_nat];lia
 have h2:HT.sIx xs.length xs.length (some (b:Int))=b:=by rw[HT.sIx_nat];lia
 unfold cutV;rw[h1,h2]
def gb{a:Str}{ts:List Str}(h1:ts.length<=1000)(h2:∀ t∈ts,t.length<=1000)(h3:a.length<=10):JoinOk a ts=true:=by
 unfold JoinOk;rw[S3];show StrLaws.joinFits (B:=1000) h2 ?_;have c:ts.length*1000<=1000*1000:=Sv _ h1;have b:ts.length*a.length<=1000*10:=Nat.mul_le_mul h1 h3;lia
abbrev rIsN:R2:=λx y H Q=>y=.non/\Q (.bl<|decide<|x=.non) H
abbrev rNotN:R2:=λx y H Q=>y=.non/\Q (.bl<|!decide (x=.non)) H
def  kStr:List V->Hp->VK->Prop
 | [.int i],H,Q=>i.natAbs.log2<1920/\Q (.str<|Str.ofString<|toString i) H
 | _,_,_=>False
section
variable{X:Cx}
def z4:CallR X (.type "str") kStr:=by
 intro d s σ H e f Q I r h;unfold kStr at h
 split at h
 . obtain⟨b,q⟩:=h
   cases r with
   | cons c a=>
    cases a;obtain⟨t,rfl⟩:=c;show PySem.P.str_of_int b (.str _,H,I.tok _,(_,rfl),q)
 . show h.elim
end
section
variable{K:Frag}{H:Hp}{Q:VK}
def iO{x:V}:rIsN x .non H Q=Q (.bl<|decide<|x=.non) H:=by simp[rIsN]
def gc{x:V}:rNotN x .non H Q=Q (.bl<|!decide (x=.non)) H:=by simp[rNotN]
def  Lx{z:Str}{a b:Option Int}:lz (.str z) a b H Q=(z.length<=sizeLine/\Q (.str<|Txt.slice z a b) H):=rfl
def  gm{i:Int}:kStr [.int i] H Q=(i.natAbs.log2<1920/\Q (.str<|Str.ofString<|toString i) H):=rfl
end
structure Bt2(mg:Str->Option Value):Prop extends Bt mg where
 all_:mg "all"=none
 sum_:mg "sum"=none
 enumerate_:mg "enumerate"=none
section
variable{K:Frag}{H:Hp}{Q:VK}{D:Ends}{σ:St}{g:TG}{tb:TS}{ta:TA}{ix:List (Option Nat)}{tt:TT}{te tf:TE}{k:Nat}
def  gn:tIf tt te tf σ H Q=tt σ H λc a=>if c=true then te σ a Q else tf σ a Q:=rfl
def  bZ:tComp ix (Ei ta) g tt te σ H Q=ta σ H λvs a=>∃ i j:Int,vs=[.int i,.int j]/\(-(2^62)<=i/\i<2^62/\ -(2^62)<=j/\j<2^62)/\CompR (Itr i (j-i).toNat) g tt te (λl b=>Q (.ref l) b) (subσ ix σ) a:=rfl
def  bK:sComp k ix (Ei ta) g tt te D σ H=ta σ H λvs a=>∃ i j:Int,vs=[.int i,.int j]/\(-(2^62)<=i/\i<2^62/\ -(2^62)<=j/\j<2^62)/\CompR (Itr i (j-i).toNat) g tt te (λl b=>D.nx (σ.set k ↑l) b) (subσ ix σ) a:=rfl
def isiE{x:V}{n t:String}{b:Bool}(d:kA H x=some t)(a:uX n=true)(c:isTy t n=b):kIsi [x,.ty n] H Q=Q (.bl b) H:=by
 subst c;change(uX n=true/\bnd (kA H x) λt=>Q (.bl<|isTy t n) H)=_;rw[d];simp only[a,true_and,bA]
def  b0{i:Int}:kIsi [.int i,.ty "int"] H Q=Q (.bl true) H:=isiE (t:="int") rfl #[1] #[1]
def  cb{i:Int}:kIsi [.int i,.ty "bool"] H Q=Q (.bl false) H:=isiE (t:="int") rfl #[1] #[1]
def  cc{i:Int}:kIsi [.int i,.ty "str"] H Q=Q (.bl false) H:=isiE (t:="int") rfl #[1] #[1]
def  ce{i:Bool}:kIsi [.bl i,.ty "bool"] H Q=Q (.bl true) H:=isiE (t:="bool") rfl #[1] #[1]
def  cf{i:Bool}:kIsi [.bl i,.ty "int"] H Q=Q (.bl true) H:=isiE (t:="bool") rfl #[1] #[1]
def  cg{i:Str}:kIsi [.str i,.ty "str"] H Q=Q (.bl true) H:=isiE (t:="str") rfl #[1] #[1]
def  ci{i:Bool}:kIsi [.bl i,.ty "str"] H Q=Q (.bl false) H:=isiE (t:="bool") rfl #[1] #[1]
def  eK{A B:Prop}:(if true=true then A else B)=A:=PK rfl
def  eO{A B:Prop}:(if false=true then A else B)=B:=PF Pt
def eQ{i:Int}:rU (λi=>.int<|-i) (.int i) H Q=Q (.int<|-i) H:=by
 show propext (?_,λh=>(i,rfl,h));rintro⟨j,e,h⟩;cases e;show h
def BU {a:Addr} {xs:List V} (b:Nat->St->Hp->Prop) (h0:b 0 σ H) (n:∀ i σ H,i<=xs.length->b i σ H->SqL K H a xs)
  (r:∀ i x T σ H,xs[i]? =some x->b i σ H->H T=none->g (.ref T) σ (upd H T<|.tup [.int i,x]) λj o=>tb {D with nx:=b<|i+1,ct:=b<|i+1,bk:=D.nx} j o) (q:∀ σ H,b xs.length σ H->D.nx σ H):
  LoopR (Ite K a) g tb D σ H:=by
 show(λi m σ H=>m=xs.length-i/\i<=xs.length/\b i σ H,(xs.length,by simp,Qg _,h0),?_);rintro i m σ H ⟨rfl,h,p⟩;have d:=n i σ H h p;by_cases c:i<xs.length
 . show .inr ((xs,xs[i],d,by simp[c]),b<|i+1,λs k l=>(xs.length - (i+1),by lia,rfl,c,l),λv k y=>?_);obtain⟨T,x,rfl,f,rfl,e1⟩:=y;show r i x T σ H (e1 xs d) p f
 . have e:i=xs.length:=by lia
   subst e;show .inl ((xs,d,Py _),q σ H p)
def ixT{p:Addr}{i:Int}{xs:List V}{v:V}(h:H p=some (.tup xs))(e:atI xs i=some v)(q:Q v H):cIx (.ref p) (.int i) H Q:=by
 rw[rm h];show bV e q
def ixL{p:Addr}{i:Int}{xs:List V}{v:V}(h:H p=↥xs)(e:atI xs i=some v)(q:Q v H):cIx (.ref p) (.int i) H Q:=by
 rw[Lw h];show bV e q
def  ixI{p:Addr}{i:Int}{ns:∅}(h:H p=↥(ns.map V.int))(h0:0<=i)(h1:i<ns.length)(q:Q (.int<|ns.getD i.toNat 0) H):cIx (.ref p) (.int i) H Q:=ixL h (BM h0 h1) q
end
inductive Tame:{α:Type}->Sem α->Prop
 | pure {α:Type} (a:α):Tame (Sem.pure a)
 | uns {α:Type} (w:String):Tame (Sem.unsupported w:Sem α)
 | load {α:Type} {a:Addr} {p:Option Value} {k:Obj->Sem α}:(∀ o,Tame<|k o)->Tame (Sem.load a p k)
 | upd {α:Type} {a:Addr} {p:Option Value} {f:Obj->Obj} {k:Unit->Sem α}:(∀ o,(f o).dict=o.dict/\(f o).isFreed=o.isFreed)->Tame (k ())->Tame (Sem.update a p f k)
 | alc {α:Type} {o:Obj} {k:Addr->Sem α}:(∀ o,Tame<|k o)->Tame (Sem.alloc o k)
 | stk {α:Type} {k:List (Code × Pos)->Sem α}:(∀ o,Tame<|k o)->Tame (Sem.stack k)
 | bind {α β:Type} {m:Sem α} {f:α->Sem β}:Tame m->(∀ a,Tame<|f a)->Tame (m >>= f)
def  DK(h h':Heap):Prop:=∀ a o,h.get? a=some o->∃ b,h'.get? a=some b/\b.dict=o.dict
def  DK.refl{h:Heap}:DK h h:=λ_ o e=>(o,e,rfl)
def Tame.wp{M:Model}{Γ:PySem.Ctx}{h0:Heap}{α:Type}{t:Sem α}(T:Tame t):∀{Q:α->Pos->Shared->Prop} {E:Value->Pos->Shared->Prop} {p:Pos} {s:Shared},DK h0 s.heap->Sem.wp M Γ t Q E p s->
  Sem.wp M Γ t (λa p s'=>Q a p s'/\DK h0 s'.heap) E p s:=by
 induction T with
 | pure a=>intro Q E p s d h;rw[Sem.wp_pure]at h ⊢;show(h,d)
 | uns w=>intro Q E p s d h;rw[Sem.wp_unsupported]at h;show h.elim
 | load _ c=>intro Q E p s d h;rw[Sem.wp_load]at h ⊢;obtain⟨o,e,h⟩:=h;show(o,e,c o d h)
 | @upd _ a p f k l _ c=>
  intro Q E p s d h;rw[Sem.wp_update]at h ⊢;obtain⟨e,h⟩:=h;show(e,c (λb o q=>?_) h);obtain⟨g,i,z⟩:=d b o q;by_cases m:a=b
  . subst m;show(f g,Rr _ i ?_,(l g).1.trans z);rw[(l g).2];show(Heap.get?_some_iff.mp i).2
  . show(g,(QY _ _ m).trans i,z)
 | alc _ c=>intro Q E p s d h;rw[Sem.wp_alloc]at h ⊢;show c _ (λb o q=>by obtain⟨g,i,z⟩:=d b o q;show(g,Pu _ i,z)) h
 | stk _ c=>intro Q E p s d h;rw[Sem.wp_stack]at h ⊢;show c _ d h
 | bind _ _ r n=>
  intro Q E p s d h;rw[Sem.wp_bind']at h ⊢;show Sem.wp_mono M Γ _ (λa u s' j=>n a j.2 j.1) (λ_ _ _ x=>x) p s (r d h)
def  Tame.any{M:Model}{A:Around}{α:Type}{t:Sem α}{Q c:α->Shared->Prop}{E:Value->Shared->Prop}{s:Shared}(T:Tame t)(h:wpAny M A t Q E s)(e:∀ a s',Q a s'->DK s.heap s'.heap->c a s'):wpAny M A t c E s:=
 λΓ p d=>Sem.wp_mono M Γ t (λa f s' b=>e a s' b.1 b.2) (λ_ _ _ x=>x) p s (T.wp .refl<|h Γ p d)
def  tI(a:Addr):Tame (load a):=.load λ_=>.pure _
def  rp:Tame stack:=.stk λ_=>.pure _
def AF(v:Value):Tame (fieldsOf v):=by
 unfold fieldsOf;split
 . show .bind (tI _) λo=>?_
   split <;> first | show .uns _ | show .pure _
 . first | show .uns _ | show .pure _
def nS(v:Value)(i:Nat):Tame (field v i):=by
 unfold field;show .bind (AF v) λ_=>?_
 split <;> first | show .uns _ | show .pure _
def IQ(f:Array Value->Array Value)(o:Obj):(o.mapFields f).dict=o.dict/\(o.mapFields f).isFreed=o.isFreed:=by
 obtain⟨c,d,a,b⟩:=o;cases a <;> show(rfl,rfl)
def m6(v:Value)(i:Nat)(x:Value):Tame (setField v i x):=by
 unfold setField;split
 . unfold updateField;show .bind (tI _) λo=>?_
   split
   . split
     . show .upd (IQ _) (.pure _)
     . first | show .uns _ | show .pure _
   . first | show .uns _ | show .pure _
 . first | show .uns _ | show .pure _
def mt(e:Value)(f:Option Addr):Tame (setFlight e f):=by
 unfold setFlight;show .bind (nS _ _) λo=>?_
 split
 . show m6 _ _ _
 . first | show .uns _ | show .pure _
def EG(f:Addr)(b:Bool):Tame (entryPlaceOf f b):=by
 unfold entryPlaceOf;show .bind rp λo=>?_
 split <;> first | show .uns _ | show .pure _
def C5{n:String}{vs:List Value}:Tame (newFields n vs):=by
 have z:Tame (newObjAsIs (.type n)<|.fields vs.toArray):=by
  unfold newObjAsIs;show .bind (.alc λ_=>.pure _) λ_=>.pure _
 unfold newFields newObj;change Tame (if vs.toArray.size>sizeLine+2 then _ else _)
 split
 . show .bind (.uns _) λ_=>z
 . show z
def F2(env:Env)(b:Bool)(l:List Env):Tame (keptBack env b l):=by
 unfold keptBack
 split
 . split
   . first | show .uns _ | show .pure _
   . show .bind (.bind rp λ_=>.pure _) λ_=>.pure _
 . first | show .uns _ | show .pure _
def Hm(env:Env)(l:List Env):Tame (behindIsImport env l):=by
 unfold behindIsImport
 split
 . first | show .uns _ | show .pure _
 . split
   . first | show .uns _ | show .pure _
   . show .bind (nS _ _) λ_=>.pure _
def xm:∀ l:List Env,Tame (readyFrames l)
 | []=>.pure _
 | env::l=>by
  unfold readyFrames
  split
  . show .bind (tI _) λo=>?_
    split
    . first | show .uns _ | show .pure _
    . show .bind (Hm _ _) λ_=>.bind (F2 _ _ _) λ_=>.bind (.upd (λo=>(rfl,by cases o;rename_i a _;cases a <;> rfl))<|.pure _) λ_=>xm l
  . first | show .uns _ | show .pure _
def BW(env:Env):Tame (PySem.frameOf env):=by
 unfold PySem.frameOf frameEnvs;show .bind (.bind rp λ_=>.pure _) λl=>.bind ?_ λo=>?_
 . unfold frameObject
   split
   . first | show .uns _ | show .pure _
   . show .bind (xm _) λ_=>.pure _
 . split <;> first | show .uns _ | show .pure _
def tJ(e:Value)(env:Env):Tame (noteFrame e env):=by
 unfold noteFrame
 have z:∀(c:Value) (f:Addr),Tame (do let a ← PySem.frameOf env;let pl ← entryPlaceOf f (c != .none);let b ← EntryCells.newEntry c a .none (rawInt f) .none pl;setField e 1 b):=λc f=>
  .bind (BW env) λ_=>.bind (EG _ _) λ_=>.bind C5 λ_=>m6 _ _ _
 split
 . show .bind (nS _ _) λc=>?_
   split
   . show .bind (nS _ _) λ_=>?_
     split
     . first | show .uns _ | show .pure _
     . show .bind (m6 _ _ _) λ_=>z _ _
   . show z _ _
 . first | show .uns _ | show .pure _
def  om(env:Env)(e:Value):Tame («leaving» env e):=.bind (tJ e env) λ_=>mt e none
variable{P:Program}
def ObjOk.ob{w:World}{H:Hp}{h:Heap}{a:Addr}{o:HO}(x:ObjOk P w H h a o):∃ u,h.get? a=some u:=by
 cases o with
 | lst c=>obtain⟨_,_,_,_,e⟩:=x;show(_,e)
 | tup c=>obtain⟨_,_,_,ob,e,_⟩:=x;show(_,e)
 | dK d=>obtain⟨_,_,_,_,o,_,_,e,_⟩:=x;show(_,e)
 | dT d=>obtain⟨_,_,_,_,o,_,_,e,_⟩:=x;show(_,e)
 | set S n=>obtain⟨o,_,_,_,e,_⟩:=x;show(_,e)
 | ins C i b=>obtain⟨_,_,_,e,_⟩:=x;show(_,e)
 | own y=>show x
 | xd b=>obtain⟨_,⟨_,_,_,e,_⟩,_⟩:=x;show(_,e)
 | rng k g=>obtain⟨_,_,_,e⟩:=x;show(_,e)
 | frz ob u=>obtain⟨e,_⟩:=x;show(_,e)
 | tbl j=>show(_,(show h.get? a=some _ from x))
 | met f y=>show(_,(show h.get? a=some _ from x))
 | ext φ=>obtain⟨_,e,_⟩:=x;show e
def  Tr(h:Heap)(x T C:Addr)(fl:Value):Prop:=∃ a vs c b d,h.get? x=some a/\a.cls=.ref C/\vs[0]? =some d/\a.data=.fields vs/\vs[1]? =↑T/\T≠x/\h.get? T=some c/\c.data=.fields b/\b[3]? =some fl
structure Fly(P:Program)(w:World)(outer:List Env)(H:Hp)(s:Shared)(x T C:Addr)(H':Hp)(s':Shared):Prop where
 os:s'.os=s.os
 bare:AllBare s'.gens
 un:Un (frs outer) [] H H' s.heap s'.heap
 hok:HOk P w H' s'.heap
 fx:H' x=none
 fT:H' T=none
 nx:s.heap.get? x=none
 nT:s.heap.get? T=none
 tr:Tr s'.heap x T C .none
def  DX(h:Heap)(x:Addr)(D:Option Addr):Prop:=∀ d,D=some d->∃ o,h.get? x=some o/\o.dict=some d
variable{x:Addr}
def  DX.dk{h h':Heap}{D:Option Addr}(z:DX h x D)(k:DK h h'):DX h' x D:=λd e=>by
 obtain⟨o,q,r⟩:=z d e;obtain⟨c,b,a⟩:=k x o q;show(c,b,a.trans r)
def  DX.no{h:Heap}:DX h x none:=λ_ e=>nomatch e
def  CX1(P:Program)(w:World):CXT:=λa H s E e b=>∃ x T C D c,e=.ref x/\Fly P w a H s x T C c b/\DX b.heap x D/\E (.ref C) D c
def  wy {w:World} {env:Env} {c:List Env} {base:Heap} {H₀ H l:Hp} {v s sA:Shared} {h C L:Addr} {h':Heap} {ex:List Addr}
  (Q:sA.os=v.os) (t:AllBare sA.gens) (Z:env.frame=some L) (nL:v.heap.get? L=none)
  (i:Un (frs c) [] H₀ H v.heap s.heap) (M:s.heap.FunFrames base (env::c)) (G:∀ b∈frs (env::c),H b=none)
  (j:Un (frs (env::c)) [] H l s.heap sA.heap) (y:HOk P w l sA.heap)
  (m:∀ b∈ex,s.heap.get? b=none/\l b=none)
  (g:∀ b o,sA.heap.get? b=some o->b∉frs (env::c)->b∉ex->h'.get? b=some o) (N:sA.heap.UpToSlots h')
  (nx:s.heap.get? x=none) (fx:l x=none) (hT:∀ o,sA.heap.get? h=some o->h∈frs (env::c)\/h∈ex)
  (tr:Tr h' x h C .none):Fly P w c H₀ v x h C l {sA with heap:=h'}:=by
 have K:∀ b∈frs (env::c),∃ o,s.heap.get? b=some o/\∀ vs,o.data≠.fields vs:=λb f=>(M.mem f).2
 have r:∀ b∈frs (env::c),∃ o,sA.heap.get? b=some o/\∀ vs,o.data≠.fields vs:=λb f=>by
  obtain⟨o,e,d⟩:=K b f;obtain⟨R,e2⟩:=j.slot b o e (G b f) f (by simp);show(_,e2,d)
 have O:∀ b∈frs (env::c),l b=none:=λb f=>by
  obtain⟨o,e,d⟩:=K b f;show j.free b o e (G b f) (by simp)
 have B:h∉frs (env::c):=λf=>by
  obtain⟨o,e,d⟩:=r h f;obtain⟨R,e2⟩:=N h o e d;obtain⟨_,_,oT,ts,_,_,_,_,_,_,_,F,W,_⟩:=tr;rw[e2]at F;cases F;show d _ W
 have J:∀ b,b∈frs c->b∈frs (env::c):=λb f=>by
  unfold frs at f ⊢;rw[P0,Z];show Pm _ f
 have X:∀ b,b∈frs (env::c)->b=L\/b∈frs c:=λb f=>by
  unfold frs at f ⊢;rw[P0,Z]at f;show Pw.mp f
 have k:∀ b o,sA.heap.get? b=some o->b∉ex->∃ o',h'.get? b=some o':=λb o e U=>by
  by_cases f:b∈frs (env::c)
  . obtain⟨p,e1,d1⟩:=r b f;rw[e]at e1;cases e1;obtain⟨R,e2⟩:=N b o e d1;show(_,e2)
  . show(o,g b o e f U)
 have E:∀ b o,s.heap.get? b=some o->b∉ex:=λb o e U=>by rw[(m b U).1]at e;cases e
 show(Q,t,(λb o e n f _=>?_,λb o e n f _=>?_,λb o e n _=>?_,λb o e _=>?_,λb Y e=>j.tups b Y<|i.tups b Y e,λb o u e=>j.frzs b o u<|i.frzs b o u e,λb ps e=>?_),?_,fx,?_,?_,?_,tr)
 . have e1:=i.keep b o e n f (by simp);have I:=i.free b o e n (by simp)
   have nb:b∉frs (env::c):=λz=>by
    rcases X b z with z | z
    . rw[z,nL]at e;cases e
    . show f z
   show g b o (j.keep b o e1 I nb (by simp)) nb (E b o e1)
 . obtain⟨R,e1⟩:=i.slot b o e n f (by simp);have I:=i.free b o e n (by simp);obtain⟨aa,e2⟩:=j.slot b _ e1 I (J b f) (by simp);obtain⟨o3,F,W⟩:=r b<|J b f;rw[e2]at F;cases F;obtain⟨S,e4⟩:=N b _ e2 W;show(S,e4)
 . have I:=i.free b o e n (by simp);obtain⟨p,e1⟩:=i.there b o e (by simp);show j.free b p e1 I (by simp)
 . obtain⟨p,e1⟩:=i.there b o e (by simp);obtain⟨T,e2⟩:=j.there b p e1 (by simp);show k b T e2 (E b p e1)
 . obtain⟨m1,e1⟩:=i.tbls b ps e;obtain⟨m2,e2⟩:=j.tbls b _ e1;show(m1++m2,by rw[e2,SK])
 . intro a o e;have D:∀ b,l b≠none->b∉frs (env::c)/\b∉ex:=λb f=>(λz=>f<|O b z,λz=>f (m b z).2);show(y a o e).stay (λb u f q=>?_) (λ_ q=>q) λ_ _ q=>q
   have A:l b≠none:=by
    rcases f with rfl | f
    . rw[e];simp
    . rw[f];simp
   show g b u q (D b A).1 (D b A).2
 . cases q:l h with
   | none=>rfl
   | some o=>
    obtain⟨u,e⟩:=(y h o q).ob;rcases hT u e with z | z
    . show absurd z B
    . rw[(m h z).2]at q;cases q
 . cases q:v.heap.get? x with
   | none=>rfl
   | some o=>
    obtain⟨p,e1⟩:=i.there x o q (by simp);rw[nx]at e1;cases e1
 . cases q:v.heap.get? h with
   | none=>rfl
   | some o=>
    obtain⟨p,e1⟩:=i.there h o q (by simp);obtain⟨T,e2⟩:=j.there h p e1 (by simp);rcases hT T e2 with z | z
    . show absurd z B
    . rw[(m h z).1]at e1;cases e1
def mv{h base:Heap}{a:List Addr}:∀{l:List Env},h.FunFrames base l->(∀ b∈frs l,b∈a)->h.FunFrames (PySem.W.hideAll h a) l
 | [],_,_=>trivial
 | env::r,⟨hk,⟨L,o,hf,_,ho,hd⟩,hr⟩,hin=>(hk,(L,o,hf,Qh a (hin L (by unfold frs;rw[P0,hf];show Pn)),ho,hd),mv hr λb c=>hin b (by
   unfold frs at c ⊢;rw[P0,hf];show Pm _ c))
def qo{h h1 base:Heap}{H d:Hp}{c:List Addr}:∀{l:List Env},h.FunFrames base l->(∀ b∈frs l,b∈c/\H b=none)->Un c [] H d h h1->h1.FunFrames base l
 | [],_,_,_=>trivial
 | env::r,⟨hk,⟨L,o,hf,hn,ho,hd⟩,hr⟩,hin,u=>by
  obtain⟨h1,h2⟩:=hin L (by unfold frs;rw[P0,hf];show Pn);obtain⟨f,e⟩:=u.slot L o ho h2 h1 (by simp);show(hk,(L,_,hf,hn,e,hd),qo hr (λb a=>hin b (by unfold frs at a ⊢;rw[P0,hf];show Pm _ a)) u)
section
variable{P:Program}{w:World}{K:Frag}{mg:Str->Option Value}{base:Heap}{N:List Str}{qual:Str}{scope:Scope}{f:Addr}{cd:Value}{A:Around}{outer:List Env}{s₀:Shared}{H₀:Hp}{E:XK}
abbrev cx1(P:Program)(w:World)(K:Frag)(mg:Str->Option Value)(base:Heap)(N:List Str)(qual:Str)(scope:Scope)(f:Addr)(cd:Value)(A:Around)(outer:List Env)(s:Shared)(H:Hp)(E:XK):Cx:=
 cxOf (CX1 P w) P w K mg base N qual scope f cd A outer s H E
def aS{J:XK}(l:∀ c d H,J c d H->E c d H):je (CX1 P w) (cx1 P w K mg base N qual scope f cd A outer s₀ H₀ E) J:=by
 intro Pc σ H s e j I h;obtain⟨x,T,C,D,H',rfl,F,dx,q⟩:=h;obtain⟨X,vs,oT,Z,m,U,hc,h0,hd,h1,y,hT,p,h3⟩:=F.tr;have i:∀ b∈frs (envOfC qual scope s₀.heap.objs.size f cd::outer),H b=none:=I.stkFree;have ff:j.heap.FunFrames base (envOfC qual scope s₀.heap.objs.size f cd::outer):=qo I.stack (λb g=>(g,i b g)) F.un;change wpAny (model P w) (A.deeper<|envOfC qual scope s₀.heap.objs.size f cd) («leaving» (envOfC qual scope s₀.heap.objs.size f cd)<|.ref x) _ _ j;have u:∀ b∈frs (envOfC qual scope s₀.heap.objs.size f cd::outer),b∈frs (envOfC qual scope s₀.heap.objs.size f cd::outer)++[x,T]:=λb g=>Qi _ g
 show(om _ _).any (wpAny_leaves_onW (Q:=λ_ sN=>∃ k,sN={j with heap:=k}/\Heap.FlyingW (PySem.W.hideAll j.heap<|frs (envOfC qual scope s₀.heap.objs.size f cd::outer)++[x,T]) outer x (.ref C) m k/\j.heap.UpToSlots k) (base:=PySem.W.hideAll j.heap (frs (envOfC qual scope s₀.heap.objs.size f cd::outer)++[x,T])) (cls:=.ref C) (a0:=m) (L:=s₀.heap.objs.size) I.ok.frames rfl
  (λb o e=>Q0 _ e,Qh _ (by simp),mv ff u,X,vs,T,oT,Z,U,(hc,h0),hd,h1,Qh _ (by simp),y,hT,p,h3) λk t n=>(k,rfl,t,n)) ?_
 rintro _ _ ⟨k,rfl,t,n⟩ Y;obtain⟨k1,k2,k3,B,r,M,v,G,a1,O,a3,a4,R,S,a7,a8,a9⟩:=t;have a:∀ b o,j.heap.get? b=some o->b∉frs (envOfC qual scope s₀.heap.objs.size f cd::outer)->b∉[x,T]->k.get? b=some o:=λb o e g hx=>k1 b o<|Qw _ e λz=>(PN.mp z).elim g hx;show(x,M,C,D,H',rfl,wy (env:=envOfC qual scope s₀.heap.objs.size f cd) (base:=base) (s:=s) (sA:=j) (L:=s₀.heap.objs.size) (ex:=[x,T]) (F.os.trans I.os) F.bare rfl (Qo<|Py _) I.base I.stack i F.un F.hok (λb g=>?_) a n F.nx F.fx (λo e=>?_) (B,r,v,G,m,a1,O.1,O.2,a3,a4,S,a7,a8,a9),dx.dk Y,l _ _ _ q)
 . simp only[Pw,Qf,Ra]at g;rcases g with rfl | rfl
   . show(F.nx,F.fx)
   . show(F.nT,F.fT)
 . by_cases z:M∈frs (envOfC qual scope s₀.heap.objs.size f cd::outer)++[x,T]
   . show PN.mp z
   . rw[Qw _ e z]at R;cases R
def Hn{F:List (Addr × Obj)}{σ:St}{H:Hp}{s:Shared}{h1:Heap}{x C:Addr}{args:List Value}(I:Inv (cx1 P w K mg base N qual scope f cd A outer s₀ H₀ E) F σ H s)(g:Heap.MadeExcOf s.heap h1 x (.ref C) args)(q:E (.ref C) none H):
  (cx1 P w K mg base N qual scope f cd A outer s₀ H₀ E).xe (.ref x) {s with heap:=h1}:=by
 have c:∀ b∈frs (envOfC qual scope s₀.heap.objs.size f cd::outer),H b=none:=I.stkFree;have p:s.heap.FunFrames base (envOfC qual scope s₀.heap.objs.size f cd::outer):=I.stack;change wpAny (model P w) (A.deeper<|envOfC qual scope s₀.heap.objs.size f cd) («leaving» (envOfC qual scope s₀.heap.objs.size f cd)<|.ref x) _ _ {s with heap:=h1};show wpAny_leaves_madeW (s:={s with heap:=h1}) (base:=PySem.W.hideAll s.heap (frs (envOfC qual scope s₀.heap.objs.size f cd::outer))) (h:=s.heap) (L:=s₀.heap.objs.size) I.ok.frames rfl (λb o e=>Q0 _ e) (mv p λb d=>d) g λB t J _ _ y=>?_;obtain⟨k1,k2,k3,k,i,m,j,l,M,n,R,Q,r,v,G,D,O⟩:=J;have a:∀ b o,s.heap.get? b=some o->b∉frs (envOfC qual scope s₀.heap.objs.size f cd::outer)->b∉([]:List Addr)->B.get? b=some o:=λb o e d _=>k1 b o<|Qw _ e d;show(x,m,C,none,H,rfl,wy (env:=envOfC qual scope s₀.heap.objs.size f cd) (base:=base) (s:=s) (sA:=s) (L:=s₀.heap.objs.size) (ex:=[]) I.os I.bare rfl (Qo<|Py _) I.base p c Un.refl I.hok (λb d=>nomatch d) a ((Heap.UpToSlots.of_keeps g.keeps).trans y) g.new ?_ (λo e=>?_) (k,i,j,l,_,M,n.1,n.2,R,Q,v,G,D,O),.no,q)
 . cases z:H x with
   | none=>rfl
   | some o=>
    obtain⟨u,e⟩:=(I.hok x o z).ob;rw[g.new]at e;cases e
 . by_cases z:m∈frs (envOfC qual scope s₀.heap.objs.size f cd::outer)
   . show .inl z
   . rw[Qw _ e z]at r;cases r
end
section
variable{prog:Program}{w:World}{A:Around}{E:Value->Shared->Prop}{h:Heap}{g:Array GenState}{d:Drawn}{t:Nat}{os:OsState}{K:Frag}{a C:Addr}{o:Obj}
structure XIs(K:Frag)(C:Addr):Prop where
 ga:findIn K (.ref C) "__getattribute__"=some (some<|.builtin "BaseException.__getattribute__")
 gx:findIn K (.ref C) "__getattr__"=some none
 cl:findIn K (.ref C) "__class__"=some (some<|.builtin "object.__class__")
 mo:PySem.W.mroIn K C (.type "object")=some true
 mb:PySem.W.mroIn K C (.type "BaseException")=some true
def  qp{M:Model}{T:Value}{v:Bool}(X:K.In h)(a:PySem.W.mroIn K C T=some v):PySem.W.Looks M h (isSubtype (.ref C) T) v:=PySem.W.looks_mroIn X a
def Ly{R:Result->Shared->Prop}(X:K.In h)(Z:XIs K C)(e:h.get? a=some o)(c:o.cls=.ref C)(i:R (.ok<|.ret<|.ref C) (h,g,d,t,os)):
  codeAny (model prog w) A (.call (.builtin "getset_descriptor.__get__") ([.builtin "object.__class__",.ref a,.ref C],[])) R (h,g,d,t,os):=by
 have b:((h,g,d,t,os):Shared).TypeIs (.builtin "object.__class__") "getset_descriptor":=Sk;have f:PySem.W.Looks (model prog w) h (isSubtype (.ref C)<|.type<|".".intercalate ("object.__class__".cutAt '.').dropLast) true:=by rw[F.owner_object_class];show qp X Z.mo
 show Rb Tz.plain F.entry_gs_get (Tz.check _ _ _ _ _ _ _ _ b (F.args_gs_get _ _ _) ?_)
 repeat (any_goals (first | assumption | (with_reducible show P6 e ?_;rw[c]) | with_reducible show f.at ?_ | wp_step))
 show(SS _ (by decide+kernel),codeAny_builtin F.entry_object_class ?_)
 repeat (any_goals (first | assumption | (with_reducible show P6 e ?_;rw[c]) | wp_step))
def IR{f:Tok}{Q:Fin->Shared->Prop}(X:K.In h)(Z:XIs K C)(c:h.get? a=some o)(b:o.cls=.ref C)(m:Q (.done<|.ret<|.ref C) (h,g,d,t,os)):
  wpAny (model prog w) A (Builtin.«object.__getattribute__» ([.ref a,.str "__class__" f],[])) Q E (h,g,d,t,os):=by
 have i:((h,g,d,t,os):Shared).TypeIs (.builtin "object.__class__") "getset_descriptor":=Sk;have k:=Sk;have l:=Tz.lookup;have j:=F.slot_gs_set.lookup;have e:=Qp (M:=model prog w) X Z.cl
 repeat (any_goals (first | assumption | (with_reducible show P6 c ?_;rw[b]) | with_reducible show e.at ?_ | wp_step))
 show Ly X Z c b ?_
 repeat (any_goals (first | assumption | wp_step))
def DE{M:Model}{b:Value}{Q:Unit->Shared->Prop}(X:K.In h)(Z:XIs K C)(j:h.get? a=some o)(f:o.cls=.ref C)(k:Q () (h,g,d,t,os)):wpAny M A (checkBuiltinCall "BaseException.__getattribute__" ([.ref a,b],[])) Q E (h,g,d,t,os):=by
 have e:builtinKind "BaseException.__getattribute__"=some .slot:=by decide+kernel
 have c:splitId "BaseException.__getattribute__"=some ("BaseException" ,"__getattribute__"):=by decide+kernel
 have i:=qp (M:=M) X Z.mb;have l:=F.args_bexc_ga (.ref a) b;simp only[checkBuiltinCall,e,c];show PB ?_
 . unfold isInstance
   repeat (first | (with_reducible show P6 j ?_;rw[f]) | with_reducible show i.at ?_ | wp_step)
   show k
def  Kq{e:Tok}{R:Result->Shared->Prop}(X:K.In h)(Z:XIs K C)(c:h.get? a=some o)(b:o.cls=.ref C)(f:R (.ok<|.ret<|.ref C) (h,g,d,t,os)):
  codeAny (model prog w) A (.call (.builtin "BaseException.__getattribute__") ([.ref a,.str "__class__" e],[])) R (h,g,d,t,os):=
 Rb Sc.ga.plain F.entry_bexc_ga (DE X Z c b<|IR X Z c b f)
def LZ{l:Tok}{c b:Bool}{Q:Value->Shared->Prop}(X:K.In h)(Z:XIs K C)(i:h.get? a=some o)(f:o.cls=.ref C)(q:Q (.ref C) (h,g,d,t,os)):
  wpAny (model prog w) A (getAttrBy (.ref a) (.str "__class__" l) c b) Q E (h,g,d,t,os):=by
 have p:=Sc.ga.bind<|.ref a;have j:(b&&onTheHeap (Value.builtin "BaseException.__getattribute__"))=false:=by cases b <;> rfl
 have e:(Value.builtin "BaseException.__getattribute__"==Value.builtin "object.__getattribute__")=false:=by decide+kernel
 have n:(onTheHeap (Value.ref C)&&Value.builtin "BaseException.__getattribute__"==Value.builtin "object.__getattribute__")=false:=by rw[e];rfl
 have k:=Qp (M:=model prog w) X Z.ga;have m:=Qp (M:=model prog w) X Z.gx
 repeat (any_goals (first | assumption | (with_reducible show P6 i ?_;rw[f]) | with_reducible show k.at ?_ | with_reducible show m.at ?_ | wp_step))
 show Kq X Z i f ?_
 repeat (any_goals (first | assumption | wp_step))
def Kr{Q:Option Value->Shared->Prop}(X:K.In h)(Z:XIs K C)(c:h.get? a=some o)(b:o.cls=.ref C)(e:Q ↑C (h,g,d,t+1,os)):
  wpAny (model prog w) A (getAttr? (.ref a) "__class__") Q E (h,g,d,t,os):=by
 unfold getAttr? getAttrBy?
 repeat (any_goals (first | assumption | with_reducible apply LZ X Z c b | wp_step))
def  XO(a C:Addr)(D:Option Addr:=none):Heap->Prop:=λh=>∃ o vs,h.get? a=some o/\o.cls=.ref C/\o.data=.fields vs/\∀ d,D=some d->o.dict=some d
def DG(Z:XIs K C):∃ a d' c b,K.lookup C=some (a,d',.cls c,b):=by
 have:=Z.mo;unfold PySem.W.mroIn PySem.W.clsIn at this
 split at this
 . rename_i a d' e d f
   show(_,_,_,_,f)
 . cases this
def  BX{D:Option Addr}(Z:XIs K C):PySem.W.KitX K (.ref a) (.ref C) (XO a C D) where
 ty:=λM h _ ⟨o,vs,f,b,_⟩=>by
  intro A Q E s k q;unfold typeOf;show PB<|SN (k _ _ f) ?_;rw[b];show P9 q
 it:=λM h X _=>by
  obtain⟨m,r,l,j,i⟩:=DG Z;intro A Q E s k q;unfold isType loadHead;show PB (SN (k _ _<|X _ _ i)<|P9 q)
 ne:=λh u x y n j X c=>by
  obtain⟨m,r,l,p,i⟩:=DG Z;show Rc.mpr λq=>?_;have e:C=u:=Value.ref.inj<|Q3.mp q;subst e;have z:=(X _ _ i).symm.trans c;cases z
 ca:=λ{prog w A E Q s} X ⟨o,vs,f,b,_⟩ v=>by
  obtain⟨h,g,d,t,os⟩:=s;show Kr X Z f b v
end
def  cvOf:V->Option Value
 | .ref p=>↑p
 | .ty n=>some (.type n)
 | _=>none
def Ho{c:V}{a u:Value}(h:cvOf c=some a)(r:RelV c u):u=a:=by
 cases c with
 | ref p=>cases h;cases r;rfl
 | ty n=>cases h;cases r;rfl
 | _=>cases h
def  kIsX(K:Frag):List V->Hp->VK->Prop:=λvs H Q=>∃ a C D c d b,vs=[.ref a,c]/\H a=some (.ext<|XO a C D)/\XIs K C/\cvOf c=some d/\PySem.W.kitOne K (.ref C) d=some b/\Q (.bl b) H
def fo{X:Cx}:CallR X (.builtin "isinstance") (kIsX X.K):=by
 intro n s σ H o t Q I r h;obtain⟨a,C,D,c,j,b,rfl,f,Z,l,g,q⟩:=h;obtain⟨u,m,rfl,i,d⟩:=Bi r;cases i;have e:m=j:=Ho l d;subst e;obtain⟨p,_⟩:=I.hok a _ f;show QA (BX Z) I.kIn p g (λz=>nomatch z) λk=>(.bl b,H,I.tok k,rfl,q)
abbrev VE:List Value:=[.type "ValueError",.type "Exception",.type "BaseException",.type "object"]
def  wA(e:DictEntry):Bool:=match e.key with | .str _ _=>true | _=>false
def  jK(K:Frag)(N:Addr):Bool:=match K.lookup N with
 | some ⟨_,_,.dict es _,_⟩=>es.toList.all wA&&(nsFind es "__init__").isNone
 | _=>false
def mV{K:Frag}{N:Addr}{h:Heap}(X:K.In h)(e:jK K N=true):∃ mN,h.Ns N mN/\mN "__init__"=none:=by
 unfold jK at e
 split at e
 . rename_i c d a f j i
   simp only[P3]at e;show(nsFind a,(_,a,f,X _ _ i,rfl,λb g=>?_,λ_=>rfl),SX.mp e.2);have:=PL.mp e.1 b<|Array.mem_def.mp g;unfold wA at this
   split at this
   . rename_i n t q;show(n,t,q)
   . cases this
 . cases e
structure XC(K:Frag)(C D:Addr):Prop where
 oC:∃ nm q N bs hdct sn sub ab col dd k0 k1 k2 k3 k5,K.lookup C=some (excClassObj nm q C N bs (.ref D::VE) hdct sn sub ab col dd k0 k1 k2 k3 k5 "ValueError.__new__")/\jK K N=true
 oD:∃ c0 dd cd sl,K.lookup D=some (c0,dd,.cls cd,sl)/\jK K cd.ns=true
def  XC.mk' {K:Frag} {C D:Addr} {nm q:Str} {N:Addr} {bs:List Value} {hdct:Bool} {sn:List Str} {sub:List Value} {ab:Bool} {col:Option Bool} {dd:Option Addr} {k0 k1 k2 k3 k5:Option Value} {h:Value} {b:Option Addr} {a:ClassData} {c:Array (Option Value)}
  (e:K.lookup C=some (excClassObj nm q C N bs (.ref D::VE) hdct sn sub ab col dd k0 k1 k2 k3 k5 "ValueError.__new__")) (d:jK K N=true) (g:K.lookup D=some (h,b,.cls a,c)) (f:jK K a.ns=true):XC K C D:=
 ((_,_,_,_,_,_,_,_,_,_,_,_,_,_,_,e,d),(_,_,_,_,g,f))
def  bx(E:XK)(C:Addr)(t:TA):TS:=λ_ σ H=>t σ H λvs a=>vs.length<=sizeLine/\E (.ref C) none a
section
variable{P:Program}{w:World}{K:Frag}{mg:Str->Option Value}{base:Heap}{N:List Str}{qual:Str}{scope:Scope}{f:Addr}{cd:Value}{A:Around}{outer:List Env}{s₀:Shared}{H₀:Hp}{E:XK}
def ba {C D:Addr} {x:Str} {np b pos:Pos} {j:Expr} {a:List Expr} {t:TA} (Z:XC K C D) (hg:Gl (cx1 P w K mg base N qual scope f cd A outer s₀ H₀ E) x) (hm:mg x=↑C)
  (X:PA (cx1 P w K mg base N qual scope f cd A outer s₀ H₀ E) (j::a) t) (z:(x==("__debug__":Str))=false:=by decide)
  (J:starEach (j::a) (envOfC qual scope s₀.heap.objs.size f cd)=(false ,eval j<|envOfC qual scope s₀.heap.objs.size f cd)::starEach a (envOfC qual scope s₀.heap.objs.size f cd):=by rfl)
  (g:(backTo b<|starEach a<|envOfC qual scope s₀.heap.objs.size f cd).any (·.1)=false:=by rfl):
  PS (cx1 P w K mg base N qual scope f cd A outer s₀ H₀ E) (.Raise (some<|.Call (.Name x np) (j::a) [] b) none pos) (bx E C t):=by
 intro Pc s σ H D' I h;obtain⟨⟨L,q,v,U,i,Q,n,O,l,T,k0,k1,k2,k3,k5,l1,m⟩,⟨c0,dD,ae,sl,l2,S⟩⟩:=Z;obtain⟨r,W,G⟩:=mV I.kIn m;obtain⟨mD,hD,Y⟩:=mV I.kIn S;have hb:=I.ok.hd rfl
 show wpAny_Raise_call_subU (C:=C) (nm:=L) (q:=q) (N:=v) (bs:=U) (bm:=.ref D::VE) (bmB:=VE) (hdct:=i) (sn:=Q) (sub:=n) (ab:=O) (col:=l) (dd:=T) (k0:=k0) (k1:=k1) (k2:=k2) (k3:=k3) (k5:=k5)
  Rz (by decide+kernel) Rz (mN:=r) (by rw[List.contains_cons,show VE.contains (.type "BaseException")=true by decide+kernel,Bool.or_true]) hb (by rw[show starEach (j::a) (cx1 P w K mg base N qual scope f cd A outer s₀ H₀ E).env=_ from J];change(false||(backTo b<|starEach a<|envOfC qual scope s₀.heap.objs.size f cd).any (·.1))=false;rw[g];rfl) G (jT I hg hm (rfl,?_) z)
 have h1:=X b Pc s σ H _ I h;rw[show starEach (j::a) (cx1 P w K mg base N qual scope f cd A outer s₀ H₀ E).env=_ from J]at h1 ⊢;show Rx<|P7 h1 (λvs s₂ h₂=>?_) λ_ _ y=>y;obtain⟨xs,H2,k,rv,hl,hE⟩:=h₂;obtain⟨af,F,R⟩:=mV k.kIn m;obtain⟨ag,u,p⟩:=mV k.kIn S
 have kk:s.heap.Ns v r->s₂.heap.Ns v r:=λ⟨o,es,ep,a1,a2⟩=>by
  obtain⟨o2,aj,aa,b1,b2⟩:=F;unfold jK at m
  split at m
  . rename_i c d ai ad ah M
    have e1:=I.kIn _ _ M;have e2:=k.kIn _ _ M;rw[a1]at e1;cases e1;show(_,es,ep,e2,a2)
  . cases m
 show(rfl,by rw[← rv.length];show hl,k.kIn _ _ l1,kk W,.own (k.kIn _ _ l2) u p .base,λh' e B=>?_);show Hn k B hE
end
def  EH{P:Program}{w:World}{X:Cx}:je (CX1 P w) X E0:=λ_ _ _ _ _ _ _ h=>by obtain⟨_,_,_,_,_,_,_,_,q⟩:=h;show(show False from q).elim
section
variable{P:Program}{w:World}{K:Frag}{mg:Str->Option Value}{base:Heap}
def Fun.ok1 {x b:Str} {st:Stmt} {f:Addr} {i:FuncData} {N h:List Str} {k:Nat} {sp:Sp} (F:Fun K x b st f i) (S:aM N h (av st)) (len:∀ vs H Q E,sp vs H Q E->vs.length=h.length)
  (c:∀(d:Value) (A:Around) (a:List Env) (s:Shared) (H:Hp) (vs:List V) (Q:VK) (E:XK),Room k (A.deeper<|envOfC b (av st) s.heap.objs.size f d)->sp vs H Q E->
   ∃ t,PSs (cx1 P w K mg base N b (av st) f d A a s H E) (c9 st) t/\t {nx:=λ_ m=>Q .non m,rt:=Q} (start N vs) H):FnOk P w K mg base (CX1 P w) (k+1) f i h sp:=by
 obtain⟨y,r,p,n,q,u,d,v,j,rfl,l,g⟩:=F.ex;show Ij l g S len λA a s H vs Q E o e=>c d A a s H vs Q E o e
end
section
variable{X:Cx}{Pc:List (Addr × Obj)}{σ:St}{H:Hp}{s s':Shared}
def F3{l:Hp}{x T C:Addr}{a0:Value}{h5:Heap}{D:Option Addr}(dx:DX h5 x D)(I:Inv X Pc σ H s)(F:Fly X.prog X.w X.stack H s x T C l s')(fl:Heap.FlyingW (PySem.W.hideAll s'.heap<|frs X.stack++[x,T]) X.stack x (.ref C) a0 h5)(M:s'.heap.UpToSlots h5):
  Inv X Pc σ (upd l x<|.ext<|XO x C D) {s' with heap:=h5}:=by
 obtain⟨k1,_,_,K,vs,Y,oT,Z,v,S,N,_⟩:=fl;have c:∀ b o,s'.heap.get? b=some o->b∉frs X.stack->b∉[x,T]->h5.get? b=some o:=λb o e f R=>k1 b o<|Qw _ e λz=>(PN.mp z).elim f R;have t:∀ b∈frs X.stack,∃ o,s.heap.get? b=some o/\∀ vs,o.data≠.fields vs:=λb f=>(I.stack.mem f).2;have h:=I.stkFree
 have i:∀ b o,s.heap.get? b=some o->b∉[x,T]:=λb o e z=>by
  simp only[Pw,Qf,Ra]at z;rcases z with rfl | rfl
  . rw[F.nx]at e;cases e
  . rw[F.nT]at e;cases e
 have g:∀ b o,s.heap.get? b=some o->H b=none->b∈frs X.stack->∃ A,h5.get? b=some {o with slots:=A}:=λb o e n f=>by
  obtain⟨A,e1⟩:=F.un.slot b o e n f (by simp);obtain⟨o2,e2,U⟩:=t b f;rw[e]at e2;cases e2;obtain⟨B,P⟩:=M b _ e1 U;show(B,P)
 have y:∀ b∈frs X.stack,l b=none:=λb f=>by
  obtain⟨o,e,d⟩:=t b f;show F.un.free b o e (h b f) (by simp)
 have p:∀ b o,l b=some o->b≠x:=λb o e z=>by rw[z,F.fx]at e;cases e
 have E:ObjOk X.prog X.w (upd l x<|.ext<|XO x C D) h5 x (.ext<|XO x C D):=((K,vs,v,S.1,N,λd e=>by obtain⟨o,q,r⟩:=dx d e;rw[v]at q;cases q;show r),(K,v),λh1 h2 ⟨o,vs,q,r⟩ k=>(o,vs,k o q,r));show I.call' (ch:=[]) F.os (λb o e n f _=>?_,λb o e n f _=>?_,λb o e n _=>?_,λb o e _=>?_,λb L e=>?_,λb o u e=>?_,λb O e=>?_) (λa o e=>?_) F.bare λb z=>absurd z (by simp)
 . show c b o (F.un.keep b o e n f (by simp)) f (i b o e)
 . show g b o e n f
 . have Q:=F.un.free b o e n (by simp);rw[ao λz=>i b o e (by rw[z];simp)];show Q
 . by_cases f:b∈frs X.stack
   . obtain⟨A,e1⟩:=g b o e (h b f) f;show(_,e1)
   . obtain⟨J,e1⟩:=F.un.there b o e (by simp);show(J,c b J e1 f<|i b o e)
 . have q:=F.un.tups b L e;rw[ao<|p b _ q];show q
 . have q:=F.un.frzs b o u e;rw[ao<|p b _ q];show q
 . obtain⟨m,q⟩:=F.un.tbls b O e;show(m,by rw[ao<|p b _ q];show q)
 . by_cases G:a=x
   . subst G;rw[ak]at e;cases e;show E
   . rw[ao G]at e;show(F.hok a o e).stay (λb u f q=>?_) (λb q=>?_) λb L q=>?_
     . have j:l b≠none:=by
        rcases f with rfl | f
        . rw[e];simp
        . rw[f];simp
       show c b u q (λz=>j<|y b z) λz=>?_;simp only[Pw,Qf,Ra]at z;rcases z with rfl | rfl
       . show j F.fx
       . show j F.fT
     . rw[ao<|p b _ q];show q
     . rw[ao<|p b _ q];show q
def u8 {M:Model} {A:Around} {E:Value->Shared->Prop} {i:Nat} {x:Str} {pos:Pos} {Q:Unit->Shared->Prop} (I:Inv X Pc σ H s) (L:X.N.Nodup) (J:X.N[i]? =some x) (hk:X.env.kindOf x=some .local)
  (h:∀ s',Inv X Pc (σ.set i none) H s'->Q () s'):wpAny M A (do bindName X.env x .none;unbindBehindTheSuite X.env x pos) Q E s:=by
 obtain⟨m,F,hl⟩:=id I.loc;have g:(X.env.scope.kind==.class||(X.env.scope.kind==.module&&X.env.locals != X.env.globals))=false:=by rw[I.ok.kind];rfl
 have B:i<σ.length:=by rw[I.len];show(Ps.mp J).1
 have l:=I.cne;show wpAny_nameGoes_keeps hk F g λU v C f=>?_;obtain⟨oL,_,_,aa,_⟩:=id F
 have a:HOk X.prog X.w H U:=λb Y e=>by
  show(I.hok b Y e).stay (λc K t q=>(f.2 c ?_).trans q) (λ_ q=>q) λ_ _ q=>q;rintro rfl;rcases t with rfl | t
  . rw[I.free]at e;cases e
  . rw[I.free]at t;cases t
 show h _ (I.ok,I.os,I.bare,(λb o e n D r=>?_,λb o e n D r=>?_,I.base.free,λb o e r=>?_,I.base.tups,I.base.frzs,I.base.tbls),(_,C,λj y R e1 e2 e3=>?_),λy c e=>?_,I.free,I.freeC,λp P=>?_,a,by simpa using I.len)
 . show(f.2 b<|P5<|PU (PQ e) I.ok.above).trans (I.base.keep b o e n D r)
 . obtain⟨T,e1⟩:=I.base.slot b o e n D r;show(T,(f.2 b<|P5<|PU (PQ e) I.ok.above).trans e1)
 . obtain⟨O,e1⟩:=I.base.there b o e r;show(O,(f.2 b<|P5<|PU (PQ e) I.ok.above).trans e1)
 . by_cases u:j=i
   . subst u;rw[RW B]at e2;cases e2
   . rw[Ss<|Rt u]at e2;obtain⟨W,S,q⟩:=hl j y R e1 e2 e3;show(W,S,?_);rcases q with ⟨k,e⟩ | ⟨k,c,e,z⟩
     . show .inl (k,?_);have:y≠x:=λe=>u<|wm L e1<|e ▸ J;simp[this,e]
     . show .inr (k,c,e,z.sameBut f<|l y c e)
 . obtain⟨K,z⟩:=I.cell y c e;show(K,z.sameBut f<|l y c e)
 . obtain⟨e,n,G,Z,d⟩:=I.pin p P;show((f.2 p.1 G).trans e,n,G,Z,d)
end
abbrev Cx.caught(X:Cx)(x:Addr):Cx:={X with A:=X.A.mark ↑x,calm:=false,xe:=λ_ _=>False}
section
variable{X:Cx}{Pc:List (Addr × Obj)}{σ:St}{H:Hp}{s:Shared}{x:Addr}
def  Cx.Ok.caught(a:X.Ok):(X.caught x).Ok:=
 (a.mod,a.kind,a.glob,a.blt,a.above,a.inj,a.has,a.cab,(λz=>nomatch z),a.frames,a.stk,a.exf,a.bs,a.bsz,a.noex,a.exfs,a.funs,a.frf)
def  Inv.caught(I:Inv X Pc σ H s):Inv (X.caught x) Pc σ H s:=(I.ok.caught,I.os,I.bare,I.base,I.loc,I.cell,I.free,I.freeC,I.pin,I.hok,I.len)
def  Inv.uncaught(a:X.Ok)(I:Inv (X.caught x) Pc σ H s):Inv X Pc σ H s:=(a,I.os,I.bare,I.base,I.loc,I.cell,I.free,I.freeC,I.pin,I.hok,I.len)
end
def  Came(X:Cx)(c:List (Addr × Obj))(σ:St)(E:XK)(e:Value)(s':Shared):Prop:=∃ a b,Inv X c σ a b/\CX1 X.prog X.w X.stack a b E e s'
section
variable{X:Cx}{k:Nat}{f:Addr}{fd:FuncData}{ps:List Str}{sp:Sp}{x:Str}{p pos:Pos}{e:Expr}{es:List Expr}{t:TA}
def  DH(b:Bool)(K:Frag)(f:Value)(i:Nat)(E:XK)(g:TS):TS:=λD σ _=>∀ C e d,E (.ref C) e d->PySem.W.exmOne K (.ref C) f=some true/\∀ x,d x=none->
 g {nx:=λc a=>D.nx (c.set i none) a,rt:=D.rt,bk:=λc a=>D.bk (c.set i none) a,ct:=λc a=>D.ct (c.set i none) a} (σ.set i ↑x) (upd d x<|.ext<|XO x C<|bif b then e else none)
def IS{M:Model}{a C:Addr}{D:Option Addr}{h:Heap}(z:XO a C D h):PySem.W.Looks M h (typeOf<|.ref a) (.ref C):=by
 obtain⟨o,vs,c,b,_⟩:=z;intro A Q E s k q;unfold typeOf;show PB<|SN (k _ _ c) ?_;rw[b];show P9 q
def F4 {Y:Bool} {Pc:List (Addr × Obj)} {s':Shared} {σ:St} {H:Hp} {D:Ends} {E:XK} {i:Nat} {n S:Str} {cv e:Value} {np P:Pos} {b₀:Stmt} {f:List Stmt} {th:TS} (G:X.N.Nodup) (L:X.N[i]? =some n) (a:X.env.kindOf n=some .local) (hg:Gl X S) (hm:X.mg S=some cv)
  (k:X.stack=X.env::X.outer) (hf:X.env.frame=some X.env.locals) (hs:∀ x,PSs (X.caught x) (b₀::f) th) (hc:Came X Pc σ E e s') (h:DH Y X.K cv i E th D σ H) (ae:(S==("__debug__":Str))=false:=by decide):
  wpAny (model X.prog X.w) X.A (noteFrame e X.env) (λ_ s₂=>wpAny (model X.prog X.w) X.A (setFlight e none) (λ_ s₃=>wpAny (model X.prog X.w) X.A (handleBy e X.env [.ExceptHandler (some<|.Name S np) (some n) (b₀::f) P]) (SP X Pc D) X.xe s₃) X.xe s₂) X.xe s':=by
 obtain⟨H1,s1,I,x,T,C,Dx,H',rfl,F,U,q⟩:=hc;obtain⟨hC,af⟩:=h C Dx H' q;have dx:DX s'.heap x (bif Y then Dx else none):=by cases Y;show .no;show U
 obtain⟨oe,vs,oT,ts,m,he,ab,h0,hd,h1,ag,hT,Z,h3⟩:=F.tr;have ff:s'.heap.FunFrames X.base X.stack:=qo I.stack (λb R=>(R,I.stkFree b R)) F.un
 have fl:Heap.FlyingW (PySem.W.hideAll s'.heap<|frs X.stack++[x,T]) X.stack x (.ref C) m s'.heap:=
  (λb o e=>Q0 _ e,Qh _ (by simp),mv ff λb R=>Qi _ R,oe,vs,T,oT,ts,he,(ab,h0),hd,h1,Qh _ (by simp),ag,hT,Z,h3)
 have J:=fl;rw[k]at J;have ad:X.A.frames=some (X.env::X.outer):=by rw[I.ok.frames,k]
 show(tJ _ _).any (wpAny_looks_onW (Q:=λ_ O=>∃ d,O={s' with heap:=d}/\Heap.HeldW (PySem.W.hideAll s'.heap<|frs (X.env::X.outer)++[x,T]) (X.env::X.outer) x (.ref C) m X.env.locals d/\s'.heap.UpToSlots d) ad hf J λh4 c j=>(h4,rfl,c,j)) ?_;rintro _ _ ⟨h4,rfl,c,j⟩ k4;show(mt _ _).any (wpAny_landsW (Q:=λ_ O=>∃ d,O={s' with heap:=d}/\Heap.FlyingW (PySem.W.hideAll s'.heap<|frs (X.env::X.outer)++[x,T]) (X.env::X.outer) x (.ref C) m d/\h4.UpToSlots d) c λh5 l g=>(h5,rfl,l,g)) ?_;rintro _ _ ⟨h5,rfl,l,g⟩ k5;have d5:=(dx.dk k4).dk k5;have I5:=F3 (a0:=m) (h5:=h5) d5 I F (by rw[k];show l)<|j.trans g;show wpAny_handleBy_cons (codeAny_handlers_test<|jT (X:=X.caught x) I5.caught hg hm ?_ ae) (by intro q;cases q);have aa:XO x C _ h5:=(I5.hok x _ ak).1;show(PySem.W.exm_one (M:=model X.prog X.w) (h:=h5) I5.kIn (IS aa) hC).here ?_;show codeAny_handlers_suite_as ?_;show(mt _ _).any (lands_againW (Q:=λ_ O=>∃ d,O={s' with heap:=d}/\Heap.FlyingW (PySem.W.hideAll s'.heap<|frs (X.env::X.outer)++[x,T]) (X.env::X.outer) x (.ref C) m d/\h5.UpToSlots d) l λh6 p B=>(h6,rfl,p,B)) ?_;rintro _ _ ⟨h6,rfl,p,B⟩ k6;have I6:=F3 (a0:=m) (h5:=h6) (d5.dk k6) I F (by rw[k];show p)<|(j.trans g).trans B;show wn (X:=X.caught x) (v:=.ref x) I6.caught G L (.inl a) rfl (λs7 I7=>?_)<|.inr a;show P7 (hs x Pc s7 _ _ _ I7<|af x F.fx) (λfw s8 h8=>?_) λ_ _ z=>z.elim
 cases fw with
 | next=>obtain⟨σ',t,s,r⟩:=h8;show u8 (s.uncaught I.ok) G L a λs' y=>(_,t,y,r)
 | brk=>obtain⟨σ',t,s,r⟩:=h8;show u8 (s.uncaught I.ok) G L a λs' y=>(_,t,y,r)
 | cont=>obtain⟨σ',t,s,r⟩:=h8;show u8 (s.uncaught I.ok) G L a λs' y=>(_,t,y,r)
 | ret u=>obtain⟨v,σ',t,s,r9,r⟩:=h8;show u8 (s.uncaught I.ok) G L a λs' y=>(v,_,t,y,r9,r)
end
def  n5(a:Array DictEntry):Bool:=a.toList.all wA&&(nsFind a "__init__").isNone
variable{K:Frag}{sl:Array (Option Value)}
def tK{N:Addr}{c:Value}{d:Option Addr}{a:Array DictEntry}{n:Nat}(l:K.lookup N=some (c,d,.dict a n,sl))(h:n5 a=true):jK K N=true:=by
 unfold jK;rw[l];show h
structure EA where
 ClueError:Addr
 NoFloor:Addr
 NoFilling:Addr
 NoRule:Addr
 NoPuzzle:Addr
 TooMany:Addr
 NotOne:Addr
 NoMove:Addr
 NoText:Addr
 NoName:Addr
 NoRow:Addr
 BadThought:Addr
abbrev Glb(K:Frag)(x:Str)(C:Addr):Prop:=nsIn K mainGlobals x=some ↑C
variable{C:Addr}
def Glb.eq{x:Str}{D:Addr}(h:Glb K x C)(h':Glb K x D):C=D:=by
 have:=h.symm.trans h';cases this;rfl
abbrev Tl:=@Glb.eq
structure ag(K:Frag)(a:EA)(x:Str)(C:Addr)(os:List Addr):Prop where
 g:Glb K x C
 xc:XC K C a.ClueError
 xis:XIs K C
 ve:PySem.W.kitOne K (.ref C) (.type "ValueError")=some true
 ex:PySem.W.exmOne K (.ref C) (.ref a.ClueError)=some true
 no:∀ y∈os,PySem.W.kitOne K (.ref C) (.ref y)=some false
def iP:PySem.W.kitOne K (.ref C) (.ref C)=some true:=by
 unfold PySem.W.kitOne;rw[PK (by simp)]
variable{D:Option Addr}
def  mP{x y:Addr}{b:Bool}{H:Hp}{Q:VK}(Z:XIs K C)(c:H x=some (.ext<|XO x C D))(a:PySem.W.kitOne K (.ref C) (.ref y)=some b)(h:Q (.bl b) H):kIsX K [.ref x,.ref y] H Q:=(x,C,D,_,_,b,rfl,c,Z,rfl,a,h)
def  Ks{x:Addr}{n:String}{b:Bool}{H:Hp}{Q:VK}(Z:XIs K C)(c:H x=some (.ext<|XO x C D))(a:PySem.W.kitOne K (.ref C) (.type n)=some b)(h:Q (.bl b) H):kIsX K [.ref x,.ty n] H Q:=(x,C,D,_,_,b,rfl,c,Z,rfl,a,h)
def  Lz {D:Addr} {nm q:Str} {N c:Addr} {bs:List Value} {hdct:Bool} {sn:List Str} {sub:List Value} {ab:Bool} {col:Option Bool} {dd:Option Addr} {k0 k1 k2 k3 k5:Option Value} {i:Value} {l:Option Addr} {b:ClassData}
  {r e:Value} {f h:Option Addr} {d a:Array DictEntry} {n t:Nat} {m k:Array (Option Value)}
  (s:K.lookup C=some (excClassObj nm q C N bs (.ref D::VE) hdct sn sub ab col dd k0 k1 k2 k3 k5 "ValueError.__new__")) (u:K.lookup N=some (r,f,.dict d n,m)) (o:n5 d=true)
  (g:K.lookup D=some (i,l,.cls b,sl)) (e2:b.ns=c) (j:K.lookup c=some (e,h,.dict a t,k)) (p:n5 a=true):XC K C D:=.mk' s (tK u o) g (tK (by rw[e2];show j) p)
def AG:bootBuiltins "ValueError"=some (.type "ValueError"):=by decide+kernel
structure Cal1(P:Program)(w:World)(K:Frag)(mg:Str->Option Value)(base:Heap)(k:Nat)(x:Str)(ps:List Str)(sp:Sp):Prop where
 ex:∃(f:Addr) (fd:FuncData),FnOk P w K mg base (CX1 P w) k f fd ps sp/\mg x=↑f/\keepIn K (.ref f)=true/\Binds K fd ps []
def aU {X:Cx} {k n:Nat} {x:Str} {o:List Str} {sp:Sp} {p pos:Pos} {e:Expr} {a:List Expr} {t:TA} {E:XK} (m:je (CX1 X.prog X.w) X E) (C:Cal1 X.prog X.w X.K X.mg X.base k x o sp) (j:Room n X.A) (g:k<=n) (l:Gl X x) (h:PA X (e::a) t)
  (b:(x==("__debug__":Str))=false:=by decide) (i:starEach (e::a) X.env=(false ,eval e X.env)::starEach a X.env:=by rfl) (c:(backTo pos<|starEach a X.env).any (·.1)=false:=by rfl):
  PE X (.Call (.Name x p) (e::a) [] pos) (tCall sp [] E t):=by
 obtain⟨f,s,F,q,d,r⟩:=C.ex;show Dt F (j.mono g) l q d r .nil m h b i c
def  cMulB:R2
 | .int i,.int j,H,Q=>IntMulOk i j/\Q (.int<|i*j) H
 | _,_,_,_=>False
end L2
namespace Att
open PySem PySem.W PySem.Calls PyProof.Rows
end Att
namespace L2
open PySem PySem.Spec PyProof.Rows
section
variable{K:Frag}{H:Hp}{Q:VK}{D:Ends}{σ:St}
def  L9{i j:Int}:cMulB (.int i) (.int j) H Q=(IntMulOk i j/\Q (.int<|i*j) H):=rfl
def  iQ{i j:Int}:cPow (.int i) (.int j) H Q=(CPow i j/\Q (.int<|i^j.toNat) H):=rfl
def  bf{E:XK}{C:Addr}{t:TA}:bx E C t D σ H=t σ H λvs a=>vs.length<=sizeLine/\E (.ref C) none a:=rfl
def  IT{ix:List (Option Nat)}{c:TE}{g:TG}{e:TT}{b:TE}:tComp ix (iTup K c) g e b σ H Q=c σ H λx d=>∃ a,x=.ref a/\(∃ xs,SqT K d a xs)/\CompR (Itt K a) g e b (λl f=>Q (.ref l) f) (subσ ix σ) d:=rfl
def lC{p q:Addr}{xs ys:List V}(d:H p=↥xs)(c:H q=↥ys)(b:xs.length+ys.length<=1000)(h:∀ r,H r=none->Q (.ref r) (upd H r<|.lst<|xs++ys)):cAdd (.ref p) (.ref q) H Q:=by
 change bnd (unM<|H p) _;rw[d];show bV (a:=xs) rfl ?_;rw[c];show bV (a:=ys) rfl (Qd<|aZ b,h)
def Hq {g:TG} {s:TT} {o:TE} {a:Addr} {xs:List V} {h:Addr->Hp->Prop} {t:St} {f:Hp} (d:Addr->Nat->St->Hp->Prop) (h0:∀ l,f l=none->d l 0 t (upd f l<|.lst [])) (B:∀ l i σ H,f l=none->i<=xs.length->d l i σ H->SqT K H a xs)
  (A:∀ l i x σ H,f l=none->xs[i]? =some x->d l i σ H->g x σ H λk C=>s k C λb r=>if b=true then o k r λy n=>∃ ys,n l=↥ys/\ys.length<sizeLine/\d l (i+1) k (upd n l<|.lst<|ys++[y]) else d l (i+1) k r)
  (w:∀ l σ H,f l=none->d l xs.length σ H->h l H):CompR (Itt K a) g s o h t f:=by
 intro l c;show(λi m σ H=>m=xs.length-i/\i<=xs.length/\d l i σ H,(xs.length,by simp,Qg _,h0 l c),?_);rintro i m σ H ⟨rfl,z,p⟩;have q:=B l i σ H c z p;by_cases j:i<xs.length
 . show .inr ((xs,xs[i],q,by simp[j]),d l<|i+1,λD v u=>(xs.length - (i+1),by lia,rfl,j,u),λx v y=>?_);obtain⟨e,y⟩:=y;subst e;show A l i x σ _ c (y xs q) p
 . have e:i=xs.length:=by lia
   subst e;show .inl ((xs,q,Py _),w l σ H c p)
end
inductive RK where
 | Rule | Unlike | Sum | Rising | Seen | Count | Joined | NoSquare | Ring
 deriving DecidableEq
structure RCl (ι:Type) where
 A:ι->Addr
 ok:ι->Bool
section
variable{ι:Type}
def  tFldK(c:RCl ι)(e:TE)(f:Str):TE:=λσ H Q=>e σ H λx b=>∃ a k g d v,x=.ref a/\c.ok k=true/\b a=some (.ins (c.A k) g d)/\d.lookup f=some v/\Q v b
def  sFldK(c:RCl ι)(g i:TE)(f:Str):TS:=λD σ H=>i σ H λy h=>g σ h λx e=>∃ a k d b,x=.ref a/\c.ok k=true/\e a=some (.ins (c.A k) d b)/\b.length<1000/\
 D.nx σ (upd e a<|.ins (c.A k) d<|putF f y b)
def  bW(c:RCl ι)(b:ι->Bool)(m:Str)(sp:ι->Sp)(f:TE)(t:TA):TE:=λσ H Q=>f σ H λx e=>∃ a k g d,x=.ref a/\b k=true/\e a=some (.ins (c.A k) g d)/\d.lookup m=none/\
 t σ e λvs h=>sp k (x::vs) h Q E0
structure FldK(K:Frag)(c:RCl ι)(f:Str):Prop where
 ex:∀ k,c.ok k=true->Cls K (c.A k)/\NoAttr K (c.A k) f
structure MCal(P:Program)(w:World)(K:Frag)(mg:Str->Option Value)(base:Heap)(c:RCl ι)(okm:ι->Bool)(k:Nat)(m:Str)(ps:List Str)(sp:ι->Sp):Prop where
 ex:∀ i,okm i=true->∃(f:Addr) (fd:FuncData),Cls K (c.A i)/\Meth K (c.A i) m f/\FnOk P w K mg base CX0 k f fd ps (sp i)/\Binds K fd ps []
structure KCal(P:Program)(w:World)(K:Frag)(mg:Str->Option Value)(base:Heap)(k:Nat)(x:Str)(C:Addr)(ps:List Str)(sp:Sp):Prop where
 ex:∃(f:Addr) (fd:FuncData),Mk K C f/\FnOk P w K mg base CX0 k f fd ps sp/\mg x=↑C/\Binds K fd ps []
end
section
variable{ι:Type}{X:Cx}{c:RCl ι}{o e value:Expr}{es:List Expr}{f x m:Str}{p pos pos' apos:Pos}{ta tv:TE}{t:TA}{okm:ι->Bool}{k n:Nat}{ps:List Str}{sp:ι->Sp}{sp1:Sp}{C:Addr}
def fB(d:PE X e ta)(F:FldK X.K c f)(y:attributeBase e f X.env (eval e X.env)=eval e X.env:=by rfl):PE X (.Attribute e f pos) (tFldK c ta f):=by
 intro o s σ H Q I h;show Ds y<|thn (d o s σ H _ I h) λu B ⟨x,i,j,n,a,k,A,z,v,p,b,t,l,q⟩=>?_;subst p;obtain rfl:u=Value.ref a:=n;obtain⟨r,w⟩:=F.ex k b;show Er j t r w l λC D m g=>(v,i,m,g,q)
def jX(d:PE X o ta)(m:PE X value tv)(F:FldK X.K c f)(v:swapsWith value (some<|.Attribute o f pos') pos.line X.env=pure false:=by rfl):PS X (.Assign [.Attribute o f pos'] value pos) (sFldK c ta tv f):=by
 intro b s σ H D I h;show Si (thn (m b s σ H _ I h) λu n ⟨y,t,E,p,q⟩=>thn (d b n σ t _ E q) λz L ⟨x,G,B,e,a,k,J,N,C,r,i,l,w⟩=>?_) v;subst C;obtain rfl:z=Value.ref a:=e;obtain⟨g,j⟩:=F.ex k r;show Es B i g j l p λM A=>(σ,_,A,w)
def  Hr {pl:Sem Bool} (M:MCal X.prog X.w X.K X.mg X.base c okm k m ps sp) (R:Room n X.A) (L:k<=n) (B:PE X o ta) (z:PA X (e::es) t)
  (b:starEach (e::es) X.env=(false ,eval e X.env)::starEach es X.env:=by rfl) (d:(backTo pos<|starEach es X.env).any (·.1)=false:=by rfl)
  (D:eval (.Call (.Attribute o m apos) (e::es) [] pos) X.env=(do
   let ov ← eval o X.env
   standAt apos.atName
   let (f ,first) ← holding [ov] (getMethod ov m pl)
   callWith pos f first (backTo pos<|starEach (e::es) X.env) (backToKw pos<|keywordEach [] X.env)):=by rfl):
  PE X (.Call (.Attribute o m apos) (e::es) [] pos) (bW c okm m sp ta t):=by
 intro j s σ H Q I h;show Q6 (pl:=pl) (thn (B j s σ H _ I h) λu J ⟨x,O,y,C,a,i,Y,fs,S,N,G,l,q⟩=>?_) D;subst S;obtain rfl:u=Value.ref a:=C;obtain⟨f,U,E,p,F,T⟩:=M.ex i N;show nQ y G E p l ?_;show QT (first:=[.ref a]) (h₀:=X.base) I.ok.mod.kin p.kp (thn (z pos j J σ O _ y q) λg Z ⟨vs,W,v,r,P⟩=>(v.kIn,?_)) b d;show w5 (us:=.ref a::g) (vs:=.ref a::vs) F (R.mono L) T .nil xa v (.cons rfl r) (by rw[QI];show P)
def bL {pl:Sem Bool} (M:MCal X.prog X.w X.K X.mg X.base c okm k m ps sp) (p:Room n X.A) (e:k<=n) (j:PE X o ta)
  (y:eval (.Call (.Attribute o m apos) [] [] pos) X.env=(do
   let ov ← eval o X.env
   standAt apos.atName
   let (f ,first) ← holding [ov] (getMethod ov m pl)
   callWith pos f first (backTo pos<|starEach [] X.env) (backToKw pos<|keywordEach [] X.env)):=by rfl):
  PE X (.Call (.Attribute o m apos) [] [] pos) (bW c okm m sp ta tNil):=by
 intro t s σ H Q I h;show Q6 (pl:=pl) (thn (j t s σ H _ I h) λu L ⟨x,G,b,r,a,i,J,E,v,g,B,l,q⟩=>?_) y;subst v;obtain rfl:u=Value.ref a:=r;obtain⟨f,D,z,d,F,C⟩:=M.ex i g;show nQ b B z d l ?_;show PySem.W.callWith_K0 (first:=[.ref a]) b.kIn d.kp (w5 (us:=[.ref a]) (vs:=[.ref a]) F (p.mono e) C .nil xa b (.cons rfl .nil) q)
def pk (M:KCal X.prog X.w X.K X.mg X.base k x C ps sp1) (h:Room n X.A) (c:k+1<=n) (i:Gl X x) (d:PA X (e::es) t)
  (a:(x==("__debug__":Str))=false:=by decide) (g:starEach (e::es) X.env=(false ,eval e X.env)::starEach es X.env:=by rfl) (b:(backTo pos<|starEach es X.env).any (·.1)=false:=by rfl):
  PE X (.Call (.Name x p) (e::es) [] pos) (tMake C sp1 [] E0 t):=by
 obtain⟨f,m,mk,F,j,l⟩:=M.ex;show Du mk F (h.mono c) i j l .nil xa d a g b
end
def  oo(K:Frag):List V->Hp->VK->Prop
 | [.ref p],H,Q=>bnd (unM<|H p) λys=>∀ l,H l=none->Q (.ref l) (upd H l<|.tup ys)
 | _,_,_=>False
def  tInG(b:List Str)(a:Bool)(d:TE):TE:=λσ H Q=>d σ H λx c=>∃ z,x=.str z/\Q (.bl (if a then !decide (z∈b) else decide (z∈b))) c
structure GTup(K:Frag)(mg:Str->Option Value)(x:Str)(ws:List Str):Prop where
 ex:∃(p:Addr) (o:Obj) (Pf:Array Value) (n:Nat),mg x=↑p/\K.lookup p=some o/\o.cls=.type "tuple"/\o.data=.seq Pf n/\Pf.size<=sizeLine/\Vals (ws.map V.str) Pf.toList
def pq:∀ ns:List Str,(ns.map V.str).all flatV=true
 | []=>rfl
 | n::r=>by rw[Pz,Sr,pq r];rfl
def rq(i:Str):∀ ns:List Str,inV (.str i) (ns.map V.str)=decide (i∈ns)
 | []=>by simp[inV]
 | n::r=>by
  have a:=rq i r;unfold inV at a ⊢;rw[Pz,Re,a];change((n==i)||decide (i∈r))=decide (i∈n::r);rw[QS,Sz,Q3,PP,PP,Pw];show(λh=>h.elim (λe=>.inl e.symm) .inr,λh=>h.elim (λe=>.inl e.symm) .inr)
section
variable{X:Cx}{a:Expr}{ta:TE}{pos p:Pos}{x:Str}{ws:List Str}
def vS:CallR X (.type "tuple") (oo X.K):=by
 intro a s σ H d b Q I r h;unfold oo at h
 split at h
 . obtain⟨c,e,q⟩:=cV h;show AE a s σ H _ b Q I r (_,c,rfl,.inl (Qm<|og e,q))
 . show h.elim
def Kt{ws:List Str}{q:Addr}(c:∃(o:Obj) (Pf:Array Value) (n:Nat),X.K.lookup q=some o/\o.cls=.type "tuple"/\o.data=.seq Pf n/\Pf.size<=sizeLine/\Vals (ws.map V.str) Pf.toList):
  OpR X (compareOp .In) (λx y H Q=>∃ z,x=.str z/\y=.ref q/\Q (.bl<|decide<|z∈ws) H):=by
 intro a s σ H x y v u Q I d b h;obtain⟨z,rfl,rfl,h⟩:=h;show tw a s σ H _ _ v u Q I d b (q,ws.map V.str,rfl,.inr<|.inr c,rfl,pq ws,?_);rw[rq];show h
def IU{ws:List Str}{q:Addr}(c:∃(o:Obj) (Pf:Array Value) (n:Nat),X.K.lookup q=some o/\o.cls=.type "tuple"/\o.data=.seq Pf n/\Pf.size<=sizeLine/\Vals (ws.map V.str) Pf.toList):
  OpR X (compareOp .NotIn) (λx y H Q=>∃ z,x=.str z/\y=.ref q/\Q (.bl<|!decide (z∈ws)) H):=by
 intro a s σ H x y v u Q I d b h;obtain⟨z,rfl,rfl,h⟩:=h;show Br a s σ H _ _ v u Q I d b (q,ws.map V.str,rfl,.inr<|.inr c,rfl,pq ws,?_);rw[rq];show h
end
section
variable{ι:Type}{c:RCl ι}{ta tv:TE}{t:TA}{f m:Str}{σ:St}{H:Hp}{Q:VK}{D:Ends}{okm:ι->Bool}{sp:ι->Sp}{sp1:Sp}{C:Addr}{K:Frag}
def  IV:sFldK c ta tv f D σ H=tv σ H λy e=>ta σ e λx d=>∃ a k dx b,x=.ref a/\c.ok k=true/\d a=some (.ins (c.A k) dx b)/\b.length<1000/\D.nx σ (upd d a<|.ins (c.A k) dx<|putF f y b):=rfl
def  oq:tMake C sp1 [] E0 t σ H Q=t σ H λvs a=>∀ x dx,a x=none->a dx=none->dx≠x->sp1 (.ref x::(vs++[])) (upd (upd a dx<|.own x) x<|.ins C dx []) (λv b=>v=.non/\Q (.ref x) b) E0:=rfl
def  iR{b:List Str}{a:Bool}{c:TE}:tInG b a c σ H Q=c σ H λx d=>∃ z,x=.str z/\Q (.bl (if a then !decide (z∈b) else decide (z∈b))) d:=rfl
def IW{p:Addr}{xs:List V}(a:H p=↥xs)(h:∀ l,H l=none->Q (.ref l) (upd H l<|.tup xs)):oo K [.ref p] H Q:=by
 unfold oo;dsimp only;rw[a];show h
end
def  cntD(ns:∅):Nat:=(firstMet (λi=>ns.getD i 0) ns.length).length
def  yU(c:TE):TE:=λσ H Q=>c σ H λx b=>∃ p a,x=.ref p/\b p=↥(a.map V.int)/\a.length<=900/\Q (.int (cntD a:Nat)) b
def  c5{b:TE}{σ:St}{H:Hp}{Q:VK}:yU b σ H Q=b σ H λx a=>∃ p ns,x=.ref p/\a p=↥(ns.map V.int)/\ns.length<=900/\Q (.int (cntD ns:Nat)) a:=rfl
def IX:bootBuiltins "set"=some (.type "set"):=by decide+kernel
def F5 {X:Cx} {e:Expr} {z:TE} {p g pos a:Pos} (T:X.calm=true) (m:Gl X "len") (r:Gl X "set") (M:X.mg "len"=none) (S:X.mg "set"=none) (G:PE X e z)
  (c:starEach [.Call (.Name "set" g) [e] [] a] X.env=[(false ,eval (.Call (.Name "set" g) [e] [] a) X.env)]:=by rfl) (d:starEach [e] X.env=[(false ,eval e X.env)]:=by rfl):
  PE X (.Call (.Name "len" p) [.Call (.Name "set" g) [e] [] a] [] pos) (yU z):=by
 intro C s σ H Q I h;show Qz<|lx I m M ck ?_ #[1] #[1];show Sn ?_ c rfl;rw[c];change wpAny _ _ (spliced [(false ,eval (.Call (.Name "set" g) [e] [] a) X.env)]) _ _ s;show Rm ?_;show Qz<|lx I r S IX ?_ #[1] #[1];show QF ?_ d rfl;rw[d];change wpAny _ _ (spliced [(false ,eval e X.env)]) _ _ s;show Rm<|thn (G C s σ H _ I h) λu B ⟨x,D,E,W,P⟩=>?_;show Ru ?_;obtain⟨l,j,rfl,v,A,q⟩:=P;cases W;obtain⟨k,n,y,O,Y⟩:=E.lst v;have N:B.heap.IsList l k.toArray:=(_,O,rfl,n,rfl);have J:IntsAre k j:=Ew y;have f:=y.length;rw[Pj]at f;show call_set_list (ns:=j) (I.ok.hd T) N (by simpa using J) (by rw[PY,← f];show QG (Nat.succ_le_succ A) #[1]) λK L R w=>?_;show Ru ?_;obtain⟨o,es,Z,t,h1,h2,h3,h4,h5,h6,h7,h8⟩:=R;have hb:(firstMet (λi=>j.getD i 0) k.toArray.size).length<=900:=Pk (firstMet_length_le _ _) (by rw[PY,← f];show A);show call_len_set h1 h2 h3 h7 #[4] ?_;have U:Inv X C σ D {B with heap:=K,toks:=L}:=E.kept λb F e=>w b F (PQ e) e;show(.int _,D,U.tok _,(_,rfl),?_);rw[h8,PY,← f];show q
def  iD:V->List V->Hp->VK->Prop
 | .str sep,[.ref p],H,Q=>bnd (unS<|H p) λys=>∃ ts:List Str,ys=ts.map V.str/\JoinOk sep ts=true/\Q (.str<|Txt.join sep ts) H
 | _,_,_,_=>False
def lf{X:Cx}:MtR X "str.join" iD:=by
 intro C s σ H x vs v D Q I r w h;unfold iD at h
 split at h
 . rename_i g p
   obtain⟨A,e,B,rfl,c,q⟩:=cV h;rcases tE (K:=X.K) e with j | j
   . obtain⟨t,rfl⟩:=r;obtain⟨u,rfl,f⟩:=fj w;cases f;obtain⟨z,b,d,y⟩:=I.list j;obtain⟨l,rfl,i⟩:=uZ b;show SC.join d.isList i c λm k=>(.str _,H,I.tok k,(m,rfl),q)
   . obtain⟨t,rfl⟩:=r;obtain⟨u,rfl,f⟩:=fj w;cases f;obtain⟨z,b,d,y⟩:=I.tuple j;obtain⟨l,rfl,i⟩:=uZ b;subst i;obtain⟨o,h1,h2,n,h3⟩:=d;have a:=c;unfold JoinOk at a;rw[S3]at a;show RO F.slot_str_join (So _ _ _) F.entry_str_join (F.args_str_join_2 _ _) (meets_str_join_tuple g t p l a) ((o,n,h1,h2,h3),post_join l (joinFit_length a,λm k=>(.str _,H,I.tok k,(m,rfl),q)))
 . show h.elim
section
variable{X:Cx}{e:Expr}{te:TE}{p2 p3 p4 pos:Pos}{z0:Nat}
def  tRevL(te:TE):TE:=λσ H Q=>te σ H λx a=>∃ p b,x=.ref p/\a p=↥b/\∀ l,a l=none->Q (.ref l) (upd a l<|.lst b.reverse)
end
section
variable{σ:St}{H:Hp}{Q:VK}{te:TE}
def  iS{i j:Int}{H:Hp}{Q:VK}:kMax [.int i,.int j] H Q=Q (.int (if j>i then j else i)) H:=rfl
def  gd:tRevL te σ H Q=te σ H λx a=>∃ p xs,x=.ref p/\a p=↥xs/\∀ l,a l=none->Q (.ref l) (upd a l<|.lst xs.reverse):=rfl
end
def xn:typeLookup (.type "str") (Str.ofString "__int__")=pure none:=by rw[Tp,Sl];kernel_rfl
def tL:typeLookup (.type "str") (Str.ofString "__index__")=pure none:=by rw[Tp,Sl];kernel_rfl
def tM:typeLookup (.type "str") (Str.ofString "__trunc__")=pure none:=by rw[Tp,Sl];kernel_rfl
def  numC(n:Nat):List Nat:=if n<10 then [48+n] else [48+n/10,48+n%10]
variable{n:Nat}
def F6(h:n<100):((tx<|numC n).cps.all λx=>decide<|x<128)=true:=by
 have t:((List.range 100).all λn=>(tx<|numC n).cps.all λx=>decide<|x<128)=true:=by decide+kernel
 show PL.mp t n (Qk.mpr h)
def  z5{α:Type}{M:Model}{A:Around}{E:Value->Shared->Prop}{s:Shared}{Q:α->Shared->Prop}{m m':Sem α}(e:m=m')(h:wpAny M A m' Q E s):wpAny M A m Q E s:=e ▸ h
def  gis(n:Nat)(b:n<100)(u:Tok):Gives (Builtin.«int.__new__» ([.type "int",.str (tx<|numC n) u],[])) (.int n):=
 .of_wp λM A E s Q h=>by
  obtain⟨k,g,d,l,o⟩:=s;have e:=PySem.F.conv_sub_int;have j:=PySem.F.madeHere_int;have i:=xn;have f:=tL;have c:=tM
  iterate 44 (any_goals (first | assumption | wp_step))
  show PB<|Tv (a:=some (tx<|numC n)) rfl ?_;show Tv (a:=some (numC n)) ?e1 ?_
  case e1=>
   change(pure (some (if ((tx<|numC n).cps.all λx=>decide<|x<128)=true then(tx<|numC n).cps.toList else _)):Sem _)=_;rw[PK<|F6 b,jg]
  show z5 (m':=mkInt (n:Int)) ?e2 ?_
  case e2=>
   clear h e j i f c
   match n,b with | 0,_=>kernel_rfl | 1,_=>kernel_rfl | 2,_=>kernel_rfl | 3,_=>kernel_rfl | 4,_=>kernel_rfl | 5,_=>kernel_rfl | 6,_=>kernel_rfl | 7,_=>kernel_rfl | 8,_=>kernel_rfl | 9,_=>kernel_rfl | 10,_=>kernel_rfl | 11,_=>kernel_rfl | 12,_=>kernel_rfl | 13,_=>kernel_rfl | 14,_=>kernel_rfl | 15,_=>kernel_rfl | 16,_=>kernel_rfl | 17,_=>kernel_rfl | 18,_=>kernel_rfl | 19,_=>kernel_rfl | 20,_=>kernel_rfl | 21,_=>kernel_rfl | 22,_=>kernel_rfl | 23,_=>kernel_rfl | 24,_=>kernel_rfl | 25,_=>kernel_rfl | 26,_=>kernel_rfl | 27,_=>kernel_rfl | 28,_=>kernel_rfl | 29,_=>kernel_rfl | 30,_=>kernel_rfl | 31,_=>kernel_rfl | 32,_=>kernel_rfl | 33,_=>kernel_rfl | 34,_=>kernel_rfl | 35,_=>kernel_rfl | 36,_=>kernel_rfl | 37,_=>kernel_rfl | 38,_=>kernel_rfl | 39,_=>kernel_rfl | 40,_=>kernel_rfl | 41,_=>kernel_rfl | 42,_=>kernel_rfl | 43,_=>kernel_rfl | 44,_=>kernel_rfl | 45,_=>kernel_rfl | 46,_=>kernel_rfl | 47,_=>kernel_rfl | 48,_=>kernel_rfl | 49,_=>kernel_rfl | 50,_=>kernel_rfl | 51,_=>kernel_rfl | 52,_=>kernel_rfl | 53,_=>kernel_rfl | 54,_=>kernel_rfl | 55,_=>kernel_rfl | 56,_=>kernel_rfl | 57,_=>kernel_rfl | 58,_=>kernel_rfl | 59,_=>kernel_rfl | 60,_=>kernel_rfl | 61,_=>kernel_rfl | 62,_=>kernel_rfl | 63,_=>kernel_rfl | 64,_=>kernel_rfl | 65,_=>kernel_rfl | 66,_=>kernel_rfl | 67,_=>kernel_rfl | 68,_=>kernel_rfl | 69,_=>kernel_rfl | 70,_=>kernel_rfl | 71,_=>kernel_rfl | 72,_=>kernel_rfl | 73,_=>kernel_rfl | 74,_=>kernel_rfl | 75,_=>kernel_rfl | 76,_=>kernel_rfl | 77,_=>kernel_rfl | 78,_=>kernel_rfl | 79,_=>kernel_rfl | 80,_=>kernel_rfl | 81,_=>kernel_rfl | 82,_=>kernel_rfl | 83,_=>kernel_rfl | 84,_=>kernel_rfl | 85,_=>kernel_rfl | 86,_=>kernel_rfl | 87,_=>kernel_rfl | 88,_=>kernel_rfl | 89,_=>kernel_rfl | 90,_=>kernel_rfl | 91,_=>kernel_rfl | 92,_=>kernel_rfl | 93,_=>kernel_rfl | 94,_=>kernel_rfl | 95,_=>kernel_rfl | 96,_=>kernel_rfl | 97,_=>kernel_rfl | 98,_=>kernel_rfl | 99,_=>kernel_rfl | (m+100),hm=>show absurd hm #[0]
  repeat (any_goals (first | assumption | wp_step))
  all_goals first | show(_,rfl,h) | skip
def  va:List V->Hp->VK->Prop
 | [.int i],H,Q=>Q (.int i) H
 | [.bl k],H,Q=>Q (.int (if k then 1 else 0)) H
 | [.str z],H,Q=>∃ n:Nat,n<100/\z=tx (numC n)/\Q (.int n) H
 | _,_,_=>False
def xo{X:Cx}:CallR X (.type "int") va:=by
 intro a s σ H e b Q I r h;unfold va at h
 split at h
 . show pi a s σ H _ b Q I r (.inl (_,rfl,h))
 . show pi a s σ H _ b Q I r (.inr (_,rfl,h))
 . obtain⟨n,d,rfl,q⟩:=h;obtain⟨u,rfl,c⟩:=fj r;obtain⟨t,rfl⟩:=c;show call_int_1 (gis n d t).meets (show(Made.int (n:Int)).post _ s from(rfl,(.int n,H,I.tok _,(_,rfl),q)))
 . show h.elim
def  eY{k:Bool}{H:Hp}{Q:VK}:va [.bl k] H Q=Q (.int (if k then 1 else 0)) H:=rfl
def  fc{i:Int}{H:Hp}{Q:VK}:va [.int i] H Q=Q (.int i) H:=rfl
def IY(h:n<100):Str.ofString (toString (n:Int))=tx (numC n):=by
 have t:((List.range 100).all λ(n:Nat)=>decide<|Str.ofString (toString (n:Int))=tx (numC n))=true:=by decide+kernel
 simpa using PL.mp t n (Qk.mpr h)
def wB(h:n<100):32∉numC n:=by
 have t:((List.range 100).all λ(n:Nat)=>decide<|32∉numC n)=true:=by decide+kernel
 simpa using PL.mp t n (Qk.mpr h)
def jY:(numC n).length<=2:=by unfold numC;split <;> simp
def IZ(h:n<100):∀ c∈numC n,48<=c/\c<=57:=by
 have t:((List.range 100).all λ(n:Nat)=>(numC n).all λc=>decide<|48<=c/\c<=57)=true:=by decide+kernel
 intro c a
 simpa using PL.mp (PL.mp t n<|Qk.mpr h) c a
local macro_rules|`(tactic|walk_at "w")=>wk9 ws1
local macro_rules|`(tactic|symm)=>`(tactic|walk_at "w")
def dC:d:=#[3,∃ a h w g,vs=[.ref a]/\IsFl H a h w g/\1<=h/\h<=6/\Q (.int<|h*w) H]
def m7:a:=#[":kcZcm0bi#0 cm0bi#1 "]
abbrev eD9(Q:VK):Ends:={nx:=λ_ a=>Q .non a,rt:=Q}
def AH{K:Frag}{vs:List V}{H:Hp}{Q:VK}{E:XK}:R "floor" dC m7 K:=by
 obtain⟨a,h,w,g,rfl,b,h0,h1,q⟩:=h;exists m7;rw[rm b];show bV (a:=V.int h) rfl ?_;symm;rw[rm b];show bV (a:=V.int w) rfl ?_;exists(zY h0 h1,q)
def   ws4:String:="aB oq iR c5 gd eY fc iS iO gc iQ if_true if_false Bool.false_eq_true decide_true decide_false cT cU gn bZ bK cR eJ cS bY eC eE bX gk b0 cb ce cf cg ci cc eK eO eQ ei gm Bool.not_true Bool.not_false aB "++ws1
local macro_rules|`(tactic|walk_at "w")=>wk9 ws4
def  nmC:RK->List Nat
 | .Rule=>[]
 | .Unlike=>s!"unlike"
 | .Sum=>s!"sum"
 | .Rising=>s!"rising"
 | .Seen=>s!"seen"
 | .Count=>s!"count"
 | .Joined=>s!"joined"
 | .NoSquare=>s!"nosquare"
 | .Ring=>s!"ring"
def  fX:List Str:=[tx s!"sum",tx s!"seen",tx s!"count"]
def  iE:List Str:=[tx s!"count",tx s!"joined",tx s!"nosquare",tx s!"ring"]
def  fC:List Str:=[tx s!"joined",tx s!"nosquare",tx s!"ring"]
def  rFs(p W C:Addr)(n m:Int):List (Str × V):=[("floor" ,.ref p),("words" ,.ref W),("cells" ,.ref C),("amount" ,.int n),("mark" ,.int m)]
abbrev TJ:=RCl RK
structure IsRule(H:Hp)(c:TJ)(k:RK)(r p:Addr)(ws:List (List Nat))(cs:∅)(n m:Int):Prop where
 ok:c.ok k=true
 ex:∃ dx W C,H r=some (.ins (c.A k) dx<|rFs p W C n m)/\H W=some (.tup<|(ws.map tx).map V.str)/\H C=some (.tup<|cs.map V.int)
variable{H:Hp}{p:Addr}{cs:∅}
def IsRule.same{a:Hp}{c:TJ}{k:RK}{r:Addr}{b:List (List Nat)}{n m:Int}(x:IsRule H c k r p b cs n m)(s:Same H a):IsRule a c k r p b cs n m:=by
 obtain⟨d,W,C,h1,h2,h3⟩:=x.ex;show(x.ok,d,W,C,s _ _ h1,s _ _ h2,s _ _ h3)
section
variable{ι:Type}{c:RCl ι}{σ:St}{H:Hp}{Q:VK}{i:Nat}{r dx:Addr}{k:ι}{fs:List (Str × V)}{f m:Str}{v:V}{okm:ι->Bool}{sp:ι->Sp}{t:TA}{D:Ends}{tv:TE}{y:V}{H1:Hp}
def  fldE(e:σ[i]? =some ↑r)(a:c.ok k=true)(d:H r=some (.ins (c.A k) dx fs))(b:fs.lookup f=some v)(q:Q v H):tFldK c (tVar i) f σ H Q:=lw e (r,k,dx,fs,v,rfl,a,d,b,q)
def  methE(f:σ[i]? =some ↑r)(a:okm k=true)(b:H r=some (.ins (c.A k) dx fs))(d:fs.lookup m=none)(q:t σ H λvs e=>sp k (.ref r::vs) e Q E0):bW c okm m sp (tVar i) t σ H Q:=lw f (r,k,dx,fs,rfl,a,b,d,q)
def  sfldV{j:Nat}{x:V}(e:σ[j]? =some (some x))(g:σ[i]? =some ↑r)(a:c.ok k=true)(d:H r=some (.ins (c.A k) dx fs))(b:fs.length<1000)(q:D.nx σ (upd H r<|.ins (c.A k) dx<|putF f x fs)):sFldK c (tVar i) (tVar j) f D σ H:=
 lw e (lw g (r,k,dx,fs,rfl,a,d,b,q))
def sfldT {K:Frag} {j:Nat} {p:Addr} {xs:List V} (h:σ[j]? =some ↑p) (e:H p=↥xs) (m:σ[i]? =some ↑r) (d:c.ok k=true) (a:H r=some (.ins (c.A k) dx fs)) (g:fs.length<1000)
  (q:∀ l,H l=none->D.nx σ (upd (upd H l<|.tup xs) r<|.ins (c.A k) dx<|putF f (.ref l) fs)):sFldK c (tVar i) (tCB (oo K)<|tCons (tVar j) tNil) f D σ H:=by
 unfold sFldK;exists lw h<|IW e λl b=>?_;show lw m (r,k,dx,fs,rfl,d,by rw[ao<|aI a b];show a,g,q l b)
end
variable{Q:VK}
def I0{xs:List V}(a:H p=some (.tup xs))(h:∀ l,H l=none->Q (.ref l) (upd H l<|.lst xs)):kList [.ref p] H Q:=by
 unfold kList;dsimp only;rw[a];show h
variable{ts:List Str}
def Ja{a:Str}(c:H p=some (.tup<|ts.map V.str))(b:JoinOk a ts=true)(h:Q (.str<|Txt.join a ts) H):iD (.str a) [.ref p] H Q:=by
 unfold iD;dsimp only;rw[c];show(ts,rfl,b,h)
def qr{a:Str}(c:H p=↥(ts.map V.str))(b:JoinOk a ts=true)(h:Q (.str<|Txt.join a ts) H):iD (.str a) [.ref p] H Q:=by
 unfold iD;dsimp only;rw[c];show(ts,rfl,b,h)
def  yV(K:Frag)(c:TJ)(k:RK):Sp:=#[3,∃ r p w a cs n m,vs=[.ref r]/\IsRule H c k r p (w::a) cs n m/\Q (.str<|tx w) H]
def  rz(K:Frag)(c:TJ)(k:RK):Sp:=#[3,∃ r p a cs n m,vs=[.ref r]/\IsRule H c k r p a cs n m/\∀ l,H l=none->Q (.ref l) (upd H l<|.lst<|cs.map V.int)]
def  vb(K:Frag)(c:TJ)(k:RK):Sp:=#[3,∃ r p a cs n m,vs=[.ref r]/\IsRule H c k r p a cs n m/\a.length<=100/\(∀ w∈a,w.length<=100)/\Q (.str<|tx<|catL 32 a) H]
def  yW(cs:∅)(n:Nat):Prop:=cs.length<=63/\∀ c∈cs,0<=c/\c<n
def bn:e:=#[3,∃ k x e p W C d cs n m,vs=[.ref x,.ref p,.ref W,.ref C,.int n,.int m]/\c.ok k=true/\H x=some (.ins (c.A k) e [])/\W≠x/\C≠x/\
 H W=↥((d.map tx).map V.str)/\H C=↥(cs.map V.int)/\∀ a,(∀ b o,b≠x->H b=some o->a b=some o)->IsRule a c k x p d cs n m->Q .non a]
def kO:b:=#[":h;n01~nh;n0v~:ea2d~Lh;n0v~:ea3d~;h;n04'N;n05'O"]
variable{K:Frag}{vs:List V}{E:XK}
def wC{c:TJ}:R "self floor words cells amount mark" bn kO K c:=by
 obtain⟨k,x,y,p,W,C,B,cs,n,m,rfl,a,A,v,u,w,t,q⟩:=h;exists kO;show sfldV (k:=k) (j:=1) rfl rfl a A #[1] ?_;exists sfldT (k:=k) (j:=2) (p:=W) rfl (by rw[ao v];show w) rfl a ak (by change(1:Nat)<1000;decide) λl h1=>?_;have d:l≠x:=λe=>by rw[e,ak]at h1;cases h1
 have s:H l=none:=by rw[ao d]at h1;show h1
 exists sfldT (k:=k) (j:=3) (p:=C) rfl (by rw[ao u,ao<|aI t s,ao u];show t) rfl a ak (by change(2:Nat)<1000;decide) λr h2=>?_;have f:r≠x:=λe=>by rw[e,ak]at h2;cases h2
 have g:r≠l:=λe=>by rw[e,ao d,ak]at h2;cases h2
 have z:H r=none:=by rw[ao f,ao g,ao f]at h2;show h2
 exists sfldV (k:=k) (j:=4) rfl rfl a ak (by change(3:Nat)<1000;decide) ?_;exists sfldV (k:=k) (j:=5) rfl rfl a ak (by change(4:Nat)<1000;decide) ?_;show q _ (λb o i e=>?_) (a,y,l,r,by rw[ak];rfl,?_,?_)
 . rw[ao i,ao i,ao i,ao<|aI e z,ao i,ao<|aI e s,ao i];show e
 . rw[ao d,ao d,ao d,ao g.symm,ao d,ak]
 . rw[ao f,ao f,ao f,ak]
def tN:e:=λvs H Q E=>∃ k,yV K c k vs H Q E
def or:b:=#[":kcmQn0~Lbi#0 "]
def BY{c:TJ}:R "self" tN or K c:=by
 obtain⟨k,r,p,w,a,cs,n,m,rfl,x,q⟩:=h;obtain⟨d,W,C,h1,h2,h3⟩:=x.ex;exists or;show fldE rfl x.ok h1 (v:=.ref W) (by rfl) ?_;symm;have b:atI (((w::a).map tx).map V.str) 0=some (V.str<|tx w):=aJ (j:=0) rfl;show ixT h2 b q
def sB:e:=λvs H Q E=>∃ k,rz K c k vs H Q E
def m8:b:=#[":kv~oaQn0~;d"]
def AI{c:TJ}:R "self" sB m8 K c:=by
 obtain⟨k,r,p,a,cs,n,m,rfl,x,q⟩:=h;obtain⟨b,W,C,h1,h2,h3⟩:=x.ex;exists m8;show fldE rfl x.ok h1 (v:=.ref C) (by rfl) ?_;exists I0 h3 q
def tO:e:=λvs H Q E=>∃ k,vb K c k vs H Q E
def ot:b:=#[":kCeD~pbfg`0aQn0~Ld",[32]]
def BZ{c:TJ}:R "self" tO ot K c:=by
 obtain⟨k,r,p,e,cs,n,m,rfl,x,f,a,q⟩:=h;obtain⟨g,W,C,h1,h2,h3⟩:=x.ex;exists ot;show(dg,fldE rfl x.ok h1 (v:=.ref W) (by rfl) ?_);exists Ja h2 (gb (by rw[Pj];lia) (λt b=>by obtain⟨y,d,rfl⟩:=PM.mp b;rw[aF];have:=a y d;lia) (by rw[aF];decide)) ?_;rw[jJ,mr];show q
def  WOk(a:List (List Nat)):Prop:=∀ w∈a,∀ c∈w,c<128
variable{n:Nat}
def  Jb(h:n<100):∀ c∈numC n,c<128:=λc a=>by have:=IZ h c a;omega
def LA{w:List Nat}(h:∀ c∈w,c<128):PyData.strOk (tx w)=true:=by
 unfold PyData.strOk;simp[tx];intro c a;have:=h c a;lia
def  WOk.strs{a:List (List Nat)}(h:WOk a):∀ x∈a.map tx,PyData.strOk x=true:=λx c=>by
 obtain⟨w,b,rfl⟩:=PM.mp c;show LA (h w b)
def DVs.strs{K:Frag}{H:Hp}:∀ ns:List Str,DVs K H (ns.map V.str) (ns.map PyData.str)
 | []=>.nil
 | n::r=>.cons (.str n) (DVs.strs r)
def z6(a b:Str):PyData.eqv (.str a) (.str b)=decide (a=b):=by
 rw[PyData.eqv];by_cases h:a=b
 . subst h;simp
 . simp[h]
def mQ(ns:List Str)(c:∀ x∈ns,PyData.strOk x=true):SeqAt.shaped (.list<|ns.map PyData.str)=true:=by
 have h1:PyData.canLayAll0 (ns.map PyData.str)=true:=DA λd a=>by obtain⟨x,b,rfl⟩:=PM.mp a;rw[PyData.canLay0];show c x b
 have h2:PyData.depthAll (ns.map PyData.str)<=0:=zZ λd a=>by obtain⟨x,_,rfl⟩:=PM.mp a;show Py _
 simp[SeqAt.shaped,PyData.canLay0,h1,PyData.depth];lia
variable{xs:List Str}
def Ku{q:Addr}{ys:List Str}(b:H p=↥(xs.map V.str))(a:H q=↥(ys.map V.str))(h1:∀ x∈xs,PyData.strOk x=true)(h2:∀ x∈ys,PyData.strOk x=true)(h:Q (.bl<|decide<|xs=ys) H):cEq K (.ref p) (.ref q) H Q:=by
 change rEqD K (.ref p) (.ref q) H Q;show(.list<|xs.map PyData.str,.list<|ys.map PyData.str,.lst (Qm b)<|.strs xs,.lst (Qm a)<|.strs ys,mQ xs h1,mQ ys h2,?_);rw[PyData.eqv,yT PyData.str z6];show h
def Kv{q:Addr}{ys:List Str}(b:H p=↥(xs.map V.str))(a:H q=↥(ys.map V.str))(h1:∀ x∈xs,PyData.strOk x=true)(h2:∀ x∈ys,PyData.strOk x=true)(h:Q (.bl<|!decide (xs=ys)) H):cNe K (.ref p) (.ref q) H Q:=by
 change rNeD K (.ref p) (.ref q) H Q;show(.list<|xs.map PyData.str,.list<|ys.map PyData.str,.lst (Qm b)<|.strs xs,.lst (Qm a)<|.strs ys,mQ xs h1,mQ ys h2,?_);rw[PyData.eqv,yT PyData.str z6];show h
def Hs(a:∅)(v:Int):(step_dedup a v).length<=a.length+1:=by
 unfold step_dedup
 split <;> simp
def B0:∀(l a:∅),(l.foldl step_dedup a).length<=a.length+l.length
 | [],a=>by simp
 | x::r,a=>by
  have h1:=B0 r<|step_dedup a x;have h2:=Hs a x;rw[QO,PR];lia
def vT:∀(l c:∅),c.Nodup->((l.foldl step_dedup c).length=c.length+l.length↔(c++l).Nodup)
 | [],c,h=>by simpa using h
 | x::r,c,h=>by
  rw[QO];by_cases d:x∈c
  . have e:step_dedup c x=c:=by
     unfold step_dedup;rw[PK (by simpa using d)]
    rw[e];have:=B0 r c;constructor
    . intro z;rw[PR]at z;lia
    . intro z;have:=(List.nodup_append.mp z).2.2 x d x Pn;show absurd rfl this
  . have e:step_dedup c x=c++[x]:=by
     unfold step_dedup;rw[PF (by simpa using d)]
    rw[e];have i:(c++[x]).Nodup:=List.nodup_append.mpr (h,by simp,λa g b j z=>d (by rw[PJ.mp j]at z;show z ▸ g));have f:=vT r (c++[x]) i;rw[Pq,Sj]at f;rw[PR,show c.length+(r.length+1)=c.length+1+r.length by lia,show c++x::r=c++[x]++r by simp];show f
def yX(ns:∅):(List.range ns.length).map (λi=>ns.getD i 0)=ns:=by
 have:=sy ns (λx=>x)
 simpa using this
def Ht(ns:∅):cntD ns=ns.length↔ns.Nodup:=by
 unfold cntD firstMet;rw[yX];have:=vT ns [] List.nodup_nil
 simpa using this
variable{ns:List Nat}
def EI(h:ns.Nodup):(ns.map λ(n:Nat)=>(n:Int)).Nodup:=by
 induction ns with
 | nil=>show List.nodup_nil
 | cons a r ih=>
  rw[Q7]at h;rw[Pz,Q7];show(λz=>?_,ih h.2);obtain⟨b,hb,e⟩:=PM.mp z
  exact h.1 (by have:b=a:=by lia
                show this ▸ hb)
def  allK:RK->Bool
 | .Joined=>true
 | .NoSquare=>true
 | .Ring=>true
 | _=>false
def  numK:RK->Bool
 | .Sum=>true
 | .Seen=>true
 | .Count=>true
 | _=>false
def  sgnK:RK->Bool
 | .Count=>true
 | .Joined=>true
 | .NoSquare=>true
 | .Ring=>true
 | _=>false
def Kw(k:RK):decide (tx (nmC k)∈fC)=allK k:=by cases k <;> decide+kernel
def Kx(k:RK):decide (tx (nmC k)∈fX)=numK k:=by cases k <;> decide+kernel
def Ky(k:RK):decide (tx (nmC k)∈iE)=sgnK k:=by cases k <;> decide+kernel
structure Jc(k:RK)(h w:Int)(ns:List Nat)(cs:∅):Prop where
 told:allK k=false->ns≠[]/\ns.length<=16/\(∀ n∈ns,(n:Int)<h*w)/\ns.Nodup/\cs=ns.map λ(n:Nat)=>(n:Int)
 all:allK k=true->ns=[]/\cs=rngL 0 (h*w)
def Jd{c:TJ}{k:RK}{W C:Addr}{h:List (List Nat)}{n m:Int}(j:c.ok k=true)(g:H W=↥((h.map tx).map V.str))(f:H C=↥(cs.map V.int))(q:∀ r d,Same H d->H r=none->IsRule d c k r p h cs n m->Q (.ref r) d):
  ∀ x dx,H x=none->H dx=none->dx≠x->bn K c (.ref x::([.ref p,.ref W,.ref C,.int n,.int m]++[])) (upd (upd H dx<|.own x) x<|.ins (c.A k) dx []) (λv s=>v=.non/\Q (.ref x) s) E0:=by
 intro x dx a i u;show(k,x,dx,p,W,C,h,cs,n,m,rfl,j,ak,aI g a,aI f a,?_,?_,λd t l=>(rfl,q x d (λb o e=>t b o (aI e a) ?_) a l))
 . rw[ao<|aI g a,ao<|aI g i];show g
 . rw[ao<|aI f a,ao<|aI f i];show f
 . rw[ao<|aI e a,ao<|aI e i];show e
def  rowW(k:RK)(n m:Nat)(ns:List Nat):List (List Nat):=nmC k::((if numK k then [numC n] else [])++(if sgnK k then [numC m] else [])++ns.map numC)
structure F7(k:RK)(h w g:Int)(n m:Nat)(ns:List Nat)(cs:∅):Prop where
 k0:k≠.Rule
 n0:n<=99
 nz:numK k=false->n=0
 m0:sgnK k=true->1<=(m:Int)/\(m:Int)<=g
 mz:sgnK k=false->m=0
 cl:Jc k h w ns cs
 ns0:∀ x∈ns,x<100
 len:ns.length<=16
def Je(k:RK):32∉nmC k:=by cases k <;> decide
def LC(k:RK):∀ c∈nmC k,c<128:=by cases k <;> decide
def F8{k:RK}{m:Nat}(b:n<100)(e:m<100)(d:∀ x∈ns,x<100):∀ r∈rowW k n m ns,32∉r:=by
 intro r a;unfold rowW at a;rcases Pw.mp a with rfl | a
 . show Je k
 rcases PN.mp a with a | a
 . rcases PN.mp a with a | a
   . split at a
     . rw[PJ.mp a];show wB b
     . cases a
   . split at a
     . rw[PJ.mp a];show wB e
     . cases a
 . obtain⟨x,c,rfl⟩:=PM.mp a;show wB (d x c)
def B3(xs:List V):cutV xs (some 1) none=xs.drop 1:=by
 unfold cutV;have h1:HT.sIx xs.length 0 (some 1)=min 1 xs.length:=HT.sIx_nat ..;have h2:HT.sIx xs.length xs.length none=xs.length:=rfl;rw[h1,h2]
 cases xs with
 | nil=>rfl
 | cons x r=>
  have:min 1 (x::r).length=1:=by simp
  rw[this];change(r).take _=r;rw[QZ (by simp)]
def vU{k:RK}{m:Nat}(h:ns.length<=16):(rowW k n m ns).length<=100/\∀ w∈rowW k n m ns,w.length<=100:=by
 unfold rowW;show(?_,λw a=>?_)
 . simp only[PR,Pq,Pj]
   split <;> split <;> simp <;> lia
 . rcases Pw.mp a with rfl | a
   . cases k <;> decide
   have h2:∀ x,(numC x).length<=100:=λx=>Pk jY #[1];rcases PN.mp a with a | a
   . rcases PN.mp a with a | a
     . split at a
       . rw[PJ.mp a];show h2 _
       . cases a
     . split at a
       . rw[PJ.mp a];show h2 _
       . cases a
   . obtain⟨x,b,rfl⟩:=PM.mp a;show h2 _
def DI{x:Str}(b:H p=↥((x::xs).map V.str))(q:∀ l,H l=none->Q (.ref l) (upd H l<|.lst<|xs.map V.str)):lz (.ref p) (some 1) none H Q:=by
 show xi b λl a=>?_;rw[B3];show q l a
def Jf{n x:Int}(h:x∈rngL 0 n):0<=x/\x<n:=by
 unfold rngL at h;obtain⟨k,a,rfl⟩:=PM.mp h;have:=Qk.mp a;lia
def Jg(h:n<100):((n:Int)).natAbs.log2<1920:=by
 have t:((List.range 100).all λn=>decide<|n.log2<1920)=true:=by decide+kernel
 have:=PL.mp t n (Qk.mpr h)
 simpa using this
def jL{c:Nat}{x:List Nat}:∀{rs:List (List Nat)},rs≠[]->catL c (x::rs)=x++c::catL c rs
 | [],h=>absurd rfl h
 | y::r,_=>by first | rfl | simp[catL]
section
variable{X:Cx}{a:Expr}{ta:TE}{pos p:Pos}{x:Str}{ws:List Str}
def lD(G:GTup X.K X.mg x ws)(f:PE X a ta)(g:Gl X x)(c:(x==("__debug__":Str))=false:=by decide)(l:behindInMarks .In (.Name x p)=false:=by with_unfolding_all rfl):PT X (.Compare a [.In] [.Name x p] pos) (tB<|tInG ws false ta):=by
 obtain⟨q,o,i,n,h1,h2⟩:=G.ex;have h0:=ax (pos:=pos) (Kt (o,i,n,h2)) f (aW (v:=V.ref q) g h1 rfl c) l;intro j s σ H Q I h;show h0 j s σ H Q I ?_
 have e:(λ(x:V) (b:Hp)=>∃ z,x=.str z/\∃ k,V.bl (if false=true then !decide (z∈ws) else decide (z∈ws))=.bl k/\Q k b)=λx b=>∃ z,x=.str z/\(V.ref q=V.ref q)/\∃ k,V.bl (decide<|z∈ws)=.bl k/\Q k b:=by
  funext x b;simp
 have d:ta σ H (λ(x:V) (b:Hp)=>∃ z,x=.str z/\∃ k,V.bl (if false=true then !decide (z∈ws) else decide (z∈ws))=.bl k/\Q k b):=h;rw[e]at d;show d
def yY(G:GTup X.K X.mg x ws)(f:PE X a ta)(g:Gl X x)(c:(x==("__debug__":Str))=false:=by decide)(l:behindInMarks .NotIn (.Name x p)=false:=by with_unfolding_all rfl):PT X (.Compare a [.NotIn] [.Name x p] pos) (tB<|tInG ws true ta):=by
 obtain⟨q,o,i,n,h1,h2⟩:=G.ex;have h0:=ax (pos:=pos) (IU (o,i,n,h2)) f (aW (v:=V.ref q) g h1 rfl c) l;intro j s σ H Q I h;show h0 j s σ H Q I ?_
 have e:(λ(x:V) (b:Hp)=>∃ z,x=.str z/\∃ k,V.bl (if true=true then !decide (z∈ws) else decide (z∈ws))=.bl k/\Q k b)=λx b=>∃ z,x=.str z/\(V.ref q=V.ref q)/\∃ k,V.bl (!decide (z∈ws))=.bl k/\Q k b:=by
  funext x b;simp
 have d:ta σ H (λ(x:V) (b:Hp)=>∃ z,x=.str z/\∃ k,V.bl (if true=true then !decide (z∈ws) else decide (z∈ws))=.bl k/\Q k b):=h;rw[e]at d;show d
end
inductive PzK where
 | Puzzle
 deriving DecidableEq
structure RR where
 k:RK
 n:Nat
 m:Nat
 ns:List Nat
 cs:∅
def  RR.ws(r:RR):List (List Nat):=rowW r.k r.n r.m r.ns
def  RR.txt(r:RR):Str:=tx (catL 32 r.ws)
def  RR.Ok(r:RR)(h w g:Int):Prop:=F7 r.k h w g r.n r.m r.ns r.cs
structure IsRules(H:Hp)(c:TJ)(p L:Addr)(rs:List Addr)(rows:List RR):Prop where
 top:H L=↥(rs.map V.ref)
 len:rs.length=rows.length
 at_:∀(i:Nat) (r:Addr) (x:RR),rs[i]? =some r->rows[i]? =some x->IsRule H c x.k r p x.ws x.cs x.n x.m
variable{H:Hp}{p L:Addr}{rs:List Addr}{rows:List RR}
def  IsRules.same{a:Hp}{c:TJ}(x:IsRules H c p L rs rows)(s:Same H a):IsRules a c p L rs rows:=
 (s _ _ x.top,x.len,λi r y h1 h2=>(x.at_ i r y h1 h2).same s)
variable{cs:∅}{o:HO}
def IsRule.lst{c:TJ}{k:RK}{r a:Addr}{d:List (List Nat)}{n m:Int}{xs:List V}(x:IsRule H c k r p d cs n m)(b:H a=↥xs):IsRule (upd H a o) c k r p d cs n m:=by
 obtain⟨f,W,C,h1,h2,h3⟩:=x.ex;show(x.ok,f,W,C,?_,?_,?_)
 . rw[ao (λe=>by rw[e,b]at h1;cases h1)];show h1
 . rw[ao (λe=>by rw[e,b]at h2;cases h2)];show h2
 . rw[ao (λe=>by rw[e,b]at h3;cases h3)];show h3
def  pFs(p L G:Addr):List (Str × V):=[("floor" ,.ref p),("laws" ,.ref L),("given" ,.ref G)]
structure tP(c:TJ)(h w g:Int)(rows:List RR):Prop where
 F:FlOk h w g
 n:rows.length<=12
 ok:∀ r∈rows,r.Ok h w g
 c:∀ r∈rows,c.ok r.k=true
structure CluesOk(h w g:Int)(cl:∅):Prop where
 len:cl.length=(h*w).toNat
 ok:∀ x∈cl,0<=x/\x<=g
abbrev TL:=RCl PzK
structure IsPz(H:Hp)(c:TJ)(d:TL)(P L G:Addr)(h w g:Int)(rows:List RR)(cl:∅):Prop where
 ok:d.ok .Puzzle=true
 R:tP c h w g rows
 C:CluesOk h w g cl
 gv:H G=↥(cl.map V.int)
 ex:∃ dx p rs,H P=some (.ins (d.A .Puzzle) dx<|pFs p L G)/\IsFl H p h w g/\IsRules H c p L rs rows
variable{d:TL}
def IsPz.same{a:Hp}{c:TJ}{P G:Addr}{h w g:Int}{cl:∅}(x:IsPz H c d P L G h w g rows cl)(s:Same H a):IsPz a c d P L G h w g rows cl:=by
 obtain⟨b,p,rs,h1,h2,h3⟩:=x.ex;show(x.ok,x.R,x.C,s _ _ x.gv,b,p,rs,s _ _ h1,s _ _ h2,h3.same s)
def fS:d:=#[3,∃ i:Int,vs=[.int i]/\Q (.bl true) H]
def pT:a:=#[":kFvVa0abT~?d~[vVa0abT'Pd"]
variable{K:Frag}{vs:List V}{Q:VK}{E:XK}
def C6:R "value" fS pT K:=by
 obtain⟨i,rfl,q⟩:=h;exists pT;show q
def dy:d:=#[3,∃ i m:Int,vs=[.int i,.int m]/\Q (.bl<|decide (1<=i)&&decide (i<=m)) H]
def kc:a:=#[":kF,~qea0dFc(bi#1 0c(01"]
def vh:R "value most" dy kc K:=by
 obtain⟨i,m,rfl,q⟩:=h;exists kc;show(i,rfl,(true,rfl,iteT ?_));symm
 cases a:decide (1<=i) with
 | false=>
  rw[a,Qc]at q;show iteF q
 | true=>
  rw[a,Qb]at q;show iteT q
def  filB(a g:Int)(n:Nat)(xs:∅):Bool:=decide (xs.length=n)&&xs.all λx=>decide (a<=x)&&decide (x<=g)
def m9:d:=#[3,∃ p a h w g b xs,vs=[.ref p,.ref a,.int b]/\IsFl H p h w g/\FlOk h w g/\H a=↥(xs.map V.int)/\xs.length<=100/\∀ c,Same H c->Q (.bl<|filB b g (h*w).toNat xs) c]
def nc:a:=#[":hrMGwvVa1abT~kdtcIevHa1d,~rea0dkbWEskv~yaR&--02 Ue1l#1 NF,~qea1dFc(31c(1cm2bi#2 d"]
def AJ:R "floor filling least" m9 nc K:=by
 obtain⟨p,a,h,w,g,b,xs,rfl,k,F,d,G,q⟩:=h;obtain⟨h0,h1,C,I,A,D,J⟩:=id F;have o:0<=h*w:=Sd #[4] #[4];ac_nf;unfold nc;rw[aB,aT];exists BO d ?_;symm;rw[ij d,Pj];exists(p,h,w,g,rfl,k,h0,h1,?_);symm;unfold filB at q;by_cases m:xs.length=(h*w).toNat
 . rw[Po (show(xs.length:Int)=h*w by lia)];rw[Po m]at q;exists((_,Qm d),?_);show iN (xs:=xs.map V.int) (λ_=>true) (λi=>.bl<|decide (b<=xs.getD i 0)&&decide (xs.getD i 0<=g)) (by rw[Pj];lia) (Qm d) ?_ ?_ ?_
   . intro i x f R r e k1;show k1 _ (Pr _)
   . intro i x f y r j e k1;obtain⟨z,s,rfl⟩:=ic r;have c:=k1 _<|Pr f;rw[qm s]at c;change tAndV _ _ [none,⇑z,↑p,⇑b] f y;exists(z,rfl,(true,rfl,iteT ?_));symm
     cases j:decide (b<=z) with
     | false=>
      rw[j,Qc]at c;show iteF c
     | true=>
      rw[j,Qb]at c;show iteT ?_;exists ixT (e _ _ k) (v:=V.int g) rfl ?_;symm;show c
   . intro l f B e n
     have t:((List.range (xs.map V.int).length).filter λ_=>true).map (λi=>V.bl<|decide (b<=xs.getD i 0)&&decide (xs.getD i 0<=g))=(xs.map λx=>decide (b<=x)&&decide (x<=g)).map V.bl:=by
      rw[fm,Pj];show QL λi=>?_;rw[Pp,Pp,Pp];by_cases h:i<xs.length
      . rw[QE h,Px h];simp[List.getD,h]
      . rw[PX (by simpa using h),PX #[4]];rfl
     rw[t]at n;show Bj n ?_;have u:(xs.map λx=>decide (b<=x)&&decide (x<=g)).all id=xs.all λx=>decide (b<=x)&&decide (x<=g):=by rw[TD];rfl
     rw[u];show q _ e
 . rw[Pl (show ¬ (xs.length:Int)=h*w by lia)];rw[Pl m]at q;exists q _ (Pr _)
def CluesOk.fil{h w g:Int}{xs:∅}(C:CluesOk h w g xs):filB 0 g (h*w).toNat xs=true:=by
 unfold filB;rw[Po C.len,Qb,PL];intro x a;have:=C.ok x a;simp[this.1,this.2]
def IsRule.ins{c:TJ}{k:RK}{r a:Addr}{g:List (List Nat)}{n m:Int}{C dx:Addr}{f:List (Str × V)}(x:IsRule H c k r p g cs n m)(d:H a=some (.ins C dx f))(h:f.length≠5):IsRule (upd H a o) c k r p g cs n m:=by
 obtain⟨b,W,i,h1,h2,h3⟩:=x.ex;show(x.ok,b,W,i,?_,?_,?_)
 . rw[ao (λe=>by rw[e,d]at h1;cases h1;show h rfl)];show h1
 . rw[ao (λe=>by rw[e,d]at h2;cases h2)];show h2
 . rw[ao (λe=>by rw[e,d]at h3;cases h3)];show h3
def  IsRules.ins{c:TJ}{a:Addr}{C dx:Addr}{d:List (Str × V)}(x:IsRules H c p L rs rows)(b:H a=some (.ins C dx d))(f:d.length≠5):IsRules (upd H a o) c p L rs rows:=
 (by rw[ao (λe=>by have:=x.top;rw[e,b]at this;cases this)];show x.top,x.len,λi r y h1 h2=>(x.at_ i r y h1 h2).ins b f)
def  ie(K:Frag)(c:TJ)(d:TL)(_:PzK):Sp:=#[3,∃(P L G:Addr) (h w g:Int) (rows:List RR) (a:∅),vs=[.ref P]/\IsPz H c d P L G h w g rows a/\∀ p,IsFl H p h w g->Q (.ref p) H]
def pw:f:=ie K c d .Puzzle
def lE:c:=#[":kQp0~n"]
def xp{c:TJ}:R "self" pw lE K c d:=by
 obtain⟨P,L,G,h,w,g,rows,a,rfl,x,q⟩:=h;obtain⟨b,p,rs,h1,h2,h3⟩:=x.ex;exists lE;show fldE (k:=.Puzzle) rfl x.ok h1 (v:=.ref p) (by rfl) (q p h2)
def  rA(K:Frag)(c:TJ)(d:TL)(_:PzK):Sp:=#[3,∃(P L G:Addr) (h w g:Int) (rows:List RR) (a:∅),vs=[.ref P]/\IsPz H c d P L G h w g rows a/\∀ l,H l=none->Q (.ref l) (upd H l<|.lst<|a.map V.int)]
def px:f:=rA K c d .Puzzle
def lF:c:=#[":kv~oaQp0~]d"]
def xq{c:TJ}:R "self" px lF K c d:=by
 obtain⟨P,L,G,h,w,g,rows,a,rfl,x,q⟩:=h;obtain⟨b,p,rs,h1,h2,h3⟩:=x.ex;exists lF;show fldE (k:=.Puzzle) rfl x.ok h1 (v:=.ref G) (by rfl) ?_;exists tF x.gv q
def  rB(K:Frag)(c:TJ)(d:TL)(_:PzK):Sp:=#[3,∃(P L G:Addr) (h w g:Int) (rows:List RR) (a:∅),vs=[.ref P]/\IsPz H c d P L G h w g rows a/\∀ l p rs,H l=none->IsFl (upd H l<|.lst<|rs.map V.ref) p h w g->IsRules (upd H l<|.lst<|rs.map V.ref) c p l rs rows->Q (.ref l) (upd H l<|.lst<|rs.map V.ref)]
def pA:f:=rB K c d .Puzzle
def lG:c:=#[":kv~oaQp0~Md"]
def xt{c:TJ}:R "self" pA lG K c d:=by
 obtain⟨P,L,G,h,w,g,rows,e,rfl,x,q⟩:=h;obtain⟨f,p,rs,h1,h2,h3⟩:=x.ex;exists lG;show fldE (k:=.Puzzle) rfl x.ok h1 (v:=.ref L) (by rfl) ?_;exists tF h3.top λl b=>?_;have a:Same H (upd H l<|.lst<|rs.map V.ref):=(Pr H).laid b;show q l p rs b (a _ _ h2) (ak,h3.len,λi r y e1 e2=>(h3.at_ i r y e1 e2).same a)
def EJ {c:TJ} {h w g:Int} {b:Addr->Hp->Prop} (X:IsRules H c p L rs rows) (R:tP c h w g rows)
  (y:∀ l o,H l=none->Same H o->o l=↥((rows.map RR.txt).map V.str)->b l o):CompR (Itl K L) (gName 1) tTrue (bW c c.ok "line" (vb K c) (tVar 1) tNil) b [none,none] H:=by
 have D:=R.n;have z:=X.len;show iN (xs:=rs.map V.ref) (λ_=>true) (λi=>.str<|(rows.map RR.txt).getD i<|tx []) (by rw[Pj];lia) (Qm X.top) ?_ ?_ ?_
 . intro i x f R a d k1;show k1 _ (Pr _)
 . intro i x f u a G d k1;rw[Pp]at a
   cases e:rs[i]? with
   | none=>rw[e]at a;cases a
   | some r=>
    rw[e]at a;cases a;have F:=(Ps.mp e).1;have j:rows[i]? =some rows[i]:=Px #[4];have q:=X.at_ i r _ e j;obtain⟨E,W,C,h1,h2,h3⟩:=q.ex;have t:=k1 _<|Pr f;have B:(rows.map RR.txt).getD i (tx [])=rows[i].txt:=by rw[List.getD,Pp,j];rfl
    rw[B]at t;have O:=R.ok _<|PD j;have s:=vU (k:=rows[i].k) (n:=rows[i].n) (m:=rows[i].m) O.len;change bW c c.ok "line" _ _ _ [none,↑r] f u;show methE (k:=rows[i].k) rfl q.ok (d _ _ h1) (by rfl) ?_;exists(r,p,_,_,_,_,rfl,q.same d,s.1,s.2,t)
 . intro l f v d A;show y l f v d ?_;rw[A,fm,Pj,z]
   congr 2
   show QL λi=>?_;rw[Pp,Pp,Pp];by_cases h:i<rows.length
   . rw[QE h,Px h];simp[List.getD,h]
   . rw[PX (by simpa using h),PX #[4]];rfl
def  rC(K:Frag)(c:TJ)(d:TL)(_:PzK):Sp:=#[3,∃(P L G:Addr) (h w g:Int) (rows:List RR) (b:∅),vs=[.ref P]/\IsPz H c d P L G h w g rows b/\∀ l a,Same H a->H l=none->a l=↥((rows.map RR.txt).map V.str)->Q (.ref l) a]
def pB:f:=rC K c d .Puzzle
def lH:c:=#[":kR&-- UeQp0~Ml#1 NJn~z'Q'Ren1d"]
def xu{c:TJ}:R "self" pB lH K c d:=by
 obtain⟨P,L,G,h,w,g,rows,j,rfl,x,q⟩:=h;obtain⟨i,p,rs,h1,h2,h3⟩:=x.ex;ac_nf;unfold lH;rw[cp,bH];show fldE (k:=.Puzzle) rfl x.ok h1 (v:=.ref L) (by rfl) ?_;show(L,rfl,(_,Qm h3.top),?_);show EJ h3 x.R λl a f e b=>q l a e f b
section
variable{ι:Type}
structure rD(P:Program)(w:World)(K:Frag)(mg:Str->Option Value)(base:Heap)(c:RCl ι)(okm:ι->Bool)(k:Nat)(m:Str)(ps:List Str)(sp:ι->Sp):Prop where
 ex:∀ i,okm i=true->∃(f:Addr) (fd:FuncData),Cls K (c.A i)/\Meth K (c.A i) m f/\FnOk P w K mg base (CX1 P w) k f fd ps (sp i)/\Binds K fd ps []
structure EK(P:Program)(w:World)(K:Frag)(mg:Str->Option Value)(base:Heap)(k:Nat)(x:Str)(C:Addr)(ps:List Str)(sp:Sp):Prop where
 ex:∃(f:Addr) (fd:FuncData),Mk K C f/\FnOk P w K mg base (CX1 P w) k f fd ps sp/\mg x=↑C/\Binds K fd ps []
def  jM(c:RCl ι)(b:ι->Bool)(m:Str)(sp:ι->Sp)(E:XK)(f:TE)(t:TA):TE:=λσ H Q=>f σ H λx e=>∃ a k g d,x=.ref a/\b k=true/\e a=some (.ins (c.A k) g d)/\d.lookup m=none/\
 t σ e λvs h=>sp k (x::vs) h Q E
end
section
variable{ι:Type}{X:Cx}{c:RCl ι}{o e:Expr}{es:List Expr}{x m:Str}{p pos apos:Pos}{ta:TE}{t:TA}{okm:ι->Bool}{k n:Nat}{ps:List Str}{sp:ι->Sp}{sp1:Sp}{C:Addr}{E:XK}
def F9 (j:je (CX1 X.prog X.w) X E) (M:EK X.prog X.w X.K X.mg X.base k x C ps sp1) (h:Room n X.A) (c:k+1<=n) (i:Gl X x) (d:PA X (e::es) t)
  (a:(x==("__debug__":Str))=false:=by decide) (g:starEach (e::es) X.env=(false ,eval e X.env)::starEach es X.env:=by rfl) (b:(backTo pos<|starEach es X.env).any (·.1)=false:=by rfl):
  PE X (.Call (.Name x p) (e::es) [] pos) (tMake C sp1 [] E t):=by
 obtain⟨f,o,mk,F,l,m⟩:=M.ex;show Du mk F (h.mono c) i l m .nil j d a g b
def  kP {pl:Sem Bool} (R:je (CX1 X.prog X.w) X E) (M:rD X.prog X.w X.K X.mg X.base c okm k m ps sp) (T:Room n X.A) (N:k<=n) (B:PE X o ta) (z:PA X (e::es) t)
  (b:starEach (e::es) X.env=(false ,eval e X.env)::starEach es X.env:=by rfl) (d:(backTo pos<|starEach es X.env).any (·.1)=false:=by rfl)
  (D:eval (.Call (.Attribute o m apos) (e::es) [] pos) X.env=(do
   let ov ← eval o X.env
   standAt apos.atName
   let (f ,first) ← holding [ov] (getMethod ov m pl)
   callWith pos f first (backTo pos<|starEach (e::es) X.env) (backToKw pos<|keywordEach [] X.env)):=by rfl):
  PE X (.Call (.Attribute o m apos) (e::es) [] pos) (jM c okm m sp E ta t):=by
 intro j s σ H Q I h;show Q6 (pl:=pl) (thn (B j s σ H _ I h) λu L ⟨x,P,y,C,a,i,dx,fs,U,O,J,l,q⟩=>?_) D;subst U;obtain rfl:u=Value.ref a:=C;obtain⟨f,Y,G,p,F,W⟩:=M.ex i O;show nQ y J G p l ?_;show QT (first:=[.ref a]) (h₀:=X.base) I.ok.mod.kin p.kp (thn (z pos j L σ P _ y q) λg s2 ⟨vs,Z,v,r,S⟩=>(v.kIn,?_)) b d;show w5 (us:=.ref a::g) (vs:=.ref a::vs) F (T.mono N) W .nil R v (.cons rfl r) (by rw[QI];show S)
def Jh {pl:Sem Bool} {d:List (Addr × Obj)} {s:Shared} {σ:St} {H:Hp} {Q:VK} (E:XK) (g:∀ e s,X.xe e s->False) (M:rD X.prog X.w X.K X.mg X.base c okm k m ps sp) (hr:Room n X.A) (Z:k<=n) (O:PE X o ta) (N:PA X (e::es) t)
  (I:Inv X d σ H s) (h:jM c okm m sp E ta t σ H Q)
  (y:starEach (e::es) X.env=(false ,eval e X.env)::starEach es X.env:=by rfl) (B:(backTo pos<|starEach es X.env).any (·.1)=false:=by rfl)
  (R:eval (.Call (.Attribute o m apos) (e::es) [] pos) X.env=(do
   let ov ← eval o X.env
   standAt apos.atName
   let (f ,first) ← holding [ov] (getMethod ov m pl)
   callWith pos f first (backTo pos<|starEach (e::es) X.env) (backToKw pos<|keywordEach [] X.env)):=by rfl):
  wpAny (model X.prog X.w) X.A (eval (.Call (.Attribute o m apos) (e::es) [] pos) X.env) (EP X d σ Q) (Came X d σ E) s:=by
 show Q6 (pl:=pl) (P7 (O d s σ H _ I h) (λu U ⟨x,H1,L,P,a,i,dx,fs,ex,hi,T,l,q⟩=>?_) λe s z=>(g e s z).elim) R;subst ex;obtain rfl:u=Value.ref a:=P;obtain⟨f,fd,S,G,F,hb⟩:=M.ex i hi;show nQ L T S G l ?_;show QT (first:=[.ref a]) (h₀:=X.base) I.ok.mod.kin G.kp (P7 (N pos d U σ H1 _ L q) (λb v ⟨vs,D,p,r,J⟩=>(p.kIn,?_)) λe s z=>(g e s z).elim) y B;have C:Vals (V.ref a::vs) ((Value.ref a::b)++[]):=by rw[QI];show .cons rfl r
 have W:((Value.ref a::b)++[]).length=ps.length:=by rw[← C.length];show F.len _ _ _ _ J
 show Sm (RX (F.run X.A X.stack v D (Value.ref a::b,[]) ((Value.ref a::b)++[]) (V.ref a::vs) Q E (hr.mono Z) p.env0 (hb v (Value.ref a::b) p.kIn W) C J) λr s' j=>?_)
 cases r with
 | error e=>show(D,v,p,j)
 | ok Y=>
  cases Y with
  | ret u=>show p.after j
  | next=>show False.elim j
  | brk=>show False.elim j
  | cont=>show False.elim j
end
section
variable{ι:Type}{c:RCl ι}{ta:TE}{t:TA}{m:Str}{σ:St}{H:Hp}{Q:VK}{okm:ι->Bool}{sp:ι->Sp}{sp1:Sp}{C:Addr}{E:XK}
def  lg:jM c okm m sp E ta t σ H Q=ta σ H λx b=>∃ a k dx d,x=.ref a/\okm k=true/\b a=some (.ins (c.A k) dx d)/\d.lookup m=none/\t σ b λvs e=>sp k (x::vs) e Q E:=rfl
def  lh:tMake C sp1 [] E t σ H Q=t σ H λvs a=>∀ x dx,a x=none->a dx=none->dx≠x->sp1 (.ref x::(vs++[])) (upd (upd a dx<|.own x) x<|.ins C dx []) (λv b=>v=.non/\Q (.ref x) b) E:=rfl
end
end L2
namespace L2
open PySem PySem.Builtin PySem.Builtin.Str
def  catS(s:List Nat):List (List Nat)->List Nat
 | []=>[]
 | [x]=>x
 | x::y::r=>x++(s++catS s (y::r))
def ou(s:List Nat):∀ ts:List (List Nat),Str.join (tx s) (ts.map tx)=tx (catS s ts)
 | []=>rfl
 | [x]=>rfl
 | x::y::r=>by
  change tx x++tx s++Str.join (tx s) ((y::r).map tx)=_;rw[ou s (y::r),lA,lA];change tx _=tx (x++(s++catS s (y::r)));rw[Qj]
variable{s:List Nat}
def at_iff{x:List Nat}{k:Nat}:StrLaws.At (tx x) (tx s) (tx x).length k↔k+s.length<=x.length/\(x.drop k).take s.length=s:=by
 unfold StrLaws.At;rw[StrLaws.subAt_eq,aF,aF,jg,jg,Q3]
def qt(x:List Nat)(a b:Nat):strSub (tx x) a b=tx ((x.drop a).take<|b-a):=by
 rw[← u7 (strSub (tx x) a b),StrLaws.strSub_toList,jg]
def yZ{x:List Nat}{c j k:Nat}(a:s[j]? =some c)(h:StrLaws.At (tx x) (tx s) (tx x).length k):x[k+j]? =some c:=by
 have h2:=(at_iff.mp h).2;have b:=(Ps.mp a).1;rw[← h2,QV b,Qt]at a;show a
def B4{x s:List Nat}{c j:Nat}(n:s[j]? =some c)(p:∀ i,i<j->s[i]? ≠some c):∀(rows:List (List Nat)) (a f:Nat) (b:List Nat),rows≠[]->(∀ r∈rows,c∉r)->x.drop a=catS s rows->a<=x.length->StrLaws.ChainG (tx x) (tx s) (tx x).length a b f->(∀ k,f<=k->¬ StrLaws.At (tx x) (tx s) (tx x).length k)->StrLaws.partsFrom (tx x) (tx s).length a b=rows.map tx
 | [],_,_,_,h,_,_,_,_,_=>absurd rfl h
 | [r],a,f,b,_,hr,e,ha,hc,hn=>by
  have e:x.drop a=r:=e
  match b,hc with
  | [],hc=>
   change [strSub (tx x) a (tx x).length]=[tx r];rw[qt,e,aF,QZ (by rw[← e,Rg];lia)]
  | d::t,hc=>
   have m:=yZ n hc.2.1
   have:c∈r:=by
    rw[← e];have h1:(x.drop a)[d+j-a]? =some c:=by rw[Qt,show a+(d+j-a)=d+j by have:=hc.1;lia];show m
    show PD h1
   show absurd this (hr r Pn)
 | r::r2::t,a,f,b,_,hr,e,ha,hc,hn=>by
  have e:x.drop a=r++(s++catS s (r2::t)):=e;have q:=(Ps.mp n).1
  have C:x.length-a=r.length+(s.length+(catS s (r2::t)).length):=by
   have:=congrArg List.length e;rw[Rg,Pq,Pq]at this;show this
  have l:StrLaws.At (tx x) (tx s) (tx x).length (a+r.length):=at_iff.mpr (by lia,by rw[← Ri,e,Q4,ST])
  have g:∀ k,a<=k->k<a+r.length->¬ StrLaws.At (tx x) (tx s) (tx x).length k:=λk h1 h2 w=>by
   have m:=yZ n w;have h3:(x.drop a)[k+j-a]? =some c:=by rw[Qt,show a+(k+j-a)=k+j by lia];show m
   rw[e]at h3;by_cases v:k+j-a<r.length
   . rw[PV v]at h3;show hr r Pn (PD h3)
   . rw[P4 #[4],PV #[4]]at h3;show p _ #[4] h3
  match b,hc with
  | [],hc=>
   have B:f=a:=hc;show absurd l (hn _ #[4])
  | d::u,hc=>
   have A:d=a+r.length:=by
    by_cases h1:d<a+r.length
    . show absurd hc.2.1 (g d hc.1 h1)
    . by_cases h2:a+r.length<d
      . show absurd l (hc.2.2.1 _ #[4] h2)
      . lia
   subst A;have o:=B4 n p (r2::t) (a+r.length+s.length) f u (by simp) (λz y=>hr z<|Pm _ y) (by rw[← Ri,← Ri,e,Q4,Q4]) #[4] (by have:=hc.2.2.2;rw[aF]at this;show this) hn;change strSub (tx x) a (a+r.length)::StrLaws.partsFrom (tx x) (tx s).length (a+r.length+(tx s).length) u=tx r::(r2::t).map tx;rw[aF]at o ⊢;rw[o,qt,e,show a+r.length-a=r.length by lia,ST]
variable{rows:List (List Nat)}
def Ga{c j:Nat}(g:s[j]? =some c)(o:∀ i,i<j->s[i]? ≠some c)(p:PySem.Builtin.Str.strKind (tx s)<=1)(b:rows≠[])(e:∀ r∈rows,c∉r):Txt.split (tx<|catS s rows) (tx s)=rows.map tx:=by
 have l:=(Ps.mp g).1;obtain⟨f,k,n⟩:=StrLaws.occ_tight (tx<|catS s rows) (tx s) (by rw[aF];lia);have a:=B4 (x:=catS s rows) g o rows 0 f _ b e (by simp) #[4] k n;unfold Txt.split
 split
 . rename_i d
   rw[Sz,PP,PP]at d
   match rows,b,e with
   | [r],_,_=>rfl
   | r::r2::t,_,_=>
    exfalso
    rcases d with h | h
    . rw[aF,aF]at h;have:(catS s (r::r2::t)).length=(r++(s++catS s (r2::t))).length:=rfl;rw[this,Pq,Pq]at h;lia
    . have:1<=PySem.Builtin.Str.strKind (tx<|catS s (r::r2::t)):=by
       unfold PySem.Builtin.Str.strKind
       split
       . show Py _
       . split <;> decide
      lia
 . split
   . rename_i m
     rw[List.isEmpty_iff.mp m]at a
     have:StrLaws.partsFrom (tx<|catS s rows) (tx s).length 0 []=[tx<|catS s rows]:=by
      change [strSub (tx<|catS s rows) 0 (tx<|catS s rows).length]=_;rw[StrLaws.sub_whole]
     rw[← a,this]
   . rw[RV];show a
def  EL(a:rows≠[])(b:∀ r∈rows,59∉r):Txt.split (tx<|catS s!"; " rows) (tx s!"; ")=rows.map tx:=
 Ga (j:=0) rfl (λi c=>by omega) (by decide+kernel) a b
end L2
namespace L2
open PySem PySem.Spec PyProof.Rows
local macro_rules | `(tactic| walk_at "p")=>do
 let nm (s:Lean.Name):Lean.Ident:=Lean.mkIdent (Lean.Name.num (`_private.PySem.Builtin.Int.W0All) 0++s)
 `(tactic| unfold $(nm `PySem.Builtin.intFromText):ident $(nm `PySem.Builtin.readNumeral):ident)
local macro_rules | `(tactic| walk_at "b")=>do
 let nm (s:Lean.Name):Lean.Ident:=Lean.mkIdent (Lean.Name.num (`_private.PySem.Builtin.Int.W0All) 0++s)
 `(tactic| unfold $(nm `PySem.Builtin.isBlank):ident)
local macro_rules | `(tactic| walk_at "n")=>do
 let nm (s:Lean.Name):Lean.Ident:=Lean.mkIdent (Lean.Name.num (`_private.PySem.Builtin.Int.W0All) 0++s)
 `(tactic| unfold $(nm `PySem.Builtin.numeralDigits?):ident)
local macro_rules | `(tactic| walk_at "d")=>do
 let nm (s:Lean.Name):Lean.Ident:=Lean.mkIdent (Lean.Name.num (`_private.PySem.Builtin.Int.W0All) 0++s)
 `(tactic| unfold $(nm `PySem.Builtin.digitValue?):ident)
local macro_rules | `(tactic| walk_at "x")=>do
 let nm (s:Lean.Name):Lean.Ident:=Lean.mkIdent (Lean.Name.num (`_private.PySem.Builtin.Int.W0All) 0++s)
 `(tactic| unfold $(nm `PySem.Builtin.prefixBase?):ident)
def  digW(c:Nat):Bool:=decide (48<=c)&&decide (c<=57)
def takeW{p:Nat->Bool}:∀{w:List Nat},(∀ c∈w,p c=true)->w.takeWhile p=w
 | [],_=>rfl
 | c::r,h=>by rw[List.takeWhile_cons,PK<|h c Pn,takeW λx a=>h x<|Pm _ a]
def dropW{p:Nat->Bool}:∀{w:List Nat},(∀ c∈w,p c=false)->w.dropWhile p=w
 | [],_=>rfl
 | c::r,h=>by rw[List.dropWhile_cons,PF (by rw[h c Pn];show Pt)]
def foldD{f:Array Nat × Bool->Nat->Option (Array Nat × Bool)}:∀{w:List Nat} {a:Array Nat} {b:Bool},(∀ a b c,c∈w->f (a ,b) c=some (a.push<|c-48 ,true))->w.foldlM f (a ,b)=some (a++(w.map λc=>c-48).toArray ,b||!w.isEmpty)
 | [],a,b,_=>by simp
 | c::r,a,b,h=>by
  rw[List.foldlM_cons,h a b c Pn];change r.foldlM f (a.push<|c-48 ,true)=_;rw[foldD (a:=a.push (c-48)) (b:=true) λa b x d=>h a b x<|Pm _ d];simp
def  gisG(n:Nat)(w:List Nat)(q:w.all digW=true)(h1:w≠[])(H:w.length<=9)(B:w.head? ≠some 48)(I:n=w.foldl (λa c=>10*a+(c-48)) 0)(u:Tok):Gives (Builtin.«int.__new__» ([.type "int",.str (tx w) u],[])) (.int n):=
 .of_wp λM A E s Q h=>by
  have v:((tx w).cps.all λx=>decide<|x<128)=true:=by
   have j:∀ c∈w,c<128:=λc j=>by have:=PL.mp q c j;simp[digW]at this;omega
   simpa [tx] using j
  obtain⟨O,g,d,R,S⟩:=s;have J:=PySem.F.conv_sub_int;have D:=PySem.F.madeHere_int;have L:=xn;have K:=tL;have C:=tM
  iterate 44 (any_goals (first | assumption | wp_step))
  show PB<|Tv (a:=some (tx w)) rfl ?_;show Tv (a:=some w) ?e1 ?_
  case e1=>
   change(pure (some (if ((tx w).cps.all λx=>decide<|x<128)=true then(tx w).cps.toList else _)):Sem _)=_;rw[PK v,jg]
  show z5 (m':=mkInt (n:Int)) ?e2 ?_
  case e2=>
   clear h J D L K C
   have j:∀ c∈w,48<=c/\c<=57:=λc j=>by have:=PL.mp q c j;simpa [digW] using this
   change _=mkInt (n:Int);dsimp only;walk_at "p";dsimp only;rw[takeW (λc f=>by have:=j c f;simp;omega)];rw[PK #[0]];rw[pure_bind];rw[dropW (λc f=>by have:=j c f;walk_at "b";simp;omega)]
   obtain⟨i,m,rfl⟩:∃ i m,w=i::m:=by
    cases w with
    | nil=>show absurd rfl h1
    | cons a b=>show(a,b,rfl)
   have p:i=49\/i=50\/i=51\/i=52\/i=53\/i=54\/i=55\/i=56\/i=57:=by
    have h1:=j i Pn;have h2:i≠48:=λz=>B (by rw[z];rfl);omega
   have o:∀ x:Nat,decide ((#[]++(List.map (λc=>c-48) (x::m)).toArray:Array Nat).size>6000)=false:=λx=>by
    rw[Tb];simp;simp at H;omega
   have t:∀ x:Nat,n=List.foldl (λa c=>10*a+(c-48)) 0 (x::m)->Array.foldl (λk d=>k*10+d) 0 (#[]++(List.map (λc=>c-48) (x::m)).toArray:Array Nat)=n:=λx N=>by
    rw[N]
    have e:∀(l:List Nat) (a:Nat),List.foldl (λk d=>k*10+d) a (l.map λc=>c-48)=List.foldl (λa c=>10*a+(c-48)) a l:=λl=>by
     induction l with
     | nil=>intro a;rfl
     | cons y r G=>intro a;rw[Pz,QO,QO,G,Nat.mul_comm a 10]
    rw[← e (x::m) 0];simp
   clear B v h1 q
   rcases p with rfl | rfl | rfl | rfl | rfl | rfl | rfl | rfl | rfl
   all_goals
    simp only;walk_at "x";simp only[show((10:Nat)==0)=false from rfl,SU,TC];rw[dropW (λc f=>by have:=j c<|List.mem_reverse.mp f;walk_at "b";simp;omega),List.reverse_reverse];walk_at "n"
    rw[foldD (λa b c f=>by
     have P:=j c f;walk_at "d";have e1:(c==95)=false:=by simp;omega
     have e2:(decide (48<=c)&&decide (c<=57))=true:=by simp;omega
     simp only[e1,e2,SU,TC,Th];rw[PK #[0]])]
    simp only[Option.bind_eq_bind,Option.bind_some,List.isEmpty_cons,Bool.not_false,Bool.or_true,Th,show((0:Nat) != 0)=false from rfl,Bool.and_false,Qc,SU,TC,o];rw[t _ I,PK (by simp)]
  repeat (any_goals (first | assumption | wp_step))
  all_goals first | show(_,rfl,h) | skip
def  IntG(w:List Nat)(n:Nat):Prop:=w.all digW=true/\w≠[]/\w.length<=9/\(w.head? =some 48->w=[48])/\n=w.foldl (λa c=>10*a+(c-48)) 0
def  EN:List V->Hp->VK->Prop
 | [.int i],H,Q=>Q (.int i) H
 | [.bl k],H,Q=>Q (.int (if k then 1 else 0)) H
 | [.str z],H,Q=>∃(n:Nat) (w:List Nat),IntG w n/\z=tx w/\Q (.int n) H
 | _,_,_=>False
def EO{X:Cx}:CallR X (.type "int") EN:=by
 intro b s σ H g c Q I r h;unfold EN at h
 split at h
 . show pi b s σ H _ c Q I r (.inl (_,rfl,h))
 . show pi b s σ H _ c Q I r (.inr (_,rfl,h))
 . obtain⟨n,w,⟨h1,h2,h3,h4,h5⟩,rfl,q⟩:=h;obtain⟨u,rfl,d⟩:=fj r;obtain⟨t,rfl⟩:=d;by_cases a:w.head? =some 48
   . have e:=h4 a;subst e;have f:n=0:=h5;subst f;show call_int_1 (gis 0 #[1] t).meets (show(Made.int ((0:Nat):Int)).post _ s from(rfl,(.int ((0:Nat):Int),H,I.tok _,(_,rfl),q)))
   . show call_int_1 (gisG n w h1 h2 h3 a h5 t).meets (show(Made.int (n:Int)).post _ s from(rfl,(.int n,H,I.tok _,(_,rfl),q)))
 . show h.elim
def  kIsXT(K:Frag):List V->Hp->VK->Prop:=λvs H Q=>∃(a C t:Addr) (D:Option Addr) (b:List Addr),vs=[.ref a,.ref t]/\H a=some (.ext<|XO a C D)/\XIs K C/\H t=some (.tup<|b.map V.ref)/\(∀ y∈b,PySem.W.kitOne K (.ref C) (.ref y)=some false)/\Q (.bl false) H
def z7{K:Frag}{C:Addr}:∀{cs:List Addr} {Pf:List Value},(∀ y∈cs,PySem.W.kitOne K (.ref C) (.ref y)=some false)->Vals (cs.map V.ref) Pf->PySem.W.kitAny K (.ref C) Pf=some false
 | [],_,_,.nil=>rfl
 | y::cs,_,h,.cons r rs=>by
  cases r;unfold PySem.W.kitAny;rw[h y Pn];show z7 (λz a=>h z<|Pm _ a) rs
def xv{X:Cx}:CallR X (.builtin "isinstance") (kIsXT X.K):=by
 intro x s σ H A v Q I r h;obtain⟨a,C,t,D,y,rfl,i,Z,f,l,q⟩:=h;obtain⟨u,G,rfl,e,b⟩:=Bi r;cases e;cases b;obtain⟨p,_⟩:=I.hok a _ i;obtain⟨o,g,⟨⟨B,E,F,w⟩,k,d,n,c⟩,m⟩:=I.tuple<|TH f;dsimp only at d c;subst d;subst c;show PySem.W.kia_tup (BX Z) I.kIn p k (z7 l g) (λz=>nomatch z) λj=>(.bl false,H,I.tok j,rfl,q)
def  Gb{K:Frag}{x C t:Addr}{D:Option Addr}{cs:List Addr}{H:Hp}{Q:VK}(Z:XIs K C)(c:H x=some (.ext<|XO x C D))(b:H t=some (.tup<|cs.map V.ref))(a:∀ y∈cs,PySem.W.kitOne K (.ref C) (.ref y)=some false)(h:Q (.bl false) H):kIsXT K [.ref x,.ref t] H Q:=(x,C,t,D,cs,rfl,c,Z,b,a,h)
inductive DRows(w:World)(K:Frag):List DictEntry->List (Str × List Str)->Prop
 | nil:DRows w K [] []
 | cons {hsh:Int} {k:Str} {t:Tok} {q:Addr} {o:Obj} {Pf:Array Value} {n:Nat} {ws:List Str} {es:List DictEntry} {D:List (Str × List Str)}:hsh=hashStr w k->K.lookup q=some o->o.cls=.type "tuple"->o.data=.seq Pf n->Pf.size<=sizeLine->Vals (ws.map V.str) Pf.toList->DRows w K es D->DRows w K ((hsh,.str k t,.ref q)::es) ((k ,ws)::D)
structure GDict(w:World)(K:Frag)(mg:Str->Option Value)(x:Str)(D:List (Str × List Str)):Prop where
 ex:∃(p:Addr) (o:Obj) (es:Array DictEntry) (ep:Nat),mg x=↑p/\K.lookup p=some o/\o.ExactDict/\o.data=.dict es ep/\DRows w K es.toList D/\(D.map λx=>x.1).Nodup
def DRows.of{P:Program}{w:World}{K:Frag}{g:List DictEntry}{D:List (Str × List Str)}(h:DRows w K g D):
  ∃ c:List (Str × Value),Pairs (strKind P w) g c/\c.map (λx=>x.1)=D.map (λx=>x.1)/\(∀ e∈g,∃ k,(strKind P w).is k e.key=true/\e.hash=(strKind P w).hash k)/\
   ∀ k d,D.lookup k=some d->∃ q,valueAt c k=↑q/\∃(o:Obj) (Pf:Array Value) (n:Nat),K.lookup q=some o/\o.cls=.type "tuple"/\o.data=.seq Pf n/\Pf.size<=sizeLine/\Vals (d.map V.str) Pf.toList:=by
 induction h with
 | nil=>show([],.nil,rfl,λe b=>(by cases b),λk d e=>(by cases e))
 | @cons u k t q o Pf n d g D h1 h2 h3 h4 h5 h6 _ m=>
  obtain⟨c,s,l,p,r⟩:=m;have j:(strKind P w).is k (.str k t)=true:=by change(k==k)=true;simp
  show((k ,.ref q)::c,.cons j rfl s,by rw[Pz,Pz,l],λe b=>?_,λf i e=>?_)
  . rcases Pw.mp b with rfl | b
    . show(k,j,h1)
    . show p e b
  . rw[Qn]at e;unfold valueAt;rw[Q8];by_cases a:f=k
    . subst a;simp at e;subst e;show(q,by simp,o,Pf,n,h2,h3,h4,h5,h6)
    . have y:(f==k)=false:=by simpa using a
      rw[y]at e;have v:decide (k=f)=false:=Pl<|λz=>a z.symm;dsimp only;rw[v];show r f i e
def  tIxG(K:Frag)(D:List (Str × List Str))(c:TE):TE:=λσ H Q=>c σ H λy a=>∃ k b,y=.str k/\D.lookup k=some b/\∀ q,SqT K a q (b.map V.str)->Q (.ref q) a
def  rInS(K:Frag):R2:=λx y H Q=>∃(z:Str) (q:Addr) (a:List Str),x=.str z/\y=.ref q/\SqT K H q (a.map V.str)/\Q (.bl<|decide<|z∈a) H
section
variable{X:Cx}{a b:Expr}{ta tb:TE}{pos p:Pos}{x:Str}{D:List (Str × List Str)}
def Kz(G:GDict X.w X.K X.mg x D)(hb:PE X b tb)(J:Gl X x)(g:yP b)(j:(x==("__debug__":Str))=false:=by decide):PE X (.Subscript (.Name x p) b pos) (tIxG X.K D tb):=by
 obtain⟨d,o,es,U,h1,h2,h3,h4,h5,h6⟩:=G.ex;obtain⟨N,O,p2,E,F⟩:=h5.of (P:=X.prog)
 have B:IxR X (λx y H Q=>x=.ref d/\∃ k a,y=.str k/\D.lookup k=some a/\∀ q,SqT X.K H q (a.map V.str)->Q (.ref q) H):=by
  intro i l r s σ H x y v u Q I M ry h hs;obtain⟨rfl,k,a,rfl,W,q⟩:=h;cases (show v=Value.ref d from M);have f:s.heap.get? d=some o:=I.kIn d o h2;have A:Heap.DictOf (strKind X.prog X.w) s.heap d N:=(o,es,U,f,h3,h4,λe C=>E e<|Array.mem_toList_iff.mpr C,O,by rw[p2];show h6);obtain⟨z,S,o2,L,n,g1,T,Z,Y,R⟩:=F k a W;obtain⟨t,rfl⟩:∃ t,u=Value.str k t:=ry;have hk:(strKind X.prog X.w).is k (.str k t)=true:=by change(k==k)=true;simp
  show tail_any A.typeIs RC.lookup (wpAny_getItem_of hk A.mapOf S ?_) hs;show(.ref z,H,I.tok _,rfl,q z<|.inr (o2,L,n,g1,T,Z,Y,R))
 have h0:=Ex (pos:=pos) B (aW (pos:=p) (v:=V.ref d) J h1 rfl j) hb g;intro r s σ H Q I h;show h0 r s σ H Q I ?_
 have e:(λ(y:V) (c:Hp)=>∃ k a,y=.str k/\D.lookup k=some a/\∀ q,SqT X.K c q (a.map V.str)->Q (.ref q) c)=λy c=>(V.ref d=V.ref d)/\∃ k a,y=.str k/\D.lookup k=some a/\∀ q,SqT X.K c q (a.map V.str)->Q (.ref q) c:=by
  funext y c;simp
 have m:tb σ H (λ(y:V) (c:Hp)=>∃ k a,y=.str k/\D.lookup k=some a/\∀ q,SqT X.K c q (a.map V.str)->Q (.ref q) c):=h;rw[e]at m;show m
def KA:OpR X (compareOp .In) (rInS X.K):=by
 intro c s σ H x y v u Q I b e h;obtain⟨z,q,a,rfl,rfl,d,h⟩:=h;show tw c s σ H _ _ v u Q I b e (q,a.map V.str,rfl,.inr d,rfl,pq a,?_);rw[rq];show h
end
section
variable{K:Frag}{σ:St}{H:Hp}{Q:VK}{te:TE}{D:List (Str × List Str)}
def  LD:tIxG K D te σ H Q=te σ H λy a=>∃ k b,y=.str k/\D.lookup k=some b/\∀ q,SqT K a q (b.map V.str)->Q (.ref q) a:=rfl
end
def   ws5:String:="aB lh lg iR c5 gd eY fc iS iO gc iQ if_true if_false Bool.false_eq_true decide_true decide_false cT cU gn bZ bK cR eJ cS bY eC eE bX gk b0 cb ce cf cg ci cc eK eO eQ ei gm Bool.not_true Bool.not_false aB "++ws1
local macro_rules|`(tactic|walk_at "w")=>wk9 ws5
local macro_rules|`(tactic|symm)=>`(tactic|walk_at "w")
def  L0(a:EA):List Addr:=[a.BadThought,a.NoFilling,a.NoMove,a.NoName,a.NoRow,a.NoText,a.NotOne,a.TooMany,a.NoFloor,a.NoPuzzle]
def  digB(c:Nat):Bool:=decide (48<=c)&&decide (c<=57)
def  badH(w:List Nat):Bool:=decide (w=[])||decide (9<w.length)||(decide (w.head? =some 48)&&!decide (w=[48]))
def  numW(w:List Nat):Option Nat:=if badH w=true then none else if w.all digB=true then some (w.foldl (λa c=>10*a+(c-48)) 0) else none
def  nV:Option Nat->V
 | none=>.non
 | some n=>.int n
structure WdOk(w:List Nat):Prop where
 len:w.length<=400
 asc:∀ c∈w,c<128
def numG{w:List Nat}{n:Nat}(h:numW w=some n):IntG w n:=by
 unfold numW at h
 cases a:badH w with
 | true=>rw[PK a]at h;cases h
 | false=>
  rw[PF (by rw[a];show Pt)]at h
  cases b:w.all digB with
  | false=>rw[b,PF Pt]at h;cases h
  | true=>
   rw[b,PK rfl]at h;cases h;unfold badH at a;simp at a;show(b,a.1.1,by lia,a.2,rfl)
def jZ:d:=#[3,∃ w:List Nat,vs=[.str<|tx w]/\WdOk w/\∀ a,Same H a->Q (nV<|numW w) a]
def ke:a:=#[":hrGwv~yaR&-- ~N0l#1 Nc~leE1bfg`0dkbSskv'Sa0d",s!"0123456789"]
def mw:a:=#[":hrMtcxe0bfg=Mtc>vHa0dbi#9 ~Atcxecm0bi#0 bfg`0tcIe0bfg`0kbSs'Te",[48]]
def Ji{c:Nat}(h:c<128):(!(Builtin.Str.occurrences (tx s!"0123456789") (tx [c]) 0 (tx s!"0123456789").length 1).isEmpty)=digB c:=by
 have t:((List.range 128).all λc=>decide<|(!(Builtin.Str.occurrences (tx s!"0123456789") (tx [c]) 0 (tx s!"0123456789").length 1).isEmpty)=digB c)=true:=by decide+kernel
 show Qx (PL.mp t c<|Qk.mpr h)
def nG{K:Frag}{H:Hp}{Q:VK}{w:List Nat}(W:WdOk w)(g:badH w=false)(q:∀ k,Same H k->Q (nV<|numW w) k):ke K (eD9 Q) [some<|.str<|tx w] H:=by
 have n:=W.asc;have t:=W.len;unfold ke;rw[aB,aT];exists tH (cs:=w) (λ_=>true) (λi=>.bl<|digB<|w.getD i 0) #[4] ?_ ?_ ?_
 . intro i c b R d e k1;show k1 _ (Pr _)
 . intro i c b m d g e k1;change tOp (cIn K false) _ _ [none,some<|.str<|tx [c]] b m;symm;have a:=k1 _<|Pr b;change m (.bl (if false=true then _ else !(Builtin.Str.occurrences (tx s!"0123456789") (tx [c]) 0 (tx s!"0123456789").length 1).isEmpty)) b;rw[PF Pt,Ji<|n c<|PD d];have o:w.getD i 0=c:=by rw[List.getD,d];rfl
   rw[o]at a;show a
 . intro l b p e j
   have r:((List.range w.length).filter λ_=>true).map (λi=>V.bl<|digB<|w.getD i 0)=(w.map digB).map V.bl:=by
    rw[fm];show QL λi=>?_;rw[Pp,Pp,Pp];by_cases h:i<w.length
    . rw[QE h,Px h];simp[List.getD,h]
    . rw[PX (by simpa using h),PX #[4]];rfl
   rw[r]at j;show Bj j ?_;have s:(w.map digB).all id=w.all digB:=by rw[TD];rfl
   rw[s];have a:=q _ e;unfold numW at a;rw[g,PF Pt]at a
   cases f:w.all digB with
   | false=>
    rw[f,PF Pt]at a;symm;show a
   | true=>
    rw[f,PK rfl]at a;exists(_,w,numG ?_,rfl,a);unfold numW;rw[g,PF Pt,f,PK rfl]
def y7{K:Frag}{vs:List V}{H:Hp}{Q:VK}{E:XK}:R "word" jZ mw K:=by
 obtain⟨w,rfl,W,q⟩:=h;have m:=W.len
 have f:badH w=true->Q .non H:=λl=>by
  have d:=q _<|Pr H;unfold numW at d;rw[PK l]at d;show d
 ac_nf;unfold mw;rw[aB,aT];symm;rw[lB];by_cases h0:w=[]
 . rw[Po h0];show iteT (f (by rw[h0];rfl))
 rw[Pl h0];show iteF (by rw[aF];show bi #[4],?_);symm;rw[aF];by_cases k:9<w.length
 . rw[Po (show(9:Int) < ((w.length:Nat):Int) by lia)];show iteT (f (by unfold badH;rw[Po k];simp))
 rw[Pl (show ¬ (9:Int) < ((w.length:Nat):Int) by lia)];show iteF ?_;rw[EC,aF,jg]
 obtain⟨c,r,ec⟩:∃ c r,w=c::r:=by
  cases e:w with
  | nil=>show absurd e h0
  | cons c r=>show(c,r,rfl)
 show(bi #[4],bV (a:=c) (by rw[ec];show aJ (j:=0) rfl) ?_);symm
 have e1:decide ((⟨#[c]⟩:Str)=tx [48])=decide (c=48):=by
  have:(⟨#[c]⟩:Str)=tx [c]:=rfl;rw[this,lB];simp
 rw[e1,lB]
 have g:badH w=(decide (c=48)&&!decide (w=[48])):=by
  unfold badH;rw[Pl h0,Pl k,ec];simp
 cases b:decide (c=48) with
 | false=>
  show iteF ?_;show nG W (by rw[g,b];rfl) q
 | true=>
  show iteT ?_
  cases i:decide (w=[48]) with
  | false=>show iteT (f (by rw[g,b,i];rfl))
  | true=>show iteF (nG W (by rw[g,b,i];rfl) q)
def  inW(o:Option Nat)(a b:Int):Bool:=match o with
 | none=>false
 | some n=>decide (a<=n)&&decide ((n:Int)<=b)
abbrev RE(K:Frag)(H:Hp)(E:XK):Prop:=∀ C,Glb K "NoRule" C->∀ a,Same H a->E (.ref C) none a
section
variable{K:Frag}{a:EA}{vs:List V}{H:Hp}{Q:VK}{E:XK}(RR:ag K a "NoRule" a.NoRule (L0 a))
include RR
end
local macro_rules|`(tactic|walk_at "w")=>wk9 ws4
def  nC(n:Nat):List Nat:=(Nat.toDigits 10 n).map Char.toNat
variable{n:Nat}
def  B5:∀ c∈nC n,48<=c/\c<=57:=λc g=>by
 obtain⟨d,h,rfl⟩:=PM.mp g;have:=Nat.isDigit_of_mem_toDigits #[1] #[1] h;simp[Char.isDigit]at this;obtain⟨a,b⟩:=this;have e:'0'.toNat<=d.toNat:=a;have f:d.toNat<='9'.toNat:=b;show(e,f)
def Io:nC n≠[]:=by
 unfold nC;intro h;have h1:=List.map_eq_nil_iff.mp h;have h2:=Nat.length_toDigits_pos (b:=10) (n:=n);rw[h1]at h2;show absurd h2 #[1]
def KB(h:n<1000000000):(nC n).length<=9:=by
 unfold nC;rw[Pj];show(Nat.length_toDigits_le_iff #[1] #[1]).mpr h
def DJ(h:n<10):nC n=[48+n]:=by
 unfold nC;rw[Tc h]
 match n,h with
 | 0,_=>rfl
 | 1,_=>rfl
 | 2,_=>rfl
 | 3,_=>rfl
 | 4,_=>rfl
 | 5,_=>rfl
 | 6,_=>rfl
 | 7,_=>rfl
 | 8,_=>rfl
 | 9,_=>rfl
def Jj(h:¬ n<10):nC n=nC (n/10)++[48+n%10]:=by
 have e:=DJ (n:=n%10)<|Nat.mod_lt _ #[1];have t:=Nat.toDigits_eq_if (b:=10) (n:=n) #[1];rw[PF h]at t;have d:=Tc (b:=10) (n:=n%10)<|Nat.mod_lt _ #[1];unfold nC at e ⊢;rw[d]at e;rw[t,RM,e]
def Jk:∀{n:Nat},(nC n).head? =some 48->nC n=[48]:=by
 intro n
 induction n using Nat.strongRecOn with
 | ind n f=>
  intro h;by_cases d:n<10
  . rw[DJ d]at h ⊢;simp at h;rw[h]
  . rw[Jj d]at h
    have g:(nC<|n/10).head? =some 48:=by
     cases e:nC (n/10) with
     | nil=>show absurd e Io
     | cons x r=>rw[e]at h;show h
    have:=f (n/10) #[4] g
    have v:(nC<|n/10).foldl (λa c=>10*a+(c-48)) 0=n/10:=by
     unfold nC;rw[List.foldl_map];show SY (b:=10) (n:=n/10) #[1] #[1]
    rw[this]at v;simp at v;lia
def KC:(nC n).foldl (λa c=>10*a+(c-48)) 0=n:=by
 unfold nC;rw[List.foldl_map];show SY (b:=10) (n:=n) #[1] #[1]
def Jl(h:n<1000000000):numW (nC n)=some n:=by
 unfold numW
 have h1:badH (nC n)=false:=by
  unfold badH;rw[Pl Io,Pl (show ¬ 9 < (nC n).length by have:=KB h;lia)];by_cases e:(nC n).head? =some 48
  . rw[Jk e];rfl
  . rw[Pl e];rfl
 rw[h1,PF Pt,PK (PL.mpr λc a=>by unfold digB;have:=B5 c a;simp[this]),KC]
def  B6{c:Nat}(h:c<48):c∉nC n:=λa=>by have:=B5 c a;omega
inductive Th7 where
 | pl (w:List Nat) (a b c:Nat) (m:List Nat)
 | su (a b c:Nat) (bk:List Th7)
def  supW:List Nat:=s!"suppose"
def  KW:List (List Nat):=[s!"clue",s!"only",s!"place",s!"count",s!"step",s!"sum",s!"square",s!"reach",s!"turn",s!"pair",s!"ways"]
def  Th7.w:Th7->List Nat
 | .pl w _ _ _ _=>w
 | .su _ _ _ _=>supW
def  Th7.a:Th7->Nat
 | .pl _ a _ _ _=>a
 | .su a _ _ _=>a
def  Th7.b:Th7->Nat
 | .pl _ _ b _ _=>b
 | .su _ b _ _=>b
def  Th7.c:Th7->Nat
 | .pl _ _ _ c _=>c
 | .su _ _ c _=>c
def  txI(T:List Th7->List Nat):Th7->List Nat
 | .pl w a b c m=>catL 32 (w::(a::b::c::m).map nC)
 | .su a b c bk=>catL 32 [supW,nC a,nC b,nC c]++(s!" ("++(T bk++[41]))
def  txB:Nat->List Th7->List Nat
 | 0,_=>[]
 | n+1,l=>catS s!"; " (l.map<|txI<|txB n)
def  OkI(P:List Th7->Prop):Th7->Prop
 | .pl w a b c m=>w∈KW/\a<1000000000/\b<1000000000/\c<1000000000/\m.length<=4/\∀ x∈m,x<1000000000
 | .su a b c bk=>a<1000000000/\b<1000000000/\c<1000000000/\P bk
def  OkB:Nat->List Th7->Prop
 | 0,_=>False
 | n+1,l=>l.length<=900/\∀ x∈l,OkI (OkB n) x
def  LowS(l:List Nat):Prop:=40∉l/\41∉l/\59∉l
instance {l:List Nat}:Decidable (LowS l):=by unfold LowS;infer_instance
def Gc:∀ w∈supW::KW,LowS w/\32∉w/\w≠[]:=by decide
def  xw{w:List Nat}(h:w∈KW):LowS w/\32∉w/\w≠[]:=Gc w (Pm _ h)
def  sup_low:LowS supW/\32∉supW/\supW≠[]:=Gc supW Pn
def  KD:LowS (nC n):=(B6 #[1],B6 #[1],λh=>by have:=B5 _ h;omega)
def LowS.cat{rows:List (List Nat)}(h:∀ r∈rows,LowS r):LowS (catL 32 rows):=by
 have b:∀(c:Nat),c≠32->(∀ r∈rows,c∉r)->c∉catL 32 rows:=by
  intro c d a
  clear h
  induction rows with
  | nil=>show λh=>by cases h
  | cons x r e=>
   cases r with
   | nil=>show a x Pn
   | cons y r=>
    intro h;rcases PN.mp (show c∈x++32::catL 32 (y::r) from h) with h | h
    . show a x Pn h
    . rcases Pw.mp h with h | h
      . show d h
      . show e (λz f=>a z<|Pm _ f) h
 show(b 40 #[1] λr a=>(h r a).1,b 41 #[1] λr a=>(h r a).2.1,b 59 #[1] λr a=>(h r a).2.2)
def  B7{w:List Nat}{ns:List Nat}(h:LowS w):LowS (catL 32 (w::ns.map nC)):=LowS.cat λr a=>by
 rcases Pw.mp a with rfl | a
 . show h
 . obtain⟨n,_,rfl⟩:=PM.mp a;show KD
def  sup_hd_low{a b c:Nat}:LowS (catL 32 [supW,nC a,nC b,nC c]):=B7 (ns:=[a,b,c]) sup_low.1
def  bT(l:List Nat):Int:=(l.count 40:Int) - (l.count 41:Int)
def ow(a b:List Nat):bT (a++b)=bT a+bT b:=by unfold bT;rw[List.count_append,List.count_append];lia
def B8{l:List Nat}(h:LowS l):bT l=0:=by unfold bT;rw[List.count_eq_zero.mpr h.1,List.count_eq_zero.mpr h.2.1];rfl
def  Gp:Int->List (List Nat)->Prop
 | _,[]=>False
 | u,[p]=>u+bT p=0
 | u,p::q::r=>0<u+bT p/\Gp (u+bT p) (q::r)
def  Nn9:Int->List (List Nat)->Prop
 | u,[]=>u=0
 | u,p::r=>0<=u+bT p/\Nn9 (u+bT p) r
def Gp.nn:∀{u:Int} {P:List (List Nat)},Gp u P->Nn9 u P
 | _,[],h=>h.elim
 | u,[p],h=>(by have:u+bT p=0:=h;lia,h)
 | u,p::q::r,h=>(by have:=h.1;lia,Gp.nn h.2)
def Nn9.app:∀{u:Int} {A B:List (List Nat)},Nn9 u A->Nn9 0 B->Nn9 u (A++B)
 | u,[],B,h,k=>by have:u=0:=h;subst this;show k
 | u,p::r,B,h,k=>(h.1,Nn9.app h.2 k)
def  sufL(s:List Nat):List (List Nat)->List (List Nat)
 | []=>[]
 | [p]=>[p++s]
 | p::q::r=>p::sufL s (q::r)
def  preL(h:List Nat):List (List Nat)->List (List Nat)
 | []=>[]
 | p::r=>(h++p)::r
variable{s:List Nat}
def vc:∀{L:List (List Nat)},L≠[]->sufL s L≠[]
 | [],h=>absurd rfl h
 | [p],_=>by simp[sufL]
 | p::q::r,_=>by simp[sufL]
variable{L:List (List Nat)}
def Jm(h:L≠[]):preL s L≠[]:=by cases L with
 | nil=>show absurd rfl h
 | cons p r=>simp[preL]
def Gd{s:List Nat}(b:bT s= -1):∀{u:Int} {L:List (List Nat)},L≠[]->Nn9 u L->Gp (u+1) (sufL s L)
 | _,[],h,_=>absurd rfl h
 | u,[p],_,k=>by
  have k2:u+bT p=0:=k.2;change u+1+bT (p++s)=0;rw[ow];lia
 | u,p::q::r,_,k=>by
  have a:=Gd b (L:=q::r) (by simp) k.2;have k1:=k.1;have e:sufL s (p::q::r)=p::sufL s (q::r):=rfl;rw[e]
  cases e2:sufL s (q::r) with
  | nil=>show absurd e2 (vc (by simp))
  | cons x t=>
   rw[e2]at a;show(by lia,?_);rw[show u+1+bT p=u+bT p+1 by lia];show a
def KF{h:List Nat}(a:bT h=1){u:Int}{L:List (List Nat)}(k:Gp (u+1) L):Gp u (preL h L):=by
 match L,k with
 | [p],k=>
  have b:u+1+bT p=0:=k;change u+bT (h++p)=0;rw[ow];lia
 | p::q::r,k=>
  have k1:0<u+1+bT p:=k.1;have k2:=k.2;show(by rw[ow];lia,?_);rw[ow,show u+(bT h+bT p)=u+1+bT p by lia];show k2
def  PcI(T:List Th7->List (List Nat)):Th7->List (List Nat)
 | .pl w a b c m=>[catL 32 (w::(a::b::c::m).map nC)]
 | .su a b c bk=>preL (catL 32 [supW,nC a,nC b,nC c]++s!" (") (sufL [41]<|T bk)
def  PcB:Nat->List Th7->List (List Nat)
 | 0,_=>[[]]
 | _+1,[]=>[[]]
 | n+1,x::r=>((x::r).map<|PcI<|PcB n).flatten
variable{T:List Th7->List (List Nat)}
def Ge(h:∀ l,T l≠[]){x:Th7}:PcI T x≠[]:=by
 cases x with
 | pl w a b c m=>simp[PcI]
 | su a b c d=>show Jm (vc<|h d)
def oz:∀{n:Nat} {l:List Th7},PcB n l≠[]
 | 0,_=>by simp[PcB]
 | _+1,[]=>by simp[PcB]
 | n+1,x::r=>by
  change((x::r).map<|PcI<|PcB n).flatten≠[];rw[Pz,Qe];intro h;show Ge (T:=PcB n) (λl=>oz) (Tj.mp h).1
def B9{s t:List Nat}:∀{L:List (List Nat)},L≠[]->catS s (sufL t L)=catS s L++t
 | [],h=>absurd rfl h
 | [p],_=>rfl
 | p::q::r,_=>by
  have a:=B9 (s:=s) (t:=t) (L:=q::r) (by simp);have e:sufL t (p::q::r)=p::sufL t (q::r):=rfl;rw[e]
  cases e2:sufL t (q::r) with
  | nil=>show absurd e2 (vc (by simp))
  | cons x y=>
   rw[e2]at a;change p++(s++catS s (x::y))=(p++(s++catS s (q::r)))++t;rw[a];simp
def Hu{t:List Nat}(h:L≠[]):catS s (preL t L)=t++catS s L:=by
 match L,h with
 | [p],_=>rfl
 | p::q::r,_=>change(t++p)++(s++catS s (q::r))=t++(p++(s++catS s (q::r)));simp
def rE{s:List Nat}:∀{A B:List (List Nat)},A≠[]->B≠[]->catS s (A++B)=catS s A++(s++catS s B)
 | [],_,h,_=>absurd rfl h
 | [p],b::B,_,_=>rfl
 | [p],[],_,h=>absurd rfl h
 | p::q::r,B,_,hb=>by
  have a:=rE (s:=s) (A:=q::r) (B:=B) (by simp) hb;change p++(s++catS s ((q::r)++B))=(p++(s++catS s (q::r)))++(s++catS s B);rw[a];simp
def Aa{s:List Nat}:∀{LL:List (List<|List Nat)},(∀ L∈LL,L≠[])->catS s LL.flatten=catS s (LL.map<|catS s)
 | [],_=>rfl
 | [L],h=>by simp[catS]
 | L::M::r,h=>by
  have a:=Aa (s:=s) (LL:=M::r) λx c=>h x<|Pm _ c;have b:(M::r).flatten≠[]:=by rw[Qe];intro e;show h M (by simp) (Tj.mp e).1
  rw[Qe,rE (h L Pn) b,a];rfl
def DL{U:List Th7->List Nat}(d:∀ l,T l≠[])(h:∀ l,catS s!"; " (T l)=U l){x:Th7}:catS s!"; " (PcI T x)=txI U x:=by
 cases x with
 | pl w a b c m=>rfl
 | su a b c e=>
  change catS _ (preL _<|sufL _ _)=_++(_++(U e++_));rw[Hu<|vc<|d e,B9<|d e,h];simp
def y8:∀{n:Nat} {l:List Th7},catS s!"; " (PcB n l)=txB n l
 | 0,_=>rfl
 | _+1,[]=>rfl
 | n+1,x::r=>by
  change catS _ ((x::r).map<|PcI<|PcB n).flatten=catS _ ((x::r).map<|txI<|txB n);rw[Aa (λL a=>by obtain⟨y,_,rfl⟩:=PM.mp a;show Ge λl=>oz),P8]
  congr 1
  show QK λy _=>DL (λl=>oz) λl=>y8
def Gf(d:∀ l,T l≠[]){P:List Th7->Prop}(h:∀ l,P l->Nn9 0 (T l)){x:Th7}(o:OkI P x):Gp 0 (PcI T x):=by
 cases x with
 | pl w a b c m=>change(0:Int)+bT _=0;rw[B8<|B7 (xw o.1).1];rfl
 | su a b c e=>
  show KF ?_<|Gd #[1] (d e) (h e o.2.2.2);rw[ow,B8 sup_hd_low];decide
def Gg:∀{n:Nat} {l:List Th7},OkB n l->Nn9 0 (PcB n l)
 | 0,_,h=>h.elim
 | _+1,[],_=>(by decide,rfl)
 | n+1,x::r,h=>by
  change Nn9 0 ((x::r).map<|PcI<|PcB n).flatten
  have a:∀ l:List Th7,(∀ y∈l,OkI (OkB n) y)->Nn9 0 (l.map<|PcI<|PcB n).flatten:=by
   intro l
   induction l with
   | nil=>show λ_=>rfl
   | cons y t d=>
    intro b;rw[Pz,Qe];show(Gf (λl=>oz) (λl=>Gg)<|b y Pn).nn.app (d λz c=>b z<|Pm _ c)
  show a _ h.2
def Ca{c:Nat}{s:List Nat}(b:c∉s):∀{L:List (List Nat)},(∀ p∈L,c∉p)->∀ p∈sufL s L,c∉p
 | [],_,p,a=>by cases a
 | [q],h,p,a=>by
  rw[PJ.mp a];intro e;rcases PN.mp e with e | e
  . show h q Pn e
  . show b e
 | q::q2::r,h,p,a=>by
  rcases Pw.mp (show p∈q::sufL s (q2::r) from a) with rfl | a
  . show h _ Pn
  . show Ca b (λz d=>h z<|Pm _ d) p a
def Hv{c:Nat}(b:c∉s){L:List (List Nat)}(h:∀ p∈L,c∉p):∀ p∈preL s L,c∉p:=by
 cases L with
 | nil=>intro p a;cases a
 | cons q r=>
  intro p a e;rcases Pw.mp (show p∈(s++q)::r from a) with rfl | a
  . rcases PN.mp e with e | e
    . show b e
    . show h q Pn e
  . show h p (Pm _ a) e
variable{P:List Th7->Prop}
def Hw(h:∀ l,P l->∀ p∈T l,59∉p){x:Th7}(o:OkI P x):∀ p∈PcI T x,59∉p:=by
 cases x with
 | pl w a b c m=>intro p f;rw[PJ.mp f];show(B7 (ns:=a::b::c::m) (xw o.1).1).2.2
 | su a b c d=>
  show Hv ?_<|Ca #[1] (h d o.2.2.2);intro e;rcases PN.mp e with e | e
  . show sup_hd_low.2.2 e
  . revert e;decide
def Cb:∀{n:Nat} {l:List Th7},OkB n l->∀ p∈PcB n l,59∉p
 | 0,_,h=>h.elim
 | _+1,[],_=>λp a=>by rw[PJ.mp a];decide
 | n+1,x::r,h=>λp a=>by
  obtain⟨L,b,a⟩:=List.mem_flatten.mp (show p∈((x::r).map<|PcI<|PcB n).flatten from a);obtain⟨y,c,rfl⟩:=PM.mp b;show Hw (λl=>Cb) (h.2 y c) p a
def  tt9(s:List (List Nat) × List (List Nat) × Int)(p:List Nat):List (List Nat) × List (List Nat) × Int:=
 if s.2.2+bT p=0 then(s.1++[catS s!"; " (s.2.1++[p])] ,[],0) else(s.1 ,s.2.1++[p],s.2.2+bT p)
def Gh:∀{P:List (List Nat)} {f h:List (List Nat)} {u:Int},Gp u P->P.foldl tt9 (f ,h,u)=(f++[catS s!"; " (h++P)] ,[],0)
 | [],_,_,_,g=>g.elim
 | [p],f,h,u,g=>by
  have g':u+bT p=0:=g;change tt9 (f ,h,u) p=_;unfold tt9;rw[PK g']
 | p::q::r,f,h,u,g=>by
  have a:0<u+bT p:=g.1;change(q::r).foldl tt9 (tt9 (f ,h,u) p)=_;have e:tt9 (f ,h,u) p=(f ,h++[p],u+bT p):=by unfold tt9;rw[PF (show ¬ u+bT p=0 by lia)]
  rw[e,Gh g.2];simp
def DM{n:Nat}:∀{l:List Th7} {f:List (List Nat)},(∀ x∈l,OkI (OkB n) x)->((l.map<|PcI<|PcB n).flatten).foldl tt9 (f ,[],0)=(f++l.map (txI<|txB n) ,[],0)
 | [],f,_=>by simp
 | x::r,f,h=>by
  rw[Pz,Qe,List.foldl_append,Gh<|Gf (λl=>oz) (λl=>Gg)<|h x Pn,DM λy a=>h y<|Pm _ a];rw[QX,DL (λl=>oz) λl=>y8];simp
def KG{T:List Th7->List Nat}{x:Th7}(o:OkI P x):txI T x≠[]:=by
 cases x with
 | pl w a b c m=>
  have:=(xw o.1).2.2;intro e;have d:w++32::catL 32 (nC a::nC b::nC c::m.map nC)=[]:=e;simp at d
 | su a b c f=>
  intro e;have d:catL 32 [supW,nC a,nC b,nC c]++(s!" ("++(T f++[41]))=[]:=e;simp at d
def DN{l:List Th7}(h:OkB n l):txB n l=[]↔l=[]:=by
 match n,l,h with
 | n+1,[],h=>show(λ_=>rfl,λ_=>rfl)
 | n+1,[x],h=>show(λe=>absurd e<|KG<|h.2 x Pn,λe=>by cases e)
 | n+1,x::y::r,h=>
  show(λe=>?_,λe=>by cases e);have a:txI (txB n) x++(s!"; "++catS s!"; " ((y::r).map<|txI<|txB n))=[]:=e;simp at a
open Builtin Builtin.Str
section
variable{X:Cx}
def  vd:V->List V->Hp->VK->Prop
 | .str x,[.str y],H,Q=>Q (.bl<|Txt.startswith x y) H
 | _,_,_,_=>False
def EQ:MtR X "str.startswith" vd:=by
 intro e s σ H x vs v f Q I b c h;unfold vd at h
 split at h
 . obtain⟨t,rfl⟩:=b;obtain⟨u,rfl,a⟩:=fj c;obtain⟨d,rfl⟩:=a;show SC.startswith (.bl _,H,I,rfl,h)
 . show h.elim
def  kEnds:V->List V->Hp->VK->Prop
 | .str x,[.str y],H,Q=>Q (.bl<|Txt.endswith x y) H
 | _,_,_,_=>False
def Hx:MtR X "str.endswith" kEnds:=by
 intro e s σ H x vs v f Q I b c h;unfold kEnds at h
 split at h
 . obtain⟨t,rfl⟩:=b;obtain⟨u,rfl,a⟩:=fj c;obtain⟨d,rfl⟩:=a;show SC.endswith (.bl _,H,I,rfl,h)
 . show h.elim
def  qu:V->List V->Hp->VK->Prop
 | .str x,[.str y],H,Q=>Q (.int<|Txt.count x y) H
 | _,_,_,_=>False
def xx:MtR X "str.count" qu:=by
 intro e s σ H x vs v f Q I b c h;unfold qu at h
 split at h
 . obtain⟨t,rfl⟩:=b;obtain⟨u,rfl,a⟩:=fj c;obtain⟨d,rfl⟩:=a;show SC.count (.int _,H,I.tok _,(_,rfl),h)
 . show h.elim
def  kPart:V->List V->Hp->VK->Prop
 | .str x,[.str y],H,Q=>(y.length==0)=false/\x.length<=sizeLine/\∀ l,H l=none->Q (.ref l) (upd H l<|.tup [.str (Txt.partition x y).1,.str (Txt.partition x y).2.1,.str (Txt.partition x y).2.2])
 | _,_,_,_=>False
def Hy:MtR X "str.partition" kPart:=by
 intro D s σ H x vs v K Q I C G h;unfold kPart at h
 split at h
 . rename_i x y
   obtain⟨t,rfl⟩:=C;obtain⟨u,rfl,B⟩:=fj G;obtain⟨p,rfl⟩:=B;obtain⟨E,A,q⟩:=h;obtain⟨f,d⟩:=partition_tree x y t p;show wpAny_call_entry F.slot_str_partition (show s.TypeIs (.str x t) "str" from rfl) F.entry_str_partition ?_<|F.args_str_partition_2 _ _;rw[d,E]
   change wpAny _ _ (match occurrences x y 0 x.length 1 with
    | i::_=>(do ret (← newTuple [← mkStr (strSub x 0 i),.str y p,← mkStr (strSub x (i+y.length) x.length)]))
    | []=>(do rule "str.partition.not-found";let empty ← mkStr Str.empty;ret<|← newTuple [.str x t,empty,empty])) _ _ s
   have g:∀(a b c:Str) (j m n:Tok) (k:Nat),Txt.partition x y=(a ,b,c)->EP X D σ Q (.ref s.heap.objs.size) {s with heap:=s.heap.push {cls:=.type "tuple",data:=.seq [.str a j,.str b m,.str c n].toArray},toks:=k}:=λa b c j m n k e=>by
    rw[e]at q;show(.ref s.heap.objs.size,_,I.laid (t':=k) (o:=.tup [.str a,.str b,.str c]) (λb J q=>Pu _ q) (Py _) ?_,rfl,q _<|I.hok.fresh<|Py _);show(by change 3<=sizeLine;decide,_,.cons (j,rfl)<|.cons (m,rfl)<|.cons (n,rfl) .nil,IsTup.new _ _)
   have w:∀ l,occurrences x y 0 x.length 1=l->Txt.partition x y=(match l with | i::_=>(strSub x 0 i ,y,strSub x (i+y.length) x.length) | []=>(x ,Str.empty,Str.empty)):=λl e=>by unfold Txt.partition;rw[e];cases l <;> rfl
   cases z:occurrences x y 0 x.length 1 with
   | nil=>
    have e:=w _ z;show PB (wpAny_rule<|PB<|wpAny_mkStr (PB<|wpAny_newTuple (P9 (_,rfl,g _ _ _ _ _ _ _ e)) (by change 3<=sizeLine;decide)) #[1])
   | cons i r=>
    have e:=w _ z;show PB (wpAny_mkStr (PB<|wpAny_mkStr (PB<|wpAny_newTuple (P9 (_,rfl,g _ _ _ _ _ _ _ e)) (by change 3<=sizeLine;decide))<|Pk (strSub_length_le ..) A)<|Pk (strSub_length_le ..) A)
 . show h.elim
end
def   ws7:String:="aB if_true if_false Bool.false_eq_true decide_true decide_false cT cU gn bZ bK cR eJ cS bY eC eE bX gk b0 cb ce cf cg ci cc eK eO eQ ei gm Bool.not_true Bool.not_false aB "++ws1
local macro_rules|`(tactic|walk_at "w")=>wk9 ws7
def  stB(m s:Int):Bool:=decide (1<=s)&&(decide (s<=((Builtin.Int.intBits m:Nat):Int))&&decide (m/2^(s-1).toNat%2=1))
def mW:d:=#[3,∃ m s:Int,vs=[.int m,.int s]/\Q (.bl<|stB m s) H]
def tQ:a:=#[":kFc(bi#1 1Fc(1'Ue~?'V0cxec?c'W0c~s1bi#1 bi#2 bi#1 "]
variable{K:Frag}{vs:List V}{H:Hp}{Q:VK}{E:XK}
def Gi:R "mask sign" mW tQ K:=by
 obtain⟨m,s,rfl,q⟩:=h;exists tQ;unfold stB at q
 cases h1:decide (1<=s) with
 | false=>rw[h1,Qc]at q;show iteF q
 | true=>
  show iteT (rfl,?_);symm;rw[h1,Qb]at q
  cases h2:decide (s<=((Builtin.Int.intBits m:Nat):Int)) with
  | false=>rw[h2,Qc]at q;show iteF q
  | true=>
   rw[h2,Qb]at q;show iteT (by have:=Qx h1;lia,by decide,q)
def mX:d:=#[3,∃ s:Int,vs=[.int s]/\1<=s/\s<=100000/\Q (.int<|2^(s-1).toNat) H]
def tR:a:=#[":hqbi#1 l#1 h-~tac~s0bi#1 dl#2 qcZ1bi#2 l#1 k1"]
def Gj:R "sign bit step" mX tR K:=by
 obtain⟨s,rfl,h1,h2,q⟩:=h;exists tR;show(s-1,rfl,by lia,by lia,?_);show mT (λi σ a=>∃ b:Option V,σ=[⇑s,⇑(2^i),b]/\a=H) (none,rfl,rfl) ?_ ?_
 . rintro i σ a c ⟨b,rfl,rfl⟩;exists(.inr (by decide,by decide),?_);simp[Int.pow_succ]
 . rintro σ a ⟨b,rfl,rfl⟩;symm;show q
def  woI(m s:Int):Int:=if stB m s=true then m-2^(s-1).toNat else m
def rF:d:=#[3,∃ m s:Int,vs=[.int m,.int s]/\s<=100000/\Q (.int<|woI m s) H]
def rG:a:=#[":k~bw,~Oea0a1dc~s0,~Pea1d0"]
def ER:R "mask sign" rF rG K:=by
 obtain⟨m,s,rfl,h2,q⟩:=h;exists rG;show(m,s,rfl,_,rfl,?_);unfold woI at q
 cases a:stB m s with
 | false=>
  rw[a,PF Pt]at q;show iteF q
 | true=>
  rw[a,PK rfl]at q;show iteT (s,rfl,?_,h2,?_)
  . unfold stB at a;rw[P3,PP]at a;show a.1
  . symm;show q
def pU:d:=#[3,∃ m s:Int,vs=[.int m,.int s]/\s<=100000/\Q (.bl<|decide<|woI m s=0) H]
def pV:a:=#[":kcxe,'Xea0a1dbi#0 "]
def C7:R "mask sign" pU pV K:=by
 obtain⟨m,s,rfl,h2,q⟩:=h;exists pV;show(m,s,rfl,h2,?_);symm;show q
local macro_rules|`(tactic|walk_at "w")=>wk9 ws4
inductive TK where
 | clue | only | place | count | step | sum | square | reach | turn | pair | ways
 deriving DecidableEq
def  tkC:TK->List Nat
 | .clue=>s!"clue"
 | .only=>s!"only"
 | .place=>s!"place"
 | .count=>s!"count"
 | .step=>s!"step"
 | .sum=>s!"sum"
 | .square=>s!"square"
 | .reach=>s!"reach"
 | .turn=>s!"turn"
 | .pair=>s!"pair"
 | .ways=>s!"ways"
def  ge:List Str:=[tx s!"clue",tx s!"only",tx s!"place",tx s!"count",tx s!"step",tx s!"sum",tx s!"square",tx s!"reach",tx s!"turn",tx s!"pair",tx s!"ways"]
def  kE:List Str:=[tx s!"clue",tx s!"only",tx s!"place",tx s!"step",tx s!"pair"]
def  lI:List Str:=[tx s!"count",tx s!"sum",tx s!"ways"]
def  gd_RULES_OF_KIND:List (Str × List Str):=[(tx s!"only" ,[tx s!"unlike"]),(tx s!"place" ,[tx s!"unlike"]),(tx s!"count" ,[tx s!"count"]),(tx s!"step" ,[tx s!"rising"]),(tx s!"sum" ,[tx s!"sum"]),(tx s!"square" ,[tx s!"nosquare"]),(tx s!"reach" ,[tx s!"joined",tx s!"ring"]),(tx s!"turn" ,[tx s!"ring"]),(tx s!"pair" ,[tx s!"unlike"])]
def  wsOf:TK->List Str
 | .only=>[tx s!"unlike"]
 | .place=>[tx s!"unlike"]
 | .count=>[tx s!"count"]
 | .step=>[tx s!"rising"]
 | .sum=>[tx s!"sum"]
 | .square=>[tx s!"nosquare"]
 | .reach=>[tx s!"joined",tx s!"ring"]
 | .turn=>[tx s!"ring"]
 | .pair=>[tx s!"unlike"]
 | _=>[]
def  goesB:TK->RK->Bool
 | .ways,_=>true
 | .only,.Unlike=>true
 | .place,.Unlike=>true
 | .count,.Count=>true
 | .step,.Rising=>true
 | .sum,.Sum=>true
 | .square,.NoSquare=>true
 | .reach,.Joined=>true
 | .reach,.Ring=>true
 | .turn,.Ring=>true
 | .pair,.Unlike=>true
 | _,_=>false
def  lineK:TK->Bool
 | .clue=>true
 | .only=>true
 | .place=>true
 | .step=>true
 | .pair=>true
 | _=>false
def Hz(t:TK):decide (tx (tkC t)∈ge)=true:=by cases t <;> decide+kernel
def Jn(t:TK):decide (tx (tkC t)∈kE)=lineK t:=by cases t <;> decide+kernel
variable{t:TK}
def LE(h1:t≠.clue)(h2:t≠.ways):gd_RULES_OF_KIND.lookup (tx<|tkC t)=some (wsOf t):=by
 cases t <;> first | show absurd rfl h1 | show absurd rfl h2 | decide+kernel
def Jo(h2:t≠.ways)(k:RK):decide (tx (nmC k)∈wsOf t)=goesB t k:=by
 cases t <;> first | show absurd rfl h2 | (cases k <;> decide+kernel)
def Jp(t:TK):decide (tkC t=s!"ways")=decide (t=.ways):=by cases t <;> decide
def DO(t:TK):decide (tkC t=s!"clue")=decide (t=.clue):=by cases t <;> decide
def Jq(t:TK):decide (tkC t=s!"only")=decide (t=.only):=by cases t <;> decide
def nU:d:=#[3,∃ p h w g i,vs=[.ref p,.int i]/\IsFl H p h w g/\FlOk h w g/\Q (.bl<|decide (0<=i)&&decide (i<h*w)) H]
def rH:a:=#[":kF,~qea1dFc(bi#0 1c<1,~rea0d"]
variable{K:Frag}{vs:List V}{H:Hp}{Q:VK}{E:XK}
def ES:R "floor value" nU rH K:=by
 obtain⟨p,h,w,g,i,rfl,b,F,q⟩:=h;exists rH;show(i,rfl,(true,rfl,iteT ?_));symm
 cases a:decide (0<=i) with
 | false=>
  rw[a,Qc]at q;show iteF q
 | true=>
  rw[a,Qb]at q;show iteT ?_;exists(p,h,w,g,rfl,b,F.h0,F.h1,?_);symm;show q
def nX:d:=#[3,∃ p h w g i,vs=[.ref p,.int i]/\IsFl H p h w g/\Q (.bl<|decide (1<=i)&&decide (i<=g)) H]
def rJ:a:=#[":k,~Bea1acm0bi#2 d"]
def ET:R "floor value" nX rJ K:=by
 obtain⟨p,h,w,g,i,rfl,a,q⟩:=h;exists rJ;show ixT a (v:=V.int g) rfl ?_;exists(i,g,rfl,q)
def rK:e:=#[3,∃ t k r p a b n m,vs=[.str<|tx<|tkC t,.ref r]/\t≠.clue/\IsRule H c k r p (nmC k::a) b n m/\Q (.bl<|goesB t k) H]
def rL:b:=#[":k'Ycxe0bfg`0c'ZeJn~z'*'+en1d'-e'/0",s!"ways"]
def EU{c:TJ}:R "kind rule" rK rL K c:=by
 obtain⟨t,k,r,p,d,e,n,m,rfl,b,x,q⟩:=h;obtain⟨i,W,C,h1,h2,h3⟩:=x.ex;exists rL;rw[lB,Jp];by_cases a:t=.ways
 . subst a;rw[Po rfl];show iteT q
 . rw[Pl a];show iteF ?_;show methE (k:=k) rfl x.ok h1 (by rfl) ?_;exists(r,p,nmC k,d,e,n,m,rfl,x,?_);dsimp only;rw[LD];exists(_,_,rfl,LE b a,λf g=>?_);show(_,f,_,rfl,rfl,g,?_);rw[Jo a];show q
def tS:e:=#[3,∃ k r p d b n m z,vs=[.ref r,.int z]/\IsRule H c k r p d b n m/\b.length<=63/\∀ l a,Same H a->H l=none->a l=↥((b.filter λx=>!decide (x=z)).map V.int)->Q (.ref l) a]
def tT:b:=#[":kR&--1 UeJn~z~^'aen0dl#1 tcIe121"]
def Gk{c:TJ}:R "rule cell" tS tT K c:=by
 obtain⟨k,r,p,o,b,n,m,z,rfl,x,w,q⟩:=h;obtain⟨A,W,C,h1,h2,h3⟩:=x.ex;ac_nf;unfold tT;rw[cp,bH];show methE (k:=k) rfl x.ok h1 (by rfl) ?_;exists(r,p,o,b,n,m,rfl,x,λl s=>?_);obtain⟨v,t,g,f⟩:=cP (.lst<|b.map V.int) s;rw[t];show(l,rfl,(_,Qm f),?_);show EF (xs:=b) (λx=>!decide (x=z)) (λx=>x) #[4] (Qm f) ?_ ?_ ?_
 . intro y a R u d k2;change tTest _ [none,⇑y,⇑z] a R;exists k2 _ (Pr _)
 . intro y a j u B d k2;change tVar 1 [none,⇑y,⇑z] a j;exists k2 _ (Pr _)
 . intro T a i d e;rw[List.map_id']at e;show q T a (g.trans d) (g.free i) e
def  hitB(t:TK)(rows:List RR)(r z:Int):Bool:=if r<0 then false else if t=.clue then decide (r=0) else match rows[r.toNat]? with
 | none=>false
 | some x=>goesB t x.k&&decide (z∈x.cs)
def lJ:f:=#[3,∃ t P L G h w g r z a e,vs=[.ref P,.str<|tx<|tkC t,.int r,.int z]/\IsPz H c d P L G h w g a e/\∀ b,Same H b->Q (.bl<|hitB t a r z) b]
def lK:c:=#[":hrMGw,~qea2dtc<2bi#0 kbWEshrtcxe1bfg`0kcxe2bi#0 shqJpO'b'cenp0dl#4 hrtc)2vHa4dkbWEskF,':ena1acm42dc~leE3Jn~z~^'aencm42d",s!"clue"]
def  RR.ws_cons(r:RR):∃ t,r.ws=nmC r.k::t:=(_,rfl)
variable{d:TL}
def xy{c:TJ}:R "puzzle kind number cell rules" lJ lK K c d:=by
 obtain⟨t,P,L,G,h,w,g,r,z,a,I,rfl,x,q⟩:=h;obtain⟨dx,p,rs,h1,h2,h3⟩:=x.ex;have Z:=x.R.F.m;ac_nf;unfold lK;rw[aB,aT];exists(r,rfl,(true,rfl,iteF ?_));symm;unfold hitB at q;by_cases o:r<0
 . rw[PK o]at q;rw[Po o];show iteT (q _<|Pr _)
 rw[PF o]at q;rw[Pl o];show iteF ?_;rw[aT];symm;rw[lB,DO];by_cases f:t=.clue
 . rw[PK f]at q;rw[Po f];show iteT (q _<|Pr _)
 rw[PF f]at q;rw[Pl f];show iteF ?_;show methE (k:=.Puzzle) rfl x.ok h1 (by rfl) ?_;exists(P,L,G,h,w,g,a,I,rfl,x,λl D b J Y X=>?_);have u:Same H (upd H l<|.lst<|b.map V.ref):=(Pr H).laid J;generalize upd H l (.lst<|b.map V.ref)=H1 at*;have N:=X.len;symm;rw[aT];symm;rw[ij X.top,Pj,N];symm;by_cases j:(a.length:Int)<=r
 . rw[Po j];have e:a[r.toNat]? =none:=PX #[4];rw[e]at q;show iteT (q _ u)
 rw[Pl j];have y:r.toNat<a.length:=by lia
 have A:a[r.toNat]? =some a[r.toNat]:=Px y;rw[A]at q;have C:b[r.toNat]? =some b[r.toNat]:=Px #[4];have n:=X.at_ _ _ _ C A;obtain⟨O,v⟩:=RR.ws_cons a[r.toNat];rw[v]at n;have i:atI (b.map V.ref) r=some (V.ref b[r.toNat]):=BN #[4] C;show iteF ?_;show ixL X.top i ?_;exists(t,_,_,D,O,_,_,_,rfl,f,n,?_);dsimp only at q
 cases B:goesB t a[r.toNat].k with
 | false=>
  rw[B,Qc]at q;show(false,rfl,iteF<|q _ u)
 | true=>
  rw[B,Qb]at q;show(true,rfl,iteT ?_);unfold bW;symm;obtain⟨s,W1,C1,U,g2,g3⟩:=n.ex;show ixL X.top i ?_;show(_,a[r.toNat].k,s,_,rfl,n.ok,U,by rfl,?_);show(_,D,_,_,_,_,rfl,n,λS T=>?_);have M:Same H1 (upd H1 S<|.lst<|a[r.toNat].cs.map V.int):=(Pr H1).laid T;have W:(upd H1 S<|.lst<|a[r.toNat].cs.map V.int) S=↥(a[r.toNat].cs.map V.int):=ak;dsimp only;rw[Hh W];show q _ (u.trans M)
structure IsTh(H:Hp)(T M:Addr)(t:TK)(r z s:Int)(ms:∅):Prop where
 T:H T=some (.tup [.str<|tx<|tkC t,.int r,.int z,.int s,.ref M])
 M:H M=↥(ms.map V.int)
 n:ms.length<=100
variable{r z:Int}{ms:∅}
def  IsTh.same{a:Hp}{T M:Addr}{s:Int}(x:IsTh H T M t r z s ms)(s':Same H a):IsTh a T M t r z s ms:=(s' _ _ x.T,s' _ _ x.M,x.n)
def  formB(h w g:Int)(rows:List RR)(t:TK)(r z s:Int):Bool:=(decide (0<=z)&&decide (z<h*w))&&((decide (1<=s)&&decide (s<=g))&&hitB t rows r z)
def oA:f:=#[3,∃ t P L G T M h w g r z s a e ms,vs=[.ref P,.ref T]/\IsPz H c d P L G h w g a e/\IsTh H T M t r z s ms/\∀ b,Same H b->Q (.bl<|formB h w g a t r z s) b]
def lL:c:=#[":kFvVacm1bi#4 abT~kdv~yaR&-- Uecm1bi#4 l#1 N,~qea1dd"]
def oB:c:=#[":hrMGwvVa1abT~QdMtcIevHa1dbi#5 wX~R~Ccm1bi#0 kbWEshqJpO~c~denp0dl#2 hrMGw,'dea2acm1bi#2 dGw,'eea2acm1bi#3 dkbWEshrGw,';enpa0acm1bi#0 acm1bi#1 acm1bi#2 dkbWEs'?enp"]
def xz{c:TJ}{P T M:Addr}{s:Int}{k:Option V}(x:IsTh H T M t r z s ms)(q:∀ g,Same H g->Q (.bl true) g):
  lL K c d (eD9 Q) [↑P,↑T,k] H:=by
 have w:=x.n;unfold lL;exists ixT x.T (v:=V.ref M) rfl ?_;exists BO x.M ?_;exists ixT x.T (v:=V.ref M) rfl ?_;exists((_,Qm x.M),?_);show iN (xs:=ms.map V.int) (λ_=>true) (λ_=>.bl true) (by rw[Pj];lia) (Qm x.M) ?_ ?_ ?_
 . intro i y a R h e k1;show k1 _ (Pr _)
 . intro i y a m h j e k1;obtain⟨v,u,rfl⟩:=ic h;change tCall _ _ _ _ [none,⇑v] a m;exists(v,rfl,k1 _<|Pr _)
 . intro l a A e f
   have o:((List.range (ms.map V.int).length).filter λ_=>true).map (λ_=>V.bl true)=(List.replicate (ms.map V.int).length true).map V.bl:=by
    rw[fm,List.map_const',Sb,List.map_replicate]
   rw[o]at f;show Bj f ?_
   have p:(List.replicate (ms.map V.int).length true).all id=true:=by
    rw[PL];intro b j;show(List.mem_replicate.mp j).2
   rw[p];show q _ e
def Cc{c:TJ}:R "puzzle thought floor" oA oB K c d:=by
 obtain⟨t,P,L,G,T,M,h,w,g,r,z,s,a,l,ms,rfl,x,y,q⟩:=h;obtain⟨A,p,B,h1,h2,h3⟩:=x.ex;ac_nf;unfold oB;rw[aB,aT];exists BP y.T ?_;symm;rw[BG y.T,show(([.str<|tx<|tkC t,.int r,.int z,.int s,.ref M]:List V).length:Int)=5 from rfl];exists ixT y.T (v:=V.str (tx<|tkC t)) rfl ?_;symm;rw[Hz];exists methE (k:=.Puzzle) rfl x.ok h1 (by rfl) ?_;exists(P,L,G,h,w,g,a,l,rfl,x,λj e=>?_);symm;rw[aT];exists ixT y.T (v:=V.int z) rfl ?_;exists(j,h,w,g,z,rfl,e,x.R.F,?_);unfold formB at q
 cases m:(decide (0<=z)&&decide (z<h*w)) with
 | false=>
  rw[m,Qc]at q;show(false,rfl,iteT<|q _<|Pr _)
 | true=>
  rw[m,Qb]at q;show(true,rfl,iteF ?_);show ixT y.T (v:=V.int s) rfl ?_;exists(j,h,w,g,s,rfl,e,?_)
  cases f:(decide (1<=s)&&decide (s<=g)) with
  | false=>
   rw[f,Qc]at q;show(false,rfl,iteT<|q _<|Pr _)
  | true=>
   rw[f,Qb]at q;show(true,rfl,iteF ?_);rw[aT];exists ixT y.T (v:=V.str (tx<|tkC t)) rfl ?_;exists ixT y.T (v:=V.int r) rfl ?_;exists ixT y.T (v:=V.int z) rfl ?_;exists(t,P,L,G,h,w,g,r,z,a,l,rfl,x,λu i=>?_)
   cases b:hitB t a r z with
   | false=>
    rw[b]at q;show(false,rfl,iteT<|q _ i)
   | true=>
    rw[b]at q;show(true,rfl,iteF ?_);show xz (y.same i) λn o=>q n (i.trans o)
def  cx:TE:=λ_ _ _=>False
def  bM{X:Cx}{e:Expr}:PE X e cx:=λ_ _ _ _ _ _ h=>h.elim
def  clueB(cl:∅)(z s:Int)(ms:∅):Bool:=decide (ms=[])&&(!decide (cl.getD z.toNat 0=0)&&!decide (cl.getD z.toNat 0=s))
def lM:d:=#[3,∃ C M z s a ms,vs=[.ref C,.int z,.int s,.ref M]/\H C=↥(a.map V.int)/\0<=z/\z<a.length/\H M=↥(ms.map V.int)/\∀ b,Same H b->Q (.bl<|clueB a z s ms) b]
def lN:a:=#[":kFcxe3udFcIecm01bi#0 cIecm012"]
def xA:R "clues cell sign more" lM lN K:=by
 obtain⟨C,M,z,s,j,ms,rfl,c,d,e,i,q⟩:=h;exists lN;show(bi #[1],λl g=>?_);obtain⟨H1,z9,s1,el⟩:∃ z,upd H l (.lst [])=z/\Same H z/\z l=↥(([]:∅).map V.int):=cP _ g;rw[z9];show Im (s1 _ _ i) el ?_;have a:=q _ s1;unfold clueB at a
 cases f:decide (ms=[]) with
 | false=>
  rw[f,Qc]at a;show(false,rfl,iteF a)
 | true=>
  rw[f,Qb]at a;show(true,rfl,iteT ?_);exists ixI (s1 _ _ c) d e ?_;symm
  cases b:decide (j.getD z.toNat 0=0) with
  | true=>
   rw[b,Bool.not_true,Qc]at a;show iteF a
  | false=>
   rw[b,Bool.not_false,Qb]at a;show iteT ?_;show ixI (s1 _ _ c) d e ?_;symm;show a
def  onlyB(cs a:∅)(z s:Int)(ms:∅):Bool:=decide (ms.length=1)&&(decide (ms.getD 0 0∈cs.filter λx=>!decide (x=z))&&decide (woI (a.getD (ms.getD 0 0).toNat 0) s=0))
def lO:e:=#[3,∃ k r p A M e b a ms n m z s,vs=[.ref r,.ref A,.int z,.int s,.ref M]/\IsRule H c k r p e b n m/\yW b a.length/\H A=↥(a.map V.int)/\H M=↥(ms.map V.int)/\s<=1000/\∀ d,Same H d->Q (.bl<|onlyB b a z s ms) d]
def lP:b:=#[":kFcxevHa4dbi#1 Fc~leEcm4bi#0 ,'[ena0a2d,']eacm1cm4bi#0 a3d"]
def xB{c:TJ}:R "rule masks cell sign more" lO lP K c:=by
 obtain⟨k,r,p,A,M,o,i,C,ms,n,m,z,s,rfl,x,f,j,d,B,q⟩:=h;exists lP;rw[ij d,Pj];symm;unfold onlyB at q
 have e1:decide ((ms.length:Int)=1)=decide (ms.length=1):=by
  rw[QS,PP,PP];lia
 rw[e1]
 cases e:decide (ms.length=1) with
 | false=>
  rw[e,Qc]at q;show iteF (q _<|Pr _)
 | true=>
  rw[e,Qb]at q;have y:=Qx e;show iteT ?_;show ixI d #[1] #[4] ?_;rw[show(0:Int).toNat=0 from rfl];exists(k,r,p,o,i,n,m,z,rfl,x,f.1,λl w b u t=>?_);dsimp only;rw[Hh t]
  cases a:decide (ms.getD 0 0∈i.filter λx=>!decide (x=z)) with
  | false=>
   rw[a,Qc]at q;show(false,rfl,iteF<|q _ b)
  | true=>
   rw[a,Qb]at q;have v:=Sw.mp<|Qx a;have g:=f.2 _ v.1;show(true,rfl,iteT ?_);exists ixI (b _ _ d) #[1] #[4] ?_;rw[show(0:Int).toNat=0 from rfl];exists ixI (b _ _ j) g.1 g.2 ?_;exists(_,s,rfl,by lia,q _ b)
def RR.cin22{r:RR}{h w g:Int}(O:r.Ok h w g)(F:FlOk h w g):yW r.cs (h*w).toNat:=by
 obtain⟨h0,h1,p,q,i,t,l⟩:=id F;have d:0<=h*w:=Sd #[4] #[4]
 cases b:allK r.k with
 | false=>
  obtain⟨m,o,j,s,e⟩:=O.cl.told b;rw[e];show(by rw[Pj];lia,λc a=>?_);obtain⟨n,f,rfl⟩:=PM.mp a;have:=j n f;lia
 | true=>
  obtain⟨_,e⟩:=O.cl.all b;rw[e];show(by rw[wt];lia,λc a=>?_);have:=Jf a;lia
structure Asks(H:Hp)(c:TJ)(d:TL)(P L G A T M:Addr)(h w g:Int)(rows:List RR)(cl Pb:∅)(t:TK)(r z s:Int)(ms:∅):Prop where
 P:IsPz H c d P L G h w g rows cl
 T:IsTh H T M t r z s ms
 A:H A=↥(Pb.map V.int)
 n:Pb.length=(h*w).toNat
variable{rows:List RR}
def  Asks.same{b:Hp}{c:TJ}{P L G A T M:Addr}{h w g:Int}{cl a:∅}{s:Int}(x:Asks H c d P L G A T M h w g rows cl a t r z s ms)(s':Same H b):Asks b c d P L G A T M h w g rows cl a t r z s ms:=(x.P.same s',x.T.same s',s' _ _ x.A,x.n)
def  Cd(rows:List RR)(cl a:∅)(t:TK)(r z s:Int)(ms:∅):Bool:=match t with
 | .clue=>clueB cl z s ms
 | _=>match rows[r.toNat]? with
  | none=>false
  | some x=>onlyB x.cs a z s ms
def fL:f:=#[3,∃ P L G A T M h w g rows b e t r z s ms,vs=[.ref P,.ref A,.ref T]/\Asks H c d P L G A T M h w g rows b e t r z s ms/\(t=.clue\/t=.only)/\formB h w g rows t r z s=true/\∀ a,Same H a->Q (.bl<|Cd rows b e t r z s ms) a]
def iT:c:=#[":hqcm2bi#0 l#3 hqcm2bi#2 l#4 hqcm2bi#3 l#5 hqcm2bi#4 l#6 hrtcxe3bfg`0k,'^eaJpO'f'genp0da4a5a6dshqcmJpO'b'cenp0dcm2bi#1 l#7 hrtcxe3bfg`1k,{aena7a1a4a5a6dshrtcxe3bfg`2kLshrtcxe3bfg`3kLskL",s!"clue",s!"only",s!"place",s!"step"]
def Gm{h w g:Int}{s:Int}(f:formB h w g rows t r z s=true):0<=z/\z<h*w/\1<=s/\s<=g/\hitB t rows r z=true:=by
 unfold formB at f;simp only[P3,PP]at f;show(f.1.1,f.1.2,f.2.1.1,f.2.1.2,f.2.2)
def Jr(b:t≠.clue)(f:hitB t rows r z=true):0<=r/\∃ x,rows[r.toNat]? =some x/\goesB t x.k=true/\z∈x.cs:=by
 unfold hitB at f;by_cases a:r<0
 . rw[PK a]at f;cases f
 rw[PF a,PF b]at f
 cases e:rows[r.toNat]? with
 | none=>rw[e]at f;cases f
 | some x=>
  rw[e]at f;simp only[P3,PP]at f;show(by lia,x,rfl,f.1,f.2)
def rM{c:TJ}:R "puzzle masks thought kind cell sign more rule" fL iT K c d:=by
 obtain⟨P,L,G,A,T,M,h,w,g,rows,i,I,t,r,z,s,ms,rfl,X,J,f,q⟩:=h;obtain⟨dx,p,rs,h1,h2,h3⟩:=X.P.ex;obtain⟨z0,z1,s0,S,W⟩:=Gm f;have Z:=X.P.C.len;have hg:=X.P.R.F.g1;exists iT;show ixT X.T.T (v:=V.str (tx<|tkC t)) rfl ?_;exists ixT X.T.T (v:=V.int z) rfl ?_;exists ixT X.T.T (v:=V.int s) rfl ?_;exists ixT X.T.T (v:=V.ref M) rfl ?_;symm;rw[aT];symm;rw[lB,DO];by_cases m:t=.clue
 . subst m;rw[Po rfl];show iteT ?_;show methE (k:=.Puzzle) rfl X.P.ok h1 (by rfl) ?_;exists(P,L,G,h,w,g,rows,i,rfl,X.P,λl u=>?_);have b:Same H (upd H l<|.lst<|i.map V.int):=(Pr H).laid u;show(l,M,z,s,i,ms,rfl,ak,z0,by lia,b _ _ X.T.M,λo x=>q o<|b.trans x)
 . have U:t=.only:=J.resolve_left m;subst U;rw[Pl m];obtain⟨N,y,e,_,hz⟩:=Jr m W;show iteF ?_;show methE (k:=.Puzzle) rfl X.P.ok h1 (by rfl) ?_;exists(P,L,G,h,w,g,rows,i,rfl,X.P,λl p2 a u ab Y=>?_);have b:Same H (upd H l<|.lst<|a.map V.ref):=(Pr H).laid u;generalize upd H l (.lst<|a.map V.ref)=H1 at*;have aa:=(Ps.mp e).1;have Pg:=Y.len;have D:a[r.toNat]? =some a[r.toNat]:=Px #[4];dsimp only;show ixT (b _ _ X.T.T) (v:=V.int r) rfl ?_;show ixL Y.top (BN N D) ?_;symm;rw[aT];symm;rw[lB,Jq];rw[Po rfl];show iteT ?_;symm;have O:=X.P.R.ok y<|PD e;have B:yW y.cs I.length:=by rw[X.n];show RR.cin22 O X.P.R.F
   show(_,_,p2,A,M,_,y.cs,I,ms,_,_,z,s,rfl,Y.at_ _ _ _ D e,B,b _ _ X.A,b _ _ X.T.M,by lia,λo x=>?_);have j:=q o<|b.trans x;unfold Cd at j;dsimp only at j;rw[e]at j;show j
def oE:f:=fL K c d
def oF:c:=#[":hrwX{bEcm2bi#0 k,{cenpa0a1a2dshrwX{dEcm2bi#0 kLskL"]
def Ce{c:TJ}:R "puzzle masks thought" oE oF K c d:=by
 obtain⟨P,L,G,A,T,M,h,w,g,rows,e,b,t,r,z,s,ms,rfl,X,a,f,q⟩:=h;ac_nf;unfold oF;rw[aB,aT];exists ixT X.T.T (v:=V.str (tx<|tkC t)) rfl ?_;symm;rw[Jn];have i:lineK t=true:=by rcases a with rfl | rfl <;> rfl
 rw[i];exists(P,L,G,A,T,M,h,w,g,rows,e,b,t,r,z,s,ms,rfl,X,a,f,q)
def  oG(h w g:Int)(rows:List RR)(cl a:∅)(t:TK)(r z s:Int)(ms:∅):Bool:=formB h w g rows t r z s&&Cd rows cl a t r z s ms
def lQ:f:=#[3,∃ P L G A T M h w g rows b e t r z s ms,vs=[.ref P,.ref A,.ref T]/\Asks H c d P L G A T M h w g rows b e t r z s ms/\(t=.clue\/t=.only)/\∀ a,Same H a->Q (.bl<|oG h w g rows b e t r z s ms) a]
def oH:c:=#[":kF,{eenpa0a2d,{fenpa0a1a2d"]
def Cf{c:TJ}:R "puzzle masks thought" lQ oH K c d:=by
 obtain⟨P,L,G,A,T,M,h,w,g,rows,e,j,t,r,z,s,ms,rfl,X,k,q⟩:=h;exists oH;show(t,P,L,G,T,M,h,w,g,r,z,s,rows,e,ms,rfl,X.P,X.T,λl a=>?_);unfold oG at q
 cases b:formB h w g rows t r z s with
 | false=>
  rw[b,Qc]at q;show(false,rfl,iteF<|q _ a)
 | true=>
  rw[b,Qb]at q;show(true,rfl,iteT ?_);exists(P,L,G,A,T,M,h,w,g,rows,e,j,t,r,z,s,ms,rfl,X.same a,k,b,λf i=>q f<|a.trans i)
def Ab:∀(rs:List (List Nat)),(∀ r∈rs,r.length<=2)->(catL 32 rs).length<=3*rs.length
 | [],_=>by simp[catL]
 | [x],h=>by have:=h x Pn;simp[catL];lia
 | x::y::r,h=>by
  rw[jL (by simp)];have h1:=h x Pn;have h2:=Ab (y::r) λz a=>h z<|Pm _ a;simp only[Pq,PR] at*;lia
local macro_rules|`(tactic|walk_at "w")=>wk9 ws1
def KH{x:Int}(h0:0<=x)(h6:x<=6):atI (tx s!".123456").cps.toList x=some (figc x):=by
 rw[jg];have:x=0\/x=1\/x=2\/x=3\/x=4\/x=5\/x=6:=by lia
 rcases this with rfl | rfl | rfl | rfl | rfl | rfl | rfl <;> rfl
def pW:d:=#[3,∃(p:Addr) (a:∅),vs=[.ref p]/\H p=↥(a.map V.int)/\a.length<=100/\(∀ x∈a,0<=x/\x<=6)/\∀ b,Same H b->Q (.str<|tx<|a.map figc) b]
def pX:a:=#[":kCeD~Sbfg=aR&-- Ue0l#1 Ncmbfg`01d",s!".123456"]
variable{vs:List V}
def C9{K:Frag}{H:Hp}{Q:VK}{E:XK}:R "signs" pW pX K:=by
 obtain⟨p,a,rfl,c,o,g,k⟩:=h;exists pX;show(dg,(_,Qm c),?_);show iN (xs:=a.map V.int) (λ_=>true) (λi=>.str<|tx [figc<|a.getD i 0]) (by rw[Pj];lia) (Qm c) ?_ ?_ ?_
 . intro i x b R g f k1;show k1 _ (Pr _)
 . intro i x b u m w f k1;obtain⟨z,j,rfl⟩:=ic m;have:=g z<|PD j;change tOp cIx _ _ [none,⇑z] b u;symm;rw[EC];show(by rw[aF];show bi #[1],bV (KH this.1 this.2) ?_);have q:=k1 _<|Pr b;rw[qm j]at q;show q
 . intro l b v f d
   have e:(List.filter (λ_=>true)<|List.range (a.map V.int).length).map (λi=>V.str<|tx [figc<|a.getD i 0])=(a.map λx=>tx [figc x]).map V.str:=by
    rw[fm,Pj,P8,← sy a (V.str ∘ λx=>tx [figc x])];rfl
   rw[e]at d;show BK d (gb (by rw[Pj];lia) (λt s=>by obtain⟨x,_,rfl⟩:=PM.mp s;rw[aF];change(1:Nat)<=1000;decide) (by rw[aF];decide)) ?_;rw[jJ,show(a.map λx=>tx [figc x])=(a.map λx=>[figc x]).map tx by rw[P8];rfl,BR]
   have e2:(a.map λx=>[figc x]).flatten=a.map figc:=by
    clear g k o e d c
    induction a with
    | nil=>rfl
    | cons x r n=>rw[Pz,Qe,n];rfl
   rw[e2];show k _ f
def mulN{a b:Int}(h0:0<=a)(h1:0<=b):(a*b).toNat=a.toNat*b.toNat:=by
 obtain⟨n,rfl⟩:=QQ h0;obtain⟨m,rfl⟩:=QQ h1;rw[← Int.natCast_mul,Rv,Rv,Rv]
def js:d:=#[3,∃ a p h w g b,vs=[.ref a,.ref p]/\IsFl H a h w g/\FlOk h w g/\H p=↥(b.map V.int)/\b.length=h.toNat*w.toNat/\(∀ x∈b,0<=x/\x<=6)/\∀ c,Same H c->Q (.str<|tx<|showL h.toNat w.toNat b) c]
def lR:a:=#[":hqcm0bi#1 l#2 kCeD~Sbfg`0aR&--12 ~tacm0bi#0 dl#1 N,{gea[]2/cZ13/cjcZ133dd",[47]]
def xC{K:Frag}{H:Hp}{Q:VK}{E:XK}:R "floor filling wide" js lR K:=by
 obtain⟨a,p,h,w,g,b,rfl,v,F,B,I,s,k⟩:=h;obtain⟨h0,h1,N,S,G,O,T⟩:=F;exists lR;rw[rm v];show bV (a:=V.int w) rfl ?_;exists(dg,?_);rw[rm v];show bV (a:=V.int h) rfl ?_;exists(h,rfl,by lia,by lia,?_);show C4 (λ_=>true) (λr=>.str<|tx<|(rowAt w.toNat b r).map figc) #[4] ?_ ?_ ?_
 . intro r c R o n k1;show k1 _ (Pr _)
 . intro r c D o U n k1;change tCall _ _ _ _ [none,⇑(0+(r:Int)),↑p,⇑w] c D;rw[SJ];exists(.inl (by lia,by lia),.inl (by lia,by lia),?_);have j:(r:Int)*w=((r*w.toNat:Nat):Int):=by rw[Int.natCast_mul,RD #[4]]
   have m:(r:Int)*w+w=((r*w.toNat+w.toNat:Nat):Int):=by rw[Int.natCast_add,← j,RD #[4]]
   rw[m,j];show xi (n _ _ B) λl f=>?_
   have u:r*w.toNat+w.toNat<=b.length:=by
    rw[I,← R9];show Sv _ o
   have d:cutV (b.map V.int) (some ((r*w.toNat:Nat):Int)) (some ((r*w.toNat+w.toNat:Nat):Int))=(rowAt w.toNat b r).map V.int:=by
    rw[IP #[4] (by rw[Pj];show u),Nat.add_sub_cancel_left];unfold rowAt;rw[List.map_take,List.map_drop]
   rw[d];have J:Same c (upd c l<|.lst<|(rowAt w.toNat b r).map V.int):=(Pr c).laid f;show(l,rowAt w.toNat b r,rfl,ak,?_,λx M=>s x<|IO M,λP L=>k1 _<|J.trans L);unfold rowAt;rw[QB];lia
 . intro l c f n A
   have e:(List.filter (λ_=>true)<|List.range h.toNat).map (λr=>V.str<|tx<|(rowAt w.toNat b r).map figc)=(((rowsL h.toNat w.toNat b).map (·.map figc)).map tx).map V.str:=by
    rw[fm];unfold rowsL;rw[P8,P8,P8];rfl
   rw[e]at A
   have q:∀ r∈(rowsL h.toNat w.toNat b).map (·.map figc),r.length<=6:=λr o=>by
    obtain⟨y,z,rfl⟩:=PM.mp o;unfold rowsL at z;obtain⟨i,_,rfl⟩:=PM.mp z;rw[Pj];unfold rowAt;rw[QB];lia
   show BK A (gb (by simp[rowsL];lia) (λt C=>by obtain⟨x,s,rfl⟩:=PM.mp C;rw[aF];have:=q x s;lia) (by rw[aF];decide)) ?_;rw[jJ,mr];show k _ n
local macro_rules|`(tactic|walk_at "w")=>wk9 ws4
variable{K:Frag}{H:Hp}{p:Addr}{fin:Addr->Hp->Prop}
def HA {cs:List Nat} (k:H p=some (.tup<|(cs.map λ(n:Nat)=>(n:Int)).map V.int)) (f:cs.length<=100) (j:∀ c∈cs,c<100)
  (s:∀ l a,H l=none->Same H a->a l=↥(((cs.map numC).map tx).map V.str)->fin l a):CompR (Itt K p) (gName 1) tTrue (tCB kStr<|tCons (tVar 1) tNil) fin [none,none] H:=by
 show Hq (xs:=(cs.map λ(n:Nat)=>(n:Int)).map V.int) (λl i σ a=>(σ=[none,none]\/∃ h,σ=([none,none]:St).set 1 h)/\Same H a/\a l=↥((((cs.take i).map numC).map tx).map V.str)) (λl f=>(.inl rfl,(Pr H).laid f,by rw[ak];rfl)) (λl i σ a _ _ q=>TH<|q.2.1 _ _ k) ?_ (λl σ a f q=>s l a f q.2.1 (by have:=q.2.2;rw[Pj,Pj,QU]at this;show this));rintro l i x σ v g t ⟨u,r,o⟩;obtain⟨z,b,rfl⟩:=ic t;rw[Pp]at b
 cases e:cs[i]? with
 | none=>rw[e]at b;cases b
 | some n=>
  rw[e]at b;cases b;have m:cs.take (i+1)=cs.take i++[n]:=by rw[Se,e];rfl
  rw[aH]
  have e2:σ.set 1 ⇑(n:Int)=[none,⇑(n:Int)]:=by
   rcases u with rfl | ⟨h,rfl⟩
   . rfl
   . rfl
  rw[e2,bP,PK rfl];symm;have d:=j n<|PD e;rw[IY d];show(Jg d,_,o,by simp;show aZ #[4],.inr (_,rfl),r.own g,?_);rw[ak,m];simp
def  flT(h w g:Int):List Nat:=catL 32 [numC h.toNat,numC w.toNat,numC g.toNat]
def Js(h w g:Int):(flT h w g).length<=8:=by
 change(numC h.toNat++32::(numC w.toNat++32::numC g.toNat)).length<=8;have a:=jY (n:=h.toNat);have b:=jY (n:=w.toNat);have c:=jY (n:=g.toNat);simp;lia
def  RR.cod(r:RR):List Nat:=catL 32 r.ws
def RR.txts(rows:List RR):rows.map RR.txt=(rows.map RR.cod).map tx:=by rw[P8];rfl
def  Gn{a:List (List Nat)}{k:Nat}(h:∀ r∈a,r.length<=2)(b:a.length<=k):(catL 32 a).length<=3*k:=Pk (Ab a h) (SH 3 b)
def RR.cod_len{r:RR}{h w g:Int}(O:r.Ok h w g):r.cod.length<=63:=by
 have d:(nmC r.k).length<=8:=by cases r.k <;> decide
 have f:=O.len;have e:r.ws=nmC r.k::((if numK r.k then [numC r.n] else [])++(if sgnK r.k then [numC r.m] else [])++r.ns.map numC):=rfl;unfold RR.cod;rw[e];generalize c:(if numK r.k then [numC r.n] else [])++(if sgnK r.k then [numC r.m] else [])++r.ns.map numC=t
 have h2:∀ x∈t,x.length<=2:=λx b=>by
  rw[← c]at b;rcases PN.mp b with b | b
  . rcases PN.mp b with b | b
    . split at b
      . rw[PJ.mp b];show jY
      . cases b
    . split at b
      . rw[PJ.mp b];show jY
      . cases b
  . obtain⟨y,_,rfl⟩:=PM.mp b;show jY
 have h3:t.length<=18:=by
  rw[← c,Pq,Pq,Pj]
  split <;> split <;> simp <;> lia
 match t,h2,h3 with
 | [],_,_=>change(nmC r.k).length<=63;lia
 | a::u,h2,h3=>
  rw[jL (by simp)];have:=Gn h2 h3;rw[Pq,PR];lia
def Ch{s:List Nat}{b:Nat}:∀{rs:List (List Nat)},(∀ r∈rs,r.length<=b)->(catS s rs).length<=rs.length*(b+s.length)
 | [],_=>by simp[catS]
 | [x],h=>by have:=h x Pn;simp[catS];lia
 | x::y::r,h=>by
  have h1:=h x Pn;have h2:=Ch (s:=s) (rs:=y::r) λz a=>h z<|Pm _ a;change(x++(s++catS s (y::r))).length<=_;rw[Pq,Pq,PR,R9];lia
def  rowT(rows:List RR):List Nat:=catS s!"; " (rows.map RR.cod)
def HB{c:TJ}{h w g:Int}{rows:List RR}(R:tP c h w g rows):(rowT rows).length<=780:=by
 have h1:∀ x∈rows.map RR.cod,x.length<=63:=λx b=>by
  obtain⟨r,a,rfl⟩:=PM.mp b;show RR.cod_len (R.ok r a)
 have:=Ch (s:=s!"; ") h1;have d:=R.n;rw[Pj]at this;show Pk this ?_;change rows.length*65<=780;lia
def  pzP(h w g:Int)(rows:List RR)(cl:∅):List (List Nat):=[flT h w g,rowT rows,showL h.toNat w.toNat cl]
def  pzT(h w g:Int)(rows:List RR)(cl:∅):List Nat:=catS s!" | " (pzP h w g rows cl)
def jt:d:=#[3,∃ p h w g,vs=[.ref p]/\IsFl H p h w g/\FlOk h w g/\∀ a,Same H a->Q (.str<|tx<|flT h w g) a]
def lS:a:=#[":kCeD~pbfg`0aR&-- {he0l#1 Nv'ha1dd",[32]]
variable{vs:List V}{Q:VK}
def xD{E:XK}:R "numbers" jt lS K:=by
 obtain⟨p,h,w,g,rfl,d,F,q⟩:=h;obtain⟨h0,h1,u,v,f,y,o⟩:=id F
 have a:H p=some (.tup<|(([h.toNat,w.toNat,g.toNat]:List Nat).map λ(n:Nat)=>(n:Int)).map V.int):=by
  have e:H p=some (.tup [.int h,.int w,.int g]):=d;rw[e];simp only[Pz,TB];rw[show((h.toNat:Nat):Int)=h by lia,show((w.toNat:Nat):Int)=w by lia,show((g.toNat:Nat):Int)=g by lia]
 ac_nf;unfold lS;rw[cp,fZ];exists(dg,?_);rw[IT];exists((_,TH a),?_);show HA a (by simp) (λc b=>by simp at b;lia) λl r s k j=>?_;symm
 show qr j (gb (by simp) (λt m=>by
  obtain⟨z,i,rfl⟩:=PM.mp m;obtain⟨x,_,rfl⟩:=PM.mp i;rw[aF];show Pk jY #[1]) (by rw[aF];decide)) ?_
 rw[jJ,mr];show q _ k
def mx:f:=#[3,∃ P L G h w g rows b,vs=[.ref P]/\IsPz H c d P L G h w g rows b/\∀ a,Same H a->Q (.str<|tx<|pzT h w g rows b) a]
def nI:c:=#[":kCeD~pbfg`0aua,'iea1da2a,'jea1aJpO'f'genp0dddd",s!" | "]
def my:c:=#[":hqJpO~c~denp0dl#1 hqCeD~pbfg`0aJpO'k'lenp0ddl#2 {ienp",s!"; "]
def HC{h w g:Int}{cl:∅}(F:FlOk h w g)(C:CluesOk h w g cl):cl.length=h.toNat*w.toNat:=by
 rw[C.len,mulN (by have:=F.h0;lia) (by have:=F.w0;lia)]
def y9{c:TJ}{d:TL}{E:XK}:R "puzzle floor rules" mx my K c d:=by
 obtain⟨P,L,G,h,w,g,rows,a,rfl,x,q⟩:=h;obtain⟨Z,p,X,h1,h2,h3⟩:=x.ex;have Y:=x.R.n;have fg:=x.R.F.g1;have rl:=HB x.R;have fl:=Js h w g;have N:(showL h.toNat w.toNat a).length<=100:=F1 (by have:=x.R.F.h1;lia) (by have:=x.R.F.w1;lia);have l:∀ t∈rows.map RR.cod,t.length<=63:=λt f=>by obtain⟨r,T,rfl⟩:=PM.mp f;show RR.cod_len (x.R.ok r T)
 exists my;show methE (k:=.Puzzle) rfl x.ok h1 (by rfl) ?_;exists(P,L,G,h,w,g,rows,a,rfl,x,λo e=>?_);exists(dg,?_);show methE (k:=.Puzzle) rfl x.ok h1 (by rfl) ?_;exists(P,L,G,h,w,g,rows,a,rfl,x,λR H1 u hR s=>?_);rw[RR.txts]at s;symm
 show qr s (gb (by simp;lia) (λt f=>by
  obtain⟨z,j,rfl⟩:=PM.mp f;rw[aF];show Pk (l z j) #[1]) (by rw[aF];decide)) ?_
 rw[jJ,ou];unfold nI;exists(dg,?_);show(o,h,w,g,rfl,u _ _ e,x.R.F,λW B=>?_);have b:=u.trans B;exists methE (k:=.Puzzle) rfl x.ok (b _ _ h1) (by rfl) ?_;exists(P,L,G,h,w,g,rows,a,rfl,x.same b,λS J=>?_);obtain⟨H3,m,D,O⟩:=cP (.lst<|a.map V.int) J;rw[m];have i:=b.trans D;exists(o,S,h,w,g,a,rfl,i _ _ e,x.R.F,O,HC x.R.F x.C,λy A=>by have:=x.C.ok y A;lia,λv I=>?_);exists(lnR rfl,λU M=>?_);obtain⟨H5,m,s5,eU⟩:∃ z,upd v U (.lst [V.str (tx (flT h w g)),V.str (tx (catS s!"; " (rows.map RR.cod))),V.str (tx (showL h.toNat w.toNat a))])=z/\Same v z/\z U=↥(((pzP h w g rows a).map tx).map V.str):=cP _ M;rw[m]
 show qr eU (gb (by simp[pzP]) (λt f=>by
  obtain⟨z,j,rfl⟩:=PM.mp f;rw[aF];simp[pzP]at j;rcases j with rfl | rfl | rfl <;> lia) (by rw[aF];decide)) ?_
 rw[jJ,ou];show q _ ((i.trans I).trans s5)
abbrev natV(m:List Nat):List V:=m.map λ(k:Nat)=>V.int (k:Int)
def  Th7.tl(P:Addr->List Th7->Prop)(H:Hp)(q:Addr):Th7->Prop
 | .pl _ _ _ _ m=>H q=↥(natV m)
 | .su _ _ _ bk=>P q bk
def  IsI(D:Addr->Prop)(P:Addr->List Th7->Prop)(H:Hp)(r:Addr)(x:Th7):Prop:=
 D r/\∃ q,D q/\H r=some (.tup [.str<|tx x.w,.int (x.a:Nat),.int (x.b:Nat),.int (x.c:Nat),.ref q])/\x.tl P H q
def  IsB:Nat->(Addr->Prop)->Hp->Addr->List Th7->Prop
 | 0,_,_,_,_=>False
 | n+1,D,H,p,l=>D p/\∃ rs:List Addr,H p=↥(rs.map V.ref)/\rs.length=l.length/\∀(i:Nat) (r:Addr) (x:Th7),rs[i]? =some r->l[i]? =some x->IsI D (IsB n D H) H r x
abbrev IsJ(n:Nat)(D:Addr->Prop)(H:Hp)(r:Addr)(x:Th7):Prop:=IsI D (IsB n D H) H r x
abbrev DF(H:Hp):Addr->Prop:=λb=>H b=none
variable{D:Addr->Prop}
def IsI.frame{k:Addr->Prop}{n:Hp}{P p:Addr->List Th7->Prop}(d:∀ b,D b->(∃ u,H b=some u)->k b)(f:∀ b u,D b->H b=some u->n b=some u)(g:∀ q l,P q l->p q l)(s:∀ q l,P q l->∃ u,H q=some u){r:Addr}{x:Th7}(h:IsI D P H r x):IsI k p n r x:=by
 obtain⟨i,q,j,e,t⟩:=h
 cases x with
 | pl w a b c m=>show(d r i (_,e),q,d q j (_,t),f _ _ i e,f _ _ j t)
 | su a b c o=>show(d r i (_,e),q,d q j<|s q o t,f _ _ i e,g q o t)
def IsB.lv:∀{n:Nat} {D:Addr->Prop} {H:Hp} {p:Addr} {l:List Th7},IsB n D H p l->∃ u,H p=some u
 | 0,_,_,_,_,h=>h.elim
 | n+1,_,_,_,_,⟨_,rs,e,_⟩=>(_,e)
def IsB.fr:∀{n:Nat} {D a:Addr->Prop} {H c:Hp} {p:Addr} {l:List Th7},(∀ b,D b->(∃ u,H b=some u)->a b)->(∀ b u,D b->H b=some u->c b=some u)->IsB n D H p l->IsB n a c p l
 | 0,_,_,_,_,_,_,_,_,h=>h.elim
 | n+1,D,a,H,c,p,l,d,f,⟨dp,rs,e,el,k⟩=>(d p dp (_,e),rs,f _ _ dp e,el,λi r x j m=>(k i r x j m).frame d f (λq g z=>IsB.fr d f z)<|λq g z=>z.lv)
variable{n:Nat}
def  IsJ.fr{c:Addr->Prop}{a:Hp}{r:Addr}{x:Th7}(d:∀ b,D b->(∃ u,H b=some u)->c b)(f:∀ b u,D b->H b=some u->a b=some u)(h:IsJ n D H r x):IsJ n c a r x:=
 IsI.frame d f (λq e z=>IsB.fr d f z) (λq e z=>z.lv) h
def IsI.up{P d:Addr->List Th7->Prop}(g:∀ q l,P q l->d q l){r:Addr}{x:Th7}(h:IsI D P H r x):IsI D d H r x:=by
 obtain⟨f,q,i,e,t⟩:=h
 cases x with
 | pl w a b c m=>show(f,q,i,e,t)
 | su a b c j=>show(f,q,i,e,g q j t)
def  IsT(n:Nat)(D:Addr->Prop)(H:Hp)(p:Addr)(l:List Th7):Prop:=
 D p/\∃ a:List Addr,H p=↥(a.map V.ref)/\a.length=l.length/\∀(i:Nat) (r:Addr) (x:Th7),a[i]? =some r->l[i]? =some x->IsJ n (λb=>D b/\b≠p) H r x
def IsT.b{l:List Th7}(h:IsT n D H p l):IsB (n+1) D H p l:=by
 obtain⟨g,d,e,c,k⟩:=h;show(g,d,e,c,λi r x a f=>IsJ.fr (λ_ z _=>z.1) (λb u _ e=>e)<|k i r x a f)
def DVs.of{K:Frag}{H:Hp}:∀{xs:List V} {a:List PyData},xs.length=a.length->(∀(i:Nat) (x:V) (d:PyData),xs[i]? =some x->a[i]? =some d->DV K H x d)->DVs K H xs a
 | [],[],_,_=>.nil
 | [],_::_,h,_=>by cases h
 | _::_,[],h,_=>by cases h
 | x::xs,d::a,h,k=>.cons (k 0 x d rfl rfl) (DVs.of (Nat.succ.inj h) λi x d c b=>k (i+1) x d c b)
def pY:∀{a:List PyData},(∀ d∈a,PyData.eqv d d=true)->PyData.eqvAll a a=true
 | [],_=>rfl
 | d::r,h=>by rw[PyData.eqvAll,h d Pn,pY λx b=>h x<|Pm _ b];rfl
def Ci:∀{a:List PyData},(∀ d∈a,PyData.canLay0 d=true)->PyData.canLayAll0 a=true
 | [],_=>rfl
 | d::r,h=>by rw[PyData.canLayAll0,h d Pn,Ci λx b=>h x<|Pm _ b];rfl
def Cj{k:Nat}:∀{a:List PyData},(∀ d∈a,PyData.depth d<=k)->PyData.depthAll a<=k
 | [],_=>Qg _
 | d::r,h=>by rw[PyData.depthAll];show Nat.max_le.mpr (h d Pn,Cj λx b=>h x<|Pm _ b)
structure GoodD(k:Nat)(d:PyData):Prop where
 q:PyData.eqv d d=true
 c:PyData.canLay0 d=true
 d:PyData.depth d<=k
variable{d:PyData}
def GoodD.shaped{k:Nat}(g:GoodD k d)(h:k<=64):SeqAt.shaped d=true:=by
 unfold SeqAt.shaped;rw[g.c,Po<|Pk g.d h];rfl
def  GoodD.int{k:Nat}{i:Int}:GoodD k (.int i):=(by simp[PyData.eqv],rfl,by simp[PyData.depth])
def  GoodD.str{k:Nat}{s:Str}(a:PyData.canLay0 (.str s)=true):GoodD k (.str s):=(by simp[PyData.eqv],a,by simp[PyData.depth])
variable{ds:List PyData}
def  GoodD.list{k:Nat}(h:∀ d∈ds,GoodD k d):GoodD (k+1) (.list ds):=(by rw[PyData.eqv];show pY λd a=>(h d a).q,by rw[PyData.canLay0];show Ci λd a=>(h d a).c,by rw[PyData.depth];have:=Cj λd a=>(h d a).d;omega)
abbrev Tk:=@GoodD.list
def  GoodD.tuple{k:Nat}(h:∀ d∈ds,GoodD k d):GoodD (k+1) (.tuple ds):=(by rw[PyData.eqv];show pY λd a=>(h d a).q,by rw[PyData.canLay0];show Ci λd a=>(h d a).c,by rw[PyData.depth];have:=Cj λd a=>(h d a).d;omega)
def  LF{k:Nat}{s:Str}{a b c:Int}(f:PyData.canLay0 (.str s)=true)(h:GoodD k d):GoodD (k+1) (.tuple [.str s,.int a,.int b,.int c,d]):=GoodD.tuple λx e=>by
 rcases Pw.mp e with rfl | e
 . show .str f
 rcases Pw.mp e with rfl | e
 . show .int
 rcases Pw.mp e with rfl | e
 . show .int
 rcases Pw.mp e with rfl | e
 . show .int
 rw[PJ.mp e];show h
def EV {a:Addr} {k:Nat} {E:TE} {s:St} {c:Hp} {xs:List V} (R:Nat->(Addr->Prop)->Hp->Addr->Prop) (A:∀ i D F H n v,(∀ b,D b->(∃ u,H b=some u)->F b)->(∀ b u,D b->H b=some u->n b=some u)->R i D H v->R i F n v) (T:xs.length<=900) (O:SqL K c a xs)
  (J:∀(i:Nat) (x:V) (H:Hp) (Q:VK),xs[i]? =some x->Same c H->(∀ r n,Same H n->R i (DF H) n r->Q (.ref r) n)->E (s.set k<|some x) H Q)
  (M:∀(l:Addr) (rs:List Addr) (H:Hp),c l=none->Same c H->H l=↥(rs.map V.ref)->rs.length=xs.length->(∀(i:Nat) (r:Addr),rs[i]? =some r->R i (λb=>c b=none/\b≠l) H r)->fin l H):
  CompR (Itl K a) (gName k) tTrue E fin s c:=by
 show mU (xs:=xs) (λl i σ H=>(σ=s\/∃ G,σ=s.set k G)/\Same c H/\∃ rs:List Addr,H l=↥(rs.map V.ref)/\rs.length=i/\∀(j:Nat) (r:Addr),rs[j]? =some r->R j (λb=>c b=none/\b≠l) H r) (λl o=>(.inl rfl,(Pr c).laid o,[],by rw[ak];rfl,rfl,λj r h=>by cases h)) (λl i σ H _ _ p=>p.2.1.seq O) ?_<|λl σ H o ⟨_,g,rs,q,t,x⟩=>M l rs H o g q t x;rintro l i y σ H o B ⟨S,g,rs,q,t,x⟩;have U:i<xs.length:=(Ps.mp B).1;rw[aH]
 have e:σ.set k (some y)=s.set k (some y):=by
  rcases S with rfl | ⟨G,rfl⟩
  . rfl
  . show Rn ..
 rw[e,bP,PK rfl];show J i y H _ B g λr I w P=>(_,w _ _ q,?_,.inr (_,rfl),(g.trans w).own o,rs++[r],?_,?_,?_)
 . rw[Pj,t];show aZ #[4]
 . rw[ak];simp
 . simp[t]
 . intro j L f;have C:∀ b u,(c b=none/\b≠l)->I b=some u->upd I l (.lst<|rs.map V.ref++[V.ref r]) b=some u:=λb u z e=>by rw[ao z.2];show e
   by_cases h:j<rs.length
   . rw[PV h]at f;show A _ _ _ _ _ _ (λ_ z _=>z) (λb u z e=>C b u z<|w _ _ e) (x j L f)
   . rw[P4 #[4]]at f
     have h0:j-rs.length=0:=by
      cases N:j-rs.length with
      | zero=>rfl
      | succ m=>rw[N]at f;cases f
     rw[h0]at f;cases f;have:j=i:=by lia
     subst this;show A _ _ _ _ _ _ (λb z _=>(?_,?_)) (λb u z e=>?_) P
     . cases e1:c b with
       | none=>rfl
       | some u=>have d:H b=none:=z;rw[g _ _ e1]at d;cases d
     . intro e;subst e;have d:H b=none:=z;rw[q]at d;cases d
     . show C b u (?_,?_) e
       . cases e1:c b with
         | none=>rfl
         | some u=>have d:H b=none:=z;rw[g _ _ e1]at d;cases d
       . intro e;subst e;have d:H b=none:=z;rw[q]at d;cases d
def Ck(c:Nat):∀ l:List Nat,cnt c l=(l.count c:Int)
 | []=>rfl
 | x::r=>by
  rw[cnt_cons,Ck c r,List.count_cons];by_cases h:x=c
  . subst h;simp;lia
  . simp[h]
def Cl(l:List Nat)(c:Nat):Txt.count (tx l) (tx [c])=(l.count c:Int):=by
 rw[show tx [c]={cps:=#[c]} from rfl,count_cnt,jg,Ck]
def HD(l p:List Nat):Txt.startswith (tx l) (tx p)=decide (l.take p.length=p):=by
 have e:Txt.startswith (tx l) (tx p)=true↔l.take p.length=p:=by
  have a:=at_iff (x:=l) (s:=p) (k:=0);unfold StrLaws.At at a;rw[Txt.startswith,P3,PP];rw[a,List.drop_zero];constructor
  . show λh=>h.2
  . intro h;show(?_,h);have:=congrArg List.length h;rw[QB]at this;lia
 by_cases h:l.take p.length=p
 . rw[Po h];show e.mpr h
 . rw[Pl h]
   cases k:Txt.startswith (tx l) (tx p) with
   | false=>rfl
   | true=>show absurd (e.mp k) h
def Jt(l s:List Nat):Txt.endswith (tx<|l++s) (tx s)=true:=by
 rw[← lA];show PySem.W.KT.ends_app _ _
variable{r:List Nat}
def DP{h:List Nat}(g:40∉h):Txt.partition (tx<|h++(s!" ("++r)) (tx s!" (")=(tx h ,tx s!" (",tx r):=by
 have d:StrLaws.At (tx<|h++(s!" ("++r)) (tx s!" (") (tx<|h++(s!" ("++r)).length h.length:=by
  show at_iff.mpr (by simp,?_);rw[Q4];rfl
 have b:∀ k,k<h.length->¬ StrLaws.At (tx<|h++(s!" ("++r)) (tx s!" (") (tx<|h++(s!" ("++r)).length k:=by
  intro k l a;have m:=yZ (c:=40) (j:=1) rfl a;by_cases h1:k+1<h.length
  . rw[PV h1]at m;show g (PD m)
  . rw[P4 #[4],show k+1-h.length=0 by lia]at m;simp at m
 rcases partition_whole (tx (h++(s!" ("++r))) (tx s!" (") with ⟨_,k⟩ | ⟨i,e,a,k⟩
 . show absurd d (k _)
 . have f:i=h.length:=by
    rcases Nat.lt_trichotomy i h.length with z | z | z
    . show absurd a (b i z)
    . show z
    . show absurd d (k _ z)
   subst f;rw[e,qt,qt]
   congr 2
   . simp
   . congr 1
     rw[aF,aF];simp;show QZ #[4]
def HE(l:List Nat)(c:Nat):Txt.slice (tx<|l++[c]) none (some<|-1)=tx l:=by
 have e2:Builtin.Str.strSliceIndices none (some<|-1) 1 (l.length+1)=List.range l.length:=by
  have e:=StrLaws.strSliceIndices_plain (a:=0) (b:=l.length) (len:=l.length+1) #[4] #[4]
  have f:Builtin.Str.strSliceIndices none (some<|-1) 1 (l.length+1)=Builtin.Str.strSliceIndices (some ((0:Nat):Int)) (some ((l.length:Nat):Int)) 1 (l.length+1):=by
   unfold Builtin.Str.strSliceIndices;simp only[show(1:Int)>0 by decide,Th,show(-1:Int)<0 by decide]
   congr 1
   . first | (simp;done) | (simp;lia)
  rw[f,e];simp
 unfold Txt.slice;rw[aF,Pq,Sj,e2];rw[PF (by simp)];change tx _=tx _
 congr 1
 rw[show(tx<|l++[c]).cps=(l++[c]).toArray from rfl]
 have:∀ k,k<=l.length->List.filterMap (λx=>(l++[c]).toArray[x]?) (List.range k)=l.take k:=by
  intro k
  induction k with
  | zero=>show λ_=>by simp
  | succ k d=>
   intro g;rw[QP,List.filterMap_append,d #[4],Se]
   congr 1
   have:(l++[c]).toArray[k]? =l[k]? :=by rw[List.getElem?_toArray,PV #[4]]
   simp only[P0,List.filterMap_nil,this];rw[Px #[4]];rfl
 rw[this l.length<|Py _,QU]
def Go{s:Str}:∀{ts:List Str} {a:Nat},ts.foldl (λb c=>b+c.length+s.length) a=a+(ts.map λt=>t.length+s.length).sum
 | [],a=>by simp
 | t::r,a=>by rw[QO,Go,Pz,S6];lia
def Ip{s:List Nat}:∀{rows:List (List Nat)},((rows.map tx).map λt=>t.length+(tx s).length).sum<=(catS s rows).length+s.length
 | []=>by simp
 | [x]=>by simp[catS,aF]
 | x::y::r=>by
  have a:=Ip (s:=s) (rows:=y::r);rw[Pz,Pz,S6];change _<=(x++(s++catS s (y::r))).length+s.length;rw[Pq,Pq,aF,aF] at*;lia
variable{rows:List (List Nat)}{s:List Nat}
def EW(h:(catS s rows).length+s.length<=1000000):JoinOk (tx s) (rows.map tx)=true:=by
 unfold JoinOk;rw[← Array.foldl_toList,Go];have:=Ip (s:=s) (rows:=rows);change(!Builtin.Str.tooLong (0+(((rows.map tx).map λt=>t.length+(tx s).length).sum)))=true;unfold Builtin.Str.tooLong;rw[Pl]
 . rfl
 . rw[Su];lia
def HF(b:H p=↥((rows.map tx).map V.str))(a:(catS s rows).length+s.length<=1000000)(h:Q (.str<|tx<|catS s rows) H):kJoin (.str<|tx s) [.ref p] H Q:=by
 show BK b (EW a) ?_;rw[jJ,ou];show h
def z70:(1000000:Nat)<=sizeLine:=by rw[Su];decide
def KI{l:List Nat}:decide (tx l=tx [])=decide (l=[]):=by
 by_cases h:l=[]
 . subst h;rfl
 . rw[Pl h,Pl];intro e;have:=congrArg (λs:Str=>s.cps.toList) e;show h this
def za:∀{L:List (List Nat)},L.length<=(catS s!"; " L).length+1
 | []=>by simp
 | [x]=>by simp
 | x::y::r=>by
  have a:=za (L:=y::r);change(y::r).length+1<=(x++(s!"; "++catS s!"; " (y::r))).length+1;rw[Pq,Pq];change _<=_+(2+_)+1;lia
def Ac{A B:List (List Nat)}:(catS s A).length<=(catS s<|A++B).length:=by
 by_cases a:A=[]
 . subst a;simp[catS]
 by_cases b:B=[]
 . subst b;rw[QI];show Py _
 . rw[rE a b,Pq];lia
def xE{A B:List (List Nat)}:(catS s B).length<=(catS s<|A++B).length:=by
 by_cases a:A=[]
 . subst a;rw[QX];show Py _
 by_cases b:B=[]
 . subst b;simp[catS]
 . rw[rE a b,Pq,Pq];lia
variable{x y:Str}
def  KJ:qu (.str x) [.str y] H Q=Q (.int<|Txt.count x y) H:=rfl
structure KK(H H':Hp)(t:List Nat)(L:Addr)(P:List (List Nat))(i:Nat)(s:List (List Nat) × List (List Nat) × Int)(σ:St):Prop where
 ex:∃(F G:Addr) (v:Option V),σ=[some<|.str<|tx t,↑F,↑G,⇑s.2.2,v]/\H F=none/\H G=none/\F≠G/\F≠L/\G≠L/\H' F=↥((s.1.map tx).map V.str)/\H' G=↥((s.2.1.map tx).map V.str)/\H' L=↥((P.map tx).map V.str)/\Same H H'
 bd:s.1.length+s.2.1.length<=i
 mid:∃ A,P.take i=A++s.2.1
def  IsU:Nat->(Addr->Prop)->Hp->Addr->List Th7->Prop
 | 0,_,_,_,_=>False
 | n+1,D,H,p,l=>IsT n D H p l
def IsU.b:∀{n:Nat} {D:Addr->Prop} {H:Hp} {p:Addr} {l:List Th7},IsU n D H p l->IsB n D H p l
 | 0,_,_,_,_,h=>h.elim
 | n+1,_,_,_,_,h=>IsT.b h
variable{ns:List Nat}
def  DQ{w:List Nat}(h:32∉w):∀ r∈w::ns.map nC,32∉r:=λr a=>by
 rcases Pw.mp a with rfl | a
 . show h
 . obtain⟨n,_,rfl⟩:=PM.mp a;show B6 #[1]
def KL:∀ w∈KW,decide (tx w∈ge)=true:=by decide+kernel
def iF{a:Hp}(s:Same H a)(h:a p=none):H p=none:=by
 cases e:H p with
 | none=>rfl
 | some u=>rw[s _ _ e]at h;cases h
def L3{x y u:V}{r:List V}:cutV (x::y::u::r) (some 3) none=r:=by
 unfold cutV
 have e1:HT.sIx (x::y::u::r).length 0 (some 3)=3:=by
  change HT.sIx (r.length+3) 0 (some 3)=3;simp[HT.sIx]
  try lia
 have e2:HT.sIx (x::y::u::r).length (x::y::u::r).length none=r.length+3:=rfl;rw[e1,e2];change r.take (r.length+3-3)=r;rw[Nat.add_sub_cancel,QU]
def  HG:vd (.str x) [.str y] H Q=Q (.bl<|Txt.startswith x y) H:=rfl
def  KM:kEnds (.str x) [.str y] H Q=Q (.bl<|Txt.endswith x y) H:=rfl
def HH{w:List Nat}(h:w∈KW)(t:List Nat):decide ((w++32::t).take 8=supW++[32])=false:=by
 have a:∀ w∈KW,w.take 3≠supW.take 3/\3<=w.length:=by decide
 obtain⟨k,k3⟩:=a w h;show Pl λe=>k ?_;have:=congrArg (List.take 3) e;rw[List.take_take,show min 3 8=3 from rfl,List.take_append_of_le_length k3]at this;show this
def HI(a b c:Nat)(t:List Nat):decide ((catL 32 [supW,nC a,nC b,nC c]++t).take 8=supW++[32])=true:=by
 show Po ?_;change((supW++32::catL 32 [nC a,nC b,nC c])++t).take 8=_;rfl
def  Ju:kPart (.str x) [.str y] H Q=((y.length==0)=false/\x.length<=sizeLine/\∀ l,H l=none->Q (.ref l) (upd H l<|.tup [.str (Txt.partition x y).1,.str (Txt.partition x y).2.1,.str (Txt.partition x y).2.2])):=rfl
def  Fr9(r:List Nat):Prop:=∀ k:Nat,r[k]? =some 59->r[k+1]? ≠some 32
def at9{x:List Nat}{k:Nat}:StrLaws.At (tx x) (tx s!"; ") (tx x).length k↔x[k]? =some 59/\x[k+1]? =some 32:=by
 rw[at_iff];constructor
 . rintro⟨h1,h2⟩;have a:((x.drop k).take 2)[0]? =some 59:=by rw[show(2:Nat)=(s!"; ":List Nat).length from rfl,h2];rfl
   have b:((x.drop k).take 2)[1]? =some 32:=by rw[show(2:Nat)=(s!"; ":List Nat).length from rfl,h2];rfl
   rw[QV #[1],Qt]at a b;show(a,b)
 . rintro⟨h1,h2⟩;have c:=(Ps.mp h2).1;show(by change k+2<=_;lia,?_);change(x.drop k).take 2=s!"; ";show QL λi=>?_
   match i with
   | 0=>rw[QV #[1],Qt];show h1
   | 1=>rw[QV #[1],Qt];show h2
   | i+2=>rw[PX (by rw[QB];lia)];rfl
def Gq{x:List Nat}:∀(rows:List (List Nat)) (a f:Nat) (b:List Nat),rows≠[]->(∀ r∈rows,Fr9 r)->x.drop a=catS s!"; " rows->a<=x.length->StrLaws.ChainG (tx x) (tx s!"; ") (tx x).length a b f->(∀ k,f<=k->¬ StrLaws.At (tx x) (tx s!"; ") (tx x).length k)->StrLaws.partsFrom (tx x) (tx s!"; ").length a b=rows.map tx
 | [],_,_,_,h,_,_,_,_,_=>absurd rfl h
 | [r],a,f,b,_,hr,e,ha,hc,hn=>by
  have e:x.drop a=r:=e
  match b,hc with
  | [],hc=>
   change [Builtin.Str.strSub (tx x) a (tx x).length]=[tx r];rw[qt,e,aF,QZ (by rw[← e,Rg];lia)]
  | d::t,hc=>
   have m:=at9.mp hc.2.1;have h1:r[d-a]? =some 59:=by rw[← e,Qt,show a+(d-a)=d by have:=hc.1;lia];show m.1
   have h2:r[d-a+1]? =some 32:=by rw[← e,Qt,show a+(d-a+1)=d+1 by have:=hc.1;lia];show m.2
   show absurd h2 (hr r Pn _ h1)
 | r::r2::t,a,f,b,_,hr,e,ha,hc,hn=>by
  have e:x.drop a=r++(s!"; "++catS s!"; " (r2::t)):=e
  have q:x.length-a=r.length+(2+(catS s!"; " (r2::t)).length):=by
   have:=congrArg List.length e;rw[Rg,Pq,Pq]at this;show this
  have g:StrLaws.At (tx x) (tx s!"; ") (tx x).length (a+r.length):=at_iff.mpr (by change _+2<=_;lia,by rw[← Ri,e,Q4];rfl)
  have c:∀ k,a<=k->k<a+r.length->¬ StrLaws.At (tx x) (tx s!"; ") (tx x).length k:=λk h1 h2 l=>by
   have m:=at9.mp l;have h3:(x.drop a)[k-a]? =some 59:=by rw[Qt,show a+(k-a)=k by lia];show m.1
   have h4:(x.drop a)[k-a+1]? =some 32:=by rw[Qt,show a+(k-a+1)=k+1 by lia];show m.2
   rw[e,PV #[4]]at h3;rw[e]at h4;by_cases j:k-a+1<r.length
   . rw[PV j]at h4;show hr r Pn _ h3 h4
   . rw[P4 #[4],show k-a+1-r.length=0 by lia]at h4;cases h4
  match b,hc with
  | [],hc=>
   have p:f=a:=hc;show absurd g (hn _ #[4])
  | d::u,hc=>
   have o:d=a+r.length:=by
    by_cases h1:d<a+r.length
    . show absurd hc.2.1 (c d hc.1 h1)
    . by_cases h2:a+r.length<d
      . show absurd g (hc.2.2.1 _ #[4] h2)
      . lia
   subst o;have i:=Gq (r2::t) (a+r.length+2) f u (by simp) (λz n=>hr z<|Pm _ n) (by rw[← Ri,← Ri,e,Q4];rfl) #[4] hc.2.2.2 hn;change Builtin.Str.strSub (tx x) a (a+r.length)::StrLaws.partsFrom (tx x) (tx s!"; ").length (a+r.length+(tx s!"; ").length) u=tx r::(r2::t).map tx;have e2:(tx s!"; ").length=2:=aF _;rw[e2]at i ⊢;rw[i,qt,e,show a+r.length-a=r.length by lia,ST]
def KN(b:rows≠[])(d:∀ r∈rows,Fr9 r):Txt.split (tx<|catS s!"; " rows) (tx s!"; ")=rows.map tx:=by
 obtain⟨f,e,i⟩:=StrLaws.occ_tight (tx<|catS s!"; " rows) (tx s!"; ") (by rw[aF];decide);have a:=Gq (x:=catS s!"; " rows) rows 0 f _ b d (by simp) #[4] e i;unfold Txt.split
 split
 . rename_i c
   rw[Sz,PP,PP]at c
   match rows,b,d with
   | [r],_,_=>rfl
   | r::r2::t,_,_=>
    exfalso
    rcases c with h | h
    . rw[aF,aF]at h;have:(catS s!"; " (r::r2::t)).length=(r++(s!"; "++catS s!"; " (r2::t))).length:=rfl;rw[this,Pq,Pq]at h;lia
    . have:1<=PySem.Builtin.Str.strKind (tx<|catS s!"; " (r::r2::t)):=by
       unfold PySem.Builtin.Str.strKind
       split
       . show Py _
       . split <;> decide
      have h2:PySem.Builtin.Str.strKind (tx s!"; ")<=1:=by decide+kernel
      lia
 . split
   . rename_i g
     rw[List.isEmpty_iff.mp g]at a
     have:StrLaws.partsFrom (tx<|catS s!"; " rows) (tx s!"; ").length 0 []=[tx<|catS s!"; " rows]:=by
      change [Builtin.Str.strSub (tx<|catS s!"; " rows) 0 (tx<|catS s!"; " rows).length]=_;rw[StrLaws.sub_whole]
     rw[← a,this]
   . rw[RV];show a
def  zb(S:List Str):List (List Nat):=S.map (·.cps.toList)
def zc(rows:List (List Nat)):zb (rows.map tx)=rows:=by
 unfold zb;rw[P8]
 conv=>rhs;rw[← Tu rows]
 show QK λr _=>rfl
def zd(S:List Str):(zb S).map tx=S:=by
 unfold zb;rw[P8]
 conv=>rhs;rw[← Tu S]
 show QK λx _=>u7 x
def  wdsOf(t:List Nat):List (List Nat):=zb (Txt.split (tx t)<|tx [32])
def  pcsOf(t:List Nat):List (List Nat):=zb (Txt.split (tx t)<|tx s!"; ")
def Cm(a:rows≠[])(b:∀ r∈rows,32∉r):wdsOf (catL 32 rows)=rows:=by
 unfold wdsOf;rw[ro a b,zc]
def HJ(a:rows≠[])(b:∀ r∈rows,Fr9 r):pcsOf (catS s!"; " rows)=rows:=by
 unfold pcsOf;rw[KN a b,zc]
def rN(t:List Nat):wdsOf t≠[]/\(∀ r∈wdsOf t,32∉r)/\catL 32 (wdsOf t)=t:=by
 obtain⟨rows,h1,h2,h3,h4⟩:=vR 32 t;have:wdsOf t=rows:=by unfold wdsOf;rw[h4,zc]
 rw[this];show(h1,h2,h3)
def  numsM(a:List (List Nat)):Option (List Nat):=if none∈a.map numW then none else some (a.filterMap numW)
def  plM(t:List Nat):Option Th7:=
 if (wdsOf t).headD []∈KW/\4<=(wdsOf t).length then
  match numsM (wdsOf t).tail with
  | some (a::b::c::m)=>some (.pl ((wdsOf t).headD []) a b c m)
  | _=>none
 else none
def  p0(t:List Nat):List Nat:=(Txt.partition (tx t)<|tx s!" (").1.cps.toList
def  p2(t:List Nat):List Nat:=(Txt.partition (tx t)<|tx s!" (").2.2.cps.toList
def  suM(R:List Nat->Option (List Th7))(t:List Nat):Option Th7:=
 if (wdsOf<|p0 t).length=4/\(p2 t).getLast? =some 41 then
  match numsM (wdsOf<|p0 t).tail with
  | some [a,b,c]=>(R (p2 t).dropLast).map (.su a b c)
  | _=>none
 else none
def  thM(R:List Nat->Option (List Th7))(t:List Nat):Option Th7:=if t.take 8=supW++[32] then suM R t else plM t
def  inM:Nat->List Nat->Option (List Th7)
 | 0,_=>none
 | n+1,t=>if t=[] then some [] else if ((pcsOf t).foldl tt9 ([] ,[],0)).2.1=[] then((pcsOf t).foldl tt9 ([] ,[],0)).1.mapM (thM<|inM n) else none
def Cn(h:∀ n∈ns,n<1000000000):numsM (ns.map nC)=some ns:=by
 have e:(ns.map nC).map numW=ns.map some:=by
  rw[P8];show QK λn a=>Jl (h n a)
 unfold numsM;rw[e,PF (by simp)]
 congr 1
 have:∀ l:List (List Nat),l.filterMap numW=(l.map numW).filterMap id:=λl=>by rw[List.filterMap_map];rfl
 rw[this,e,List.filterMap_map];simp
def KO{P:List Th7->Prop}{w:List Nat}{a b c:Nat}{m:List Nat}(o:OkI P (.pl w a b c m)):plM (catL 32 (w::(a::b::c::m).map nC))=some (.pl w a b c m):=by
 have e:∀ y∈a::b::c::m,y<1000000000:=λy d=>by
  simp at d;rcases d with rfl | rfl | rfl | d
  . show o.2.1
  . show o.2.2.1
  . show o.2.2.2.1
  . show o.2.2.2.2.2 y d
 unfold plM;rw[Cm (by simp)<|DQ (xw o.1).2.1];rw[PK (o.1,by simp)];change(match numsM ((a::b::c::m).map nC) with | some (a::b::c::m)=>some (Th7.pl w a b c m) | _=>none)=_;rw[Cn e]
def LG{h:List Nat}(a:40∉h):p0 (h++(s!" ("++r))=h:=by unfold p0;rw[DP a];rfl
def LH{h:List Nat}(a:40∉h):p2 (h++(s!" ("++r))=r:=by unfold p2;rw[DP a];rfl
def KP(h:∀ l,OkB n l->inM n (txB n l)=some l){x:Th7}(o:OkI (OkB n) x):thM (inM n) (txI (txB n) x)=some x:=by
 cases x with
 | pl w a b c m=>
  unfold thM;have e:¬ (txI (txB n)<|.pl w a b c m).take 8=supW++[32]:=RS<|HH o.1 _;rw[PF e];show KO o
 | su a b c d=>
  unfold thM;have e:(txI (txB n)<|.su a b c d).take 8=supW++[32]:=Qx<|HI a b c _;rw[PK e];unfold suM;have g:p0 (txI (txB n)<|.su a b c d)=catL 32 (supW::[a,b,c].map nC):=LG sup_hd_low.1;have e2:p2 (txI (txB n)<|.su a b c d)=txB n d++[41]:=LH sup_hd_low.1;rw[g,e2,Cm (by simp)<|DQ sup_low.2.1];rw[PK (rfl,by simp)];change(match numsM ([a,b,c].map nC) with | some [a,b,c]=>(inM n (txB n d++[41]).dropLast).map (Th7.su a b c) | _=>none)=_;rw[Cn (λy f=>by simp at f;rcases f with rfl | rfl | rfl;show o.1;show o.2.1;show o.2.2.1)];rw[List.dropLast_concat,h d o.2.2.2];rfl
def  HK(h:59∉r):Fr9 r:=λk a=>absurd (PD a) h
def Co{f:List Nat->Option Th7}{g:Th7->List Nat}:∀{l:List Th7},(∀ x∈l,f (g x)=some x)->(l.map g).mapM f=some l
 | [],_=>rfl
 | x::r,h=>by
  rw[Pz,Tw,h x Pn,Co λy a=>h y<|Pm _ a];rfl
def xF:∀{n:Nat} {l:List Th7},OkB n l->inM n (txB n l)=some l
 | 0,_,h=>h.elim
 | n+1,l,h=>by
  unfold inM;by_cases a:l=[]
  . rw[PK<|(DN h).mpr a,a]
  . rw[PF λe=>a<|(DN h).mp e]
    have d:pcsOf (txB (n+1) l)=PcB (n+1) l:=by
     rw[← y8];show HJ oz λr c=>HK (Cb h r c)
    have b:(PcB (n+1) l).foldl tt9 ([] ,[],0)=(l.map<|txI<|txB n ,[],0):=by
     cases l with
     | nil=>show absurd rfl a
     | cons x r=>have:=DM (n:=n) (l:=x::r) (f:=[]) h.2;rw[QX]at this;show this
    rw[d,b,PK rfl];show Co λx g=>KP (λi z=>xF z) (h.2 x g)
open Builtin Builtin.Str
def  PE71(K:Frag)(H:Hp)(E:XK):Prop:=∀ C a,Glb K "NoText" C->Same H a->E (.ref C) none a
variable{K:Frag}{H:Hp}{E:XK}
def  PE71.same{a:Hp}(h:PE71 K H E)(s:Same H a):PE71 K a E:=λC b g c=>h C b g (s.trans c)
def  Asc(t:List Nat):Prop:=∀ c∈t,c<128
def Cp:∀ os:List (Option Nat),inV .non (os.map nV)=decide (none∈os)
 | []=>by simp[inV]
 | o::r=>by
  have a:=Cp r;unfold inV at a ⊢;rw[Pz,Re,a]
  cases o with
  | none=>simp[nV];show .inl rfl
  | some n=>
   have:eqV (nV<|some n) .non=false:=rfl;rw[this];simp
def Ad:∀ os:List (Option Nat),(os.map nV).all flatV=true
 | []=>rfl
 | o::r=>by
  rw[Pz,Sr,Ad r];cases o <;> rfl
variable{Q:VK}
def HL{p:Addr}{os:List (Option Nat)}(h:H p=↥(os.map nV)):cIn K false .non (.ref p) H Q=Q (.bl<|decide<|none∈os) H:=by
 unfold cIn;dsimp only;rw[h];dsimp only[unD,unS,bnd];rw[Cp,Ad];simp[flatV]
def ze:∀{a:List (List Nat)},none∉a.map numW->(a.map numW).map nV=natV (a.filterMap numW)
 | [],_=>rfl
 | w::r,h=>by
  have h':none∉r.map numW:=λe=>h (by rw[Pz];show Pm _ e);have b:=ze h'
  cases e:numW w with
  | none=>show absurd (by rw[Pz,e];show Pn) h
  | some n=>rw[Pz,Pz,b,P0,e];rfl
def eV:d:=#[3,∃ t:Str,vs=[.str t]/\Q .non H]
variable{vs:List V}
def sK(h:eV K vs H Q E):vs.length=1:=by
 obtain⟨_,rfl,_⟩:=h;rfl
def  gp(K:Frag)(a:EA)(E:XK):TS:=#[":rGwvVa0abTDdBo^abfg`0ds",s!"only a text is read"]
def dz:d:=λvs H Q E=>∃(W:Addr) (a:List (List Nat)),vs=[.ref W]/\H W=↥((a.map tx).map V.str)/\a.length<=800/\(∀ w∈a,WdOk w)/\
 (∀ ns,numsM a=some ns->∀ l b,Same H b->H l=none->b l=↥(natV ns)->Q (.ref l) b)/\(numsM a=none->PE71 K H E)
def vi(h:dz K vs H Q E):vs.length=1:=by
 obtain⟨_,_,rfl,_⟩:=h;rfl
def  ik(K:Frag)(a:EA)(E:XK):TS:=#[":h'm#1 &-- Ue0l#1 N,'nea1dhrtc~leEbS1Bo^abfg`0dsk1",s!"a number has one to nine figures, without noughts ahead"]
def gK:d:=λvs H Q E=>∃ t:List Nat,vs=[.str<|tx t]/\t.length<=800/\Asc t/\
 (((pcsOf t).foldl tt9 ([] ,[],0)).2.1=[]->∀ U a,Same H a->H U=none->a U=↥((((pcsOf t).foldl tt9 ([] ,[],0)).1.map tx).map V.str)->Q (.ref U) a)/\(((pcsOf t).foldl tt9 ([] ,[],0)).2.1≠[]->PE71 K H E)
def tU(h:gK K vs H Q E):vs.length=1:=by
 obtain⟨_,rfl,_⟩:=h;rfl
def  iG(K:Frag)(a:EA)(E:XK):TS:=#[":hrtcIe2udBo^abfg`0dsk1",s!"the brackets of the book do not close"]
def  gL(K:Frag)(a:EA)(E:XK):TS:=#[":hqudl#1 hqudl#2 hqbi#0 l#3 h-UeCeD~a0abfg`0dl#4 h:Ce~k~T2a4dhqc~scj3CeD'o4abfg`1dCeD'o4abfg`2dl#3 rtcxe3bi#0 h:Ce~k~T1aCeD~Sbfg`0a2ddqudl#2 s{jeKo",s!"; ",[40],[41]]
def ju:d:=λvs H Q E=>∃ t:List Nat,vs=[.str<|tx t]/\t.length<=400/\Asc t/\
 (∀ x,plM t=some x->∀ r a,Same H a->IsI (DF H) (λ_ _=>False) a r x->Q (.ref r) a)/\(plM t=none->PE71 K H E)
def xG(h:ju K vs H Q E):vs.length=1:=by
 obtain⟨_,rfl,_⟩:=h;rfl
def  mY(K:Frag)(a:EA)(E:XK):TS:=#[":hqy~Ue=oa[]1/bi#1 ~edl#2 kAacm1bi#0 acm2bi#0 acm2bi#1 acm2bi#2 a[]2/bi#3 ~ed"]
def  jv(K:Frag)(a:EA)(E:XK):TS:=#[":hqCeD~a0abfg`0dl#1 hrMwX~R~Ccm1bi#0 tc<vHa1dbi#4 Bo^abfg`1ds{keKo",[32],s!"a thought has a kind, a rule, a cell and a sign"]
def vf(t:List Nat):catS s!"; " (pcsOf t)=t/\pcsOf t≠[]/\Txt.split (tx t) (tx s!"; ")=(pcsOf t).map tx:=by
 have h1:=SR (tx t)<|tx s!"; ";have e:Txt.split (tx t) (tx s!"; ")=(pcsOf t).map tx:=(zd _).symm;rw[e,ou]at h1;show(gJ h1,λh=>?_,e);rw[h]at e;show wx _ _ e
def Jv{G p:Addr}{h:List (List Nat)}(l:H G=↥((h.map tx).map V.str))(m:H p=some (.lst []))(j:∀ r∈h,Asc r)(q:Q (.bl<|!decide (h=[])) H):cNe K (.ref G) (.ref p) H Q:=by
 have f:DVs K H ((h.map tx).map V.str) ((h.map tx).map PyData.str):=DVs.of (by simp) λi x d b a=>by
  rw[Pp]at b a
  cases e:(h.map tx)[i]? with
  | none=>rw[e]at b;cases b
  | some y=>rw[e]at b a;cases b;cases a;show .str _
 show(_,_,.lst (Qm l) f,.lst (Qm m) .nil,?_,by decide,?_)
 . have g:GoodD 1 (.list<|(h.map tx).map PyData.str):=Tk λd a=>by
    obtain⟨y,o,rfl⟩:=PM.mp a;obtain⟨r,n,rfl⟩:=PM.mp o;show GoodD.str ?_;change PyData.strOk (tx r)=true;unfold PyData.strOk;rw[Array.all_eq_true];intro i k;have c:i<r.length:=by simpa [tx] using k
    have h3:=j r n _<|Ta c;show Po ?_;change r.toArray[i]<1114112;rw[List.getElem_toArray];lia
   show g.shaped #[1]
 . cases h with
   | nil=>show q
   | cons r t=>show q
section
variable{o1:List Addr}{K:Frag}{a:EA}{vs:List V}{H:Hp}{Q:VK}{E:XK}(RT:ag K a "NoText" a.NoText o1)
include RT
def sL(h:eV K vs H Q E):gp K a E (eD9 Q) (start ["text"] vs) H:=by
 obtain⟨t,rfl,q⟩:=h;change gp K a E _ [some<|.str t] H;unfold gp;rw[aT];symm;show q
def vj(h:dz K vs H Q E):ik K a E (eD9 Q) (start ["words","numbers"] vs) H:=by
 obtain⟨W,b,rfl,n,u,o,p,r⟩:=h;change ik K a E _ [↑W,none] H;unfold ik;exists((_,Qm n),?_);show iN (xs:=(b.map tx).map V.str) (λ_=>true) (λi=>nV<|numW<|b.getD i []) (by simp;lia) (Qm n) ?_ ?_ ?_
 . intro i x j R c k k1;show k1 _ (Pr _)
 . intro i x j t c d k k1;rw[Pp,Pp]at c
   cases e:b[i]? with
   | none=>rw[e]at c;cases c
   | some y=>
    rw[e]at c;cases c;change tCall _ _ _ _ [none,some<|.str<|tx y] j t;symm;have s:b.getD i []=y:=by rw[List.getD,e];rfl
    rw[s]at k1;show(y,rfl,o y<|PD e,k1)
 . intro l j m k q
   have f:j l=↥((b.map numW).map nV):=by
    rw[q,fm,Pj,Pj,P8]
    congr 2
    show QL λi=>?_;rw[Pp,Pp];by_cases h:i<b.length
    . rw[QE h,Px h];simp[List.getD,h]
    . rw[PX (by simpa using h),PX #[4]];rfl
   symm;rw[aT];symm;rw[HL f];by_cases d:none∈b.map numW
   . rw[Po d];show(true,rfl,iteT ?_);rw[bf];exists(lnR rfl,r (by unfold numsM;rw[PK d]) _ _ RT.g k)
   . rw[Pl d];show(false,rfl,iteF ?_);exists p _ (by unfold numsM;rw[PF d]) l j k m (by rw[f,ze d])
def qv{c:Hp}{t:List Nat}{L:Addr}{P f h:List (List Nat)}{u:Int}{i:Nat}{σ:St}(T:KK c H t L P i (f ,h,u) σ)(k:∀ r∈h,Asc r)(q:h=[]->∀ U e,c U=none->Same c e->e U=↥((f.map tx).map V.str)->Q (.ref U) e)(w:h≠[]->PE71 K c E):
  iG K a E (eD9 Q) σ H:=by
 obtain⟨F,G,v,rfl,l,y,B,z,j,x,n,A,s⟩:=T.ex;unfold iG;rw[aB,aT];exists(by change 0<=sizeLine;lia,λp m=>?_);have d:=(Pr H).laid (o:=.lst []) m;show Jv (d _ _ n) ak k ?_;show(_,rfl,?_);by_cases b:h=[]
 . rw[Po b];show iteF ?_;show q b F _ l (s.trans d) (d _ _ x)
 . rw[Pl b];show iteT ?_;rw[bf];exists(lnR rfl,w b _ _ RT.g<|s.trans d)
omit RT in
def KQ{P:List (List Nat)}(f:∀ r∈P,Asc r)(i:Nat):∀ r∈((P.take i).foldl tt9 ([] ,[],0)).2.1,Asc r:=by
 have b:∀(P:List (List Nat)) (s:List (List Nat) × List (List Nat) × Int),(∀ r∈P,Asc r)->(∀ r∈s.2.1,Asc r)->∀ r∈(P.foldl tt9 s).2.1,Asc r:=by
  intro P
  induction P with
  | nil=>show λs _ h=>h
  | cons p t d=>
   intro s c e;rw[QO];show d _ (λr a=>c r<|Pm _ a) ?_;unfold tt9
   split
   . show λr a=>by cases a
   . intro r a;rcases PN.mp a with a | a
     . show e r a
     . rw[PJ.mp a];show c p Pn
 show b _ _ (λr a=>f r<|List.mem_of_mem_take a) λr a=>by cases a
omit RT in
def  Gr{t:List Nat}(h:Asc t):∀ r∈pcsOf t,Asc r:=λr a c b=>by
 show h c ?_;rw[← (vf t).1]
 have:∀{P:List (List Nat)},r∈P->c∈catS s!"; " P:=by
  intro P
  induction P with
  | nil=>intro h;cases h
  | cons x P d=>
   intro a
   cases P with
   | nil=>rw[PJ.mp a]at b;show b
   | cons y P=>
    change c∈x++(s!"; "++catS s!"; " (y::P));rcases Pw.mp a with rfl | a
    . show Qi _ b
    . show PZ _ (PZ _<|d a)
 show this a
def tV(h:gK K vs H Q E):gL K a E (eD9 Q) (start ["text","found","held","unclosed","piece"] vs) H:=by
 obtain⟨t,rfl,hl,ab,q,qe⟩:=h;have z:=z70;obtain⟨ec,ne,X⟩:=vf t;have hl:t.length<=900000:=by lia
 have Y:=Gr ab;have ad:=za (L:=pcsOf t);rw[ec]at ad;generalize hP:pcsOf t=P at*;change gL K a E _ [some<|.str<|tx t,none,none,none,none] H;unfold gL;exists(by change 0<=sizeLine;lia,λF k=>?_);show(by change 0<=sizeLine;lia,λG c=>?_);exists(dg,?_);rw[jW,X];show(rfl,by rw[aF];lia,by rw[Pj];lia,λL y=>?_);have j:F≠G:=λe=>by subst e;rw[ak]at c;cases c
 have O:G≠L:=λe=>by subst e;rw[ak]at y;cases y
 have J:upd (upd H F<|.lst []) G (.lst []) F=some (.lst []):=by rw[ao j,ak]
 have C:F≠L:=λe=>by subst e;rw[J]at y;cases y
 have Z:H G=none:=by rw[ao<|Rt j]at c;show c
 have s0:Same H (upd (upd (upd H F<|.lst []) G<|.lst []) L<|.lst<|(P.map tx).map V.str):=(((Pr H).laid k).laid c).laid y;have W:(upd (upd (upd H F<|.lst []) G<|.lst []) L<|.lst<|(P.map tx).map V.str) L=↥((P.map tx).map V.str):=ak;show(L,rfl,(_,Qm W),?_);show Bn (xs:=(P.map tx).map V.str) (λi σ S=>KK H S t L P i ((P.take i).foldl tt9 ([] ,[],0)) σ) ((F,G,none,rfl,k,Z,j,C,O,by rw[ao C];show J,by rw[ao O,ak];rfl,W,s0),by simp,([],rfl)) (λi σ S _ h=>by obtain⟨_,_,_,_,_,_,_,_,_,_,_,e,_⟩:=h.ex;show Qm e) ?_ ?_
 . rintro i x σ l I T;rw[Pp,Pp]at I
   cases e:P[i]? with
   | none=>rw[e]at I;cases I
   | some p=>
    rw[e]at I;cases I;have hi:i<P.length:=(Ps.mp e).1;have et:P.take (i+1)=P.take i++[p]:=by rw[Se,e];rfl
    rw[et,List.foldl_append];generalize (P.take i).foldl tt9 ([] ,[],0)=s at*;obtain⟨f,h,u⟩:=s;obtain⟨F,G,v,rfl,k,c,m,g,w,eF,eG,W,s1⟩:=T.ex;obtain⟨A,eA⟩:=T.mid;have bd:=T.bd;simp only at eF eG eA bd
    have ae:(catS s!"; " (h++[p])).length<=900000:=by
     show Pk ?_ hl;rw[← ec,← Rs (i+1) P,et,eA,Qj,Qj];show Pk (Ac (B:=P.drop (i+1))) (by rw[Qj];show xE)
    exists(rj eG,?_);rw[wq eG];show(by rw[Pj,Pj];lia,?_);have r:upd l G (.lst<|(h.map tx).map V.str++[V.str<|tx p]) G=↥(((h++[p]).map tx).map V.str):=by rw[ak];simp
    have d:upd l G (.lst<|(h.map tx).map V.str++[V.str<|tx p]) F=↥((f.map tx).map V.str):=by rw[ao m];show eF
    have D:upd l G (.lst<|(h.map tx).map V.str++[V.str<|tx p]) L=↥((P.map tx).map V.str):=by rw[ao<|Rt w];show W
    have s2:Same H (upd l G<|.lst<|(h.map tx).map V.str++[V.str<|tx p]):=s1.own c;generalize upd l G (.lst<|(h.map tx).map V.str++[V.str<|tx p])=H2 at*;exists(dg,dg,?_);rw[KJ,dj,Cl,Cl,show u+(p.count 40:Int) - (p.count 41:Int)=u+bT p by unfold bT;lia];rw[aT];symm;have aa:List.foldl tt9 (f ,h,u) [p]=tt9 (f ,h,u) p:=rfl;rw[aa];by_cases n:u+bT p=0
    . have e9:tt9 (f ,h,u) p=(f++[catS s!"; " (h++[p])] ,[],0):=by unfold tt9;rw[PK n]
      rw[Po n,e9];show iteT ?_;show(rj d,dg,?_);show HF r (by change _+2<=_;lia) ?_;rw[wq d];show(by rw[Pj,Pj];lia,?_);have o:upd H2 F (.lst<|(f.map tx).map V.str++[V.str<|tx<|catS s!"; " (h++[p])]) F=↥(((f++[catS s!"; " (h++[p])]).map tx).map V.str):=by rw[ak];simp
      have M:upd H2 F (.lst<|(f.map tx).map V.str++[V.str<|tx<|catS s!"; " (h++[p])]) L=↥((P.map tx).map V.str):=by rw[ao<|Rt g];show D
      have s3:Same H (upd H2 F<|.lst<|(f.map tx).map V.str++[V.str<|tx<|catS s!"; " (h++[p])]):=s2.own k;generalize upd H2 F (.lst<|(f.map tx).map V.str++[V.str<|tx<|catS s!"; " (h++[p])])=H3 at*;exists(by change 0<=sizeLine;lia,λR b=>?_);have n1:F≠R:=λe=>by subst e;rw[o]at b;cases b
      have n2:R≠L:=λe=>by subst e;rw[M]at b;cases b
      have N:H R=none:=by
       cases e0:H R with
       | none=>rfl
       | some u9=>rw[s3 _ _ e0]at b;cases b
      show((F,R,some<|.str<|tx p,by rw[n],k,N,n1,g,n2,by rw[ao n1];show o,by rw[ak];rfl,by rw[ao<|Rt n2];show M,s3.laid b),by simp;lia,(P.take<|i+1,by simp))
    . have e9:tt9 (f ,h,u) p=(f ,h++[p],u+bT p):=by unfold tt9;rw[PF n]
      rw[Pl n,e9];show iteF ?_;show((F,G,some<|.str<|tx p,rfl,k,c,m,g,w,d,r,D,s2),by simp;lia,(A,by rw[et,eA];simp))
 . rintro σ l T;rw[Pj,Pj]at T;have ha:=KQ Y P.length;rw[QU]at T ha;generalize hs:P.foldl tt9 ([] ,[],0)=s at*;obtain⟨f,h,u⟩:=s;show qv RT T ha (λhh U S hU s' e'=>q hh U S s' hU e') qe
end
variable{t:List Nat}
def Gs(j:t.length<=400)(f:Asc t):∀ w∈wdsOf t,WdOk w:=by
 obtain⟨h1,h2,h3⟩:=rN t;intro w i
 have b:∀{rows:List (List Nat)},w∈rows->w.length<=(catL 32 rows).length/\∀ c∈w,c∈catL 32 rows:=by
  intro rows
  induction rows with
  | nil=>intro h;cases h
  | cons x r g=>
   intro h
   cases r with
   | nil=>rw[PJ.mp h];show(Py _,λc a=>a)
   | cons y r=>
    have e:catL 32 (x::y::r)=x++32::catL 32 (y::r):=rfl;rw[e];rcases Pw.mp h with rfl | h
    . show(by rw[Pq];lia,λc a=>Qi _ a)
    . obtain⟨k,d⟩:=g h;show(by rw[Pq,PR];lia,λc a=>PZ _<|Pm _<|d c a)
 obtain⟨k1,k2⟩:=b i;rw[h3]at k1 k2;show(by lia,λc a=>f c<|k2 c a)
def DR:(wdsOf t).length<=t.length+1:=by
 obtain⟨h1,h2,h3⟩:=rN t
 have a:∀{rows:List (List Nat)},rows.length<=(catL 32 rows).length+1:=by
  intro rows
  induction rows with
  | nil=>simp
  | cons x r b=>
   cases r with
   | nil=>simp
   | cons y r=>
    have e:catL 32 (x::y::r)=x++32::catL 32 (y::r):=rfl;rw[e];simp only[Pq,PR]at b ⊢;lia
 have:=a (rows:=wdsOf t);rw[h3]at this;show this
def Ae{a:List (List Nat)}{ns:List Nat}(h:numsM a=some ns):ns.length=a.length:=by
 unfold numsM at h
 split at h
 . cases h
 . rename_i b
   cases h;have:(a.map numW).map nV=natV (a.filterMap numW):=ze b;have:=congrArg List.length this
   simpa using this.symm
def LI{w:List Nat}(h:tx w∈ge):w∈KW:=by
 have e:ge=KW.map tx:=rfl;rw[e]at h;obtain⟨v,a,e2⟩:=PM.mp h;rw[← gJ e2];show a
section
variable{o1:List Addr}{K:Frag}{a:EA}{vs:List V}{H:Hp}{Q:VK}{E:XK}(RT:ag K a "NoText" a.NoText o1)
include RT
def xH(h:ju K vs H Q E):jv K a E (eD9 Q) (start ["text","words","numbers"] vs) H:=by
 obtain⟨t,rfl,hl,F,q,d⟩:=h;have z:=z70;have hw:=Gs hl F;have R:=DR (t:=t);have D:Txt.split (tx t) (tx [32])=(wdsOf t).map tx:=(zd _).symm;obtain⟨G,_,_⟩:=rN t;change jv K a E _ [some<|.str<|tx t,none,none] H;unfold jv;exists(dg,?_);rw[jW,D];show(rfl,by rw[aF];lia,by rw[Pj];lia,λW hW=>?_);have v:Same H (upd H W<|.lst<|((wdsOf t).map tx).map V.str):=(Pr H).laid hW;have C:upd H W (.lst<|((wdsOf t).map tx).map V.str) W=↥(((wdsOf t).map tx).map V.str):=ak;generalize upd H W (.lst<|((wdsOf t).map tx).map V.str)=H1 at*;unfold plM at q d;generalize wdsOf t=ws at*
 obtain⟨w,r,rfl⟩:∃ w r,ws=w::r:=by
  cases ws with
  | nil=>show absurd rfl G
  | cons w r=>show(w,r,rfl)
 have q:∀ x,(if w∈KW/\4<=(w::r).length then(match numsM r with | some (a::b::c::m)=>some (Th7.pl w a b c m) | _=>none) else none)=some x->∀ r I,Same H I->IsI (DF H) (λ_ _=>False) I r x->Q (.ref r) I:=q;have d:(if w∈KW/\4<=(w::r).length then(match numsM r with | some (a::b::c::m)=>some (Th7.pl w a b c m) | _=>none) else none)=none->PE71 K H E:=d;rw[aT];exists ixL C (aJ (j:=0) rfl) (tx w,rfl,?_);by_cases y:w∈KW
 . rw[KL w y];symm;rw[ij C];symm;by_cases h4:4<=(w::r).length
   . rw[Pl (by simp at h4 ⊢;lia)];show iteF ?_;rw[PK (y,h4)]at q d;unfold mY;exists DI C λp hp=>?_;have J:Same H1 (upd H1 p<|.lst<|(r.map tx).map V.str):=(Pr H1).laid hp;have ep:upd H1 p (.lst<|(r.map tx).map V.str) p=↥((r.map tx).map V.str):=ak;generalize upd H1 p (.lst<|(r.map tx).map V.str)=H2 at*;show(p,r,rfl,ep,by simp at R;lia,λw' L=>hw w'<|Pm _ L,λns u N Y U hN A=>?_,λO=>?_)
     . have i:=Ae u
       obtain⟨f,n,k,m,rfl⟩:∃ f n k m,ns=f::n::k::m:=by
        match ns,i with
        | [],i=>simp at h4 i;lia
        | [_],i=>simp at h4 i;lia
        | [_,_],i=>simp at h4 i;lia
        | f::n::k::m,_=>show(f,n,k,m,rfl)
       rw[u]at q;have s:=v.trans<|J.trans U;exists ixL (U _ _<|J _ _ C) (aJ (j:=0) rfl) ?_;show ixL A (aJ (j:=0) rfl) ?_;show ixL A (aJ (j:=1) rfl) ?_;show ixL A (aJ (j:=2) rfl) ?_;show xi A λM T=>?_;have S:H M=none:=iF s T;have Z:upd Y M (.lst<|cutV (natV (f::n::k::m)) (some 3) none) M=↥(natV m):=by rw[ak];show congrArg (λl=>some<|HO.lst l) L3
       have X:=(s).laid (o:=.lst (cutV (natV (f::n::k::m)) (some 3) none)) T;generalize upd Y M (.lst<|cutV (natV (f::n::k::m)) (some 3) none)=H4 at*;exists(by change 5<=sizeLine;lia,λr B=>?_);have P:H r=none:=iF X B;show q _ rfl r _ (X.laid B) (P,M,S,by rw[ak];rfl,?_);change upd _ _ _ M=_;rw[ao (λe=>by subst e;rw[Z]at B;cases B)];show Z
     . rw[O]at d;show(d rfl).same (v.trans J)
   . rw[Po (by simp at h4 ⊢;lia)];show iteT ?_;rw[bf];symm;rw[PF<|λh=>h4 h.2]at d;show(lnR rfl,d rfl _ _ RT.g v)
 . rw[Pl<|λe=>y<|LI e];symm;rw[bf];symm;rw[PF<|λh=>y h.1]at d;show(lnR rfl,d rfl _ _ RT.g v)
end
def  dl(K:Frag)(n:Nat):Sp:=λvs H Q E=>∃(k:Nat) (t:List Nat) (d:Int),n=k+1/\vs=[.str<|tx t,.int d]/\t.length<=800/\Asc t/\(∀ g∈((pcsOf t).foldl tt9 ([] ,[],0)).1,g.length<=400)/\d+n=18/\
 (∀ l,inM k t=some l->∀ U a,Same H a->IsU k (DF H) a U l->Q (.ref U) a)/\(inM k t=none->PE71 K H E)
def  gq(K:Frag)(n:Nat):Sp:=λvs H Q E=>∃(k:Nat) (t:List Nat) (d:Int),n=k+1/\vs=[.str<|tx t,.int d]/\t.length<=400/\Asc t/\d+n=17/\
 (∀ x,suM (inM k) t=some x->∀ r a,Same H a->IsJ k (DF H) a r x->Q (.ref r) a)/\(suM (inM k) t=none->PE71 K H E)
def  il(K:Frag)(n:Nat):Sp:=λvs H Q E=>∃(k:Nat) (t:List Nat) (d:Int),n=k+1/\vs=[.str<|tx t,.int d]/\t.length<=400/\Asc t/\d+n=17/\
 (∀ x,thM (inM k) t=some x->∀ r a,Same H a->IsJ k (DF H) a r x->Q (.ref r) a)/\(thM (inM k) t=none->PE71 K H E)
variable{n:Nat}
def xI(h:dl K n vs H Q E):vs.length=2:=by
 obtain⟨_,_,_,_,rfl,_⟩:=h;rfl
def sM(h:gq K n vs H Q E):vs.length=2:=by
 obtain⟨_,_,_,_,rfl,_⟩:=h;rfl
def vk(h:il K n vs H Q E):vs.length=2:=by
 obtain⟨_,_,_,_,rfl,_⟩:=h;rfl
def xJ(h:dl K 0 vs H Q E):False:=by
 obtain⟨_,_,_,e,_⟩:=h;cases e
def  ig(K:Frag)(a:EA)(E:XK)(n:Nat):TS:=#[":hrMtcIevHa3dbi#4 GwCeD{lcm2bi#2 abfg`0dBo^abfg`1dshqy~Ue=oa[]3/bi#1 ~edl#4 kAabfg`2acm4bi#0 acm4bi#1 acm4bi#2 ay'pe~u=oa[]cm2bi#2 ~e/{m`3bi#1 acj1bi#1 dd",[41],s!"a supposing has a rule, a cell, a sign and a book in brackets",s!"suppose",(rU λi=>.int<|-i)]
def  gr(K:Frag)(a:EA)(E:XK)(n:Nat):TS:=#[":hqCeD{n0abfg`0dl#2 hqCeD~acm2bi#0 abfg`1dl#3 {oeKo~u",s!" (",[32]]
def  im(K:Frag)(E:XK)(n:Nat):TS:=#[":hrwCeD{p0acjbfg`0bfg`1dky{qe~u=oa0a1dsky{re=oa0d",s!"suppose",[32]]
def  jw(K:Frag)(a:EA)(E:XK)(n:Nat):TS:=#[":hrtc>1bi#16 Bo^abfg`0dshrtcxe0bfg=kudskR&--1 Uey{se=oa0dl#1 Ny{te~u=oa1a2d",s!"at most sixteen books lie in one another"]
def AK{x y z:List Nat}(h:x++(y++z)=t)(b:Asc t):Asc x/\Asc z/\x.length<=t.length/\z.length<=t.length:=by
 subst h;show(λc a=>b c<|Qi _ a,λc a=>b c<|PZ _<|PZ _ a,?_,?_) <;> simp <;> lia
def Cq(b:Asc t):Asc (p0 t)/\Asc (p2 t)/\(p0 t).length<=t.length/\(p2 t).length<=t.length:=by
 have h:=StrLaws.partition_sum (tx t) (tx s!" (")
 have e:(p0 t)++((Txt.partition (tx t)<|tx s!" (").2.1.cps.toList++p2 t)=t:=by
  have a:=congrArg (λs:Str=>s.cps.toList) h
  have e2:∀ x y:Str,(x++y).cps.toList=x.cps.toList++y.cps.toList:=λx y=>by
   change(x.cps++y.cps).toList=_;rw[Array.toList_append]
  simp only[e2]at a;rw[Qj]at a;show a
 show AK e b
variable{P:List (List Nat)}
def KR:∀ g∈(P.foldl tt9 ([] ,[],0)).1,g.length<=(catS s!"; " P).length:=by
 have c:∀(R A:List (List Nat)) (s:List (List Nat) × List (List Nat) × Int) (B:List (List Nat)),A=B++s.2.1->(∀ g∈s.1,g.length<=(catS s!"; " (A++R)).length)->∀ g∈(R.foldl tt9 s).1,g.length<=(catS s!"; " (A++R)).length:=by
  intro R
  induction R with
  | nil=>show λA s B _ h=>h
  | cons p t i=>
   intro A s B f d;rw[QO,show A++p::t=(A++[p])++t by simp];rw[show A++p::t=(A++[p])++t by simp]at d
   have b:(catS s!"; " (s.2.1++[p])).length<=(catS s!"; " ((A++[p])++t)).length:=by
    show Pk ?_ Ac;rw[f,Qj];show xE
   by_cases h0:s.2.2+bT p=0
   . have e:tt9 s p=(s.1++[catS s!"; " (s.2.1++[p])] ,[],0):=by unfold tt9;rw[PK h0]
     rw[e];show i (A++[p]) _ (A++[p]) (by simp) λg a=>?_;rcases PN.mp a with a | a
     . show d g a
     . rw[PJ.mp a];show b
   . have e:tt9 s p=(s.1 ,s.2.1++[p],s.2.2+bT p):=by unfold tt9;rw[PF h0]
     rw[e];show i (A++[p]) _ B (by rw[f];simp) d
 have:=c P [] ([] ,[],0) [] rfl (λg a=>by cases a);rw[QX]at this;show this
def Jw(n:∀ r∈P,Asc r):∀ g∈(P.foldl tt9 ([] ,[],0)).1,Asc g:=by
 have k:∀{R:List (List Nat)},(∀ r∈R,Asc r)->Asc (catS s!"; " R):=by
  intro R
  induction R with
  | nil=>show λ_ c b=>by cases b
  | cons x R f=>
   intro h
   cases R with
   | nil=>show h x Pn
   | cons y R=>
    intro c b;rcases PN.mp (show c∈x++(s!"; "++catS s!"; " (y::R)) from b) with b | b
    . show h x Pn c b
    . rcases PN.mp b with b | b
      . have:c=59\/c=32:=by simpa using b
        lia
      . show f (λr a=>h r<|Pm _ a) c b
 have i:∀(R:List (List Nat)) (s:List (List Nat) × List (List Nat) × Int),(∀ r∈R,Asc r)->(∀ r∈s.2.1,Asc r)->(∀ g∈s.1,Asc g)->∀ g∈(R.foldl tt9 s).1,Asc g:=by
  intro R
  induction R with
  | nil=>show λs _ _ h=>h
  | cons p t f=>
   intro s j h1 h2;rw[QO];have m:=j p Pn
   have l:∀ r∈s.2.1++[p],Asc r:=λr a=>by
    rcases PN.mp a with a | a
    . show h1 r a
    . rw[PJ.mp a];show m
   by_cases h0:s.2.2+bT p=0
   . have e:tt9 s p=(s.1++[catS s!"; " (s.2.1++[p])] ,[],0):=by unfold tt9;rw[PK h0]
     rw[e];show f _ (λr a=>j r<|Pm _ a) (λr a=>by cases a) λg d=>?_;rcases PN.mp d with d | d
     . show h2 g d
     . rw[PJ.mp d];show k l
   . have e:tt9 s p=(s.1 ,s.2.1++[p],s.2.2+bT p):=by unfold tt9;rw[PF h0]
     rw[e];show f _ (λr a=>j r<|Pm _ a) l h2
 show i P _ n (λr a=>by cases a) (λg d=>by cases d)
def Gu:Txt.endswith (tx t) (tx [41])=decide (t.getLast? =some 41):=by
 cases e:t.getLast? with
 | none=>
  have:t=[]:=by simpa using e
  subst this;rfl
 | some c=>
  obtain⟨u,rfl⟩:=SZ.mp e;by_cases h:c=41
  . subst h;rw[Jt];rfl
  . rw[Pl (λz=>h (by injection z))];have a:=at_iff (x:=u++[c]) (s:=[41]) (k:=u.length)
    cases k:Txt.endswith (tx<|u++[c]) (tx [41]) with
    | false=>rfl
    | true=>
     exfalso
     rw[Txt.endswith,P3,PP]at k
     have:StrLaws.At (tx<|u++[c]) (tx [41]) (tx<|u++[c]).length u.length:=by
      unfold StrLaws.At;show(by rw[aF,aF];simp,?_);have k2:=k.2;rw[aF,aF,Pq]at k2;show k2
     have:=(a.mp this).2;rw[Q4]at this;simp at this;show h this
section
variable{o1:List Addr}{K:Frag}{a:EA}{vs:List V}{H:Hp}{Q:VK}{E:XK}(RT:ag K a "NoText" a.NoText o1)
include RT
def pZ {n k:Nat} {i:Hp} {t:List Nat} {d:Int} {P W:Addr} (hn:n=k+1) (G:Same i H) (hl:t.length<=400) (J:Asc t) (hd:d+n=17) (eP:H P=some (.tup [.str<|tx<|p0 t,.str (Txt.partition (tx t)<|tx s!" (").2.1,.str<|tx<|p2 t])) (eW:H W=↥(((wdsOf<|p0 t).map tx).map V.str))
  (q:∀ x,suM (inM k) t=some x->∀ r o,Same i o->IsJ k (DF i) o r x->Q (.ref r) o) (f:suM (inM k) t=none->PE71 K i E):
  ig K a E n (eD9 Q) [some<|.str<|tx t,⇑d,↑P,↑W,none] H:=by
 have z:=z70;obtain⟨a0,a2,l0,l2⟩:=Cq J;have hw:=Gs (show(p0 t).length<=400 by lia) a0;obtain⟨L,_,_⟩:=rN<|p0 t;unfold suM at q f;generalize wdsOf (p0 t)=ws at*;unfold ig;rw[aB,aT];symm;rw[ij eW];symm;rw[Pj,Pj];by_cases h4:ws.length=4
 . rw[Po (show((ws.length:Nat):Int)=4 by lia)];show iteF ?_;show ixT eP rfl ?_;exists(dg,?_);rw[KM,Gu];by_cases v:(p2 t).getLast? =some 41
   . rw[Po v];show(true,rfl,?_);symm;rw[PK (h4,v)]at q f
     obtain⟨w,r,rfl⟩:∃ w r,ws=w::r:=by
      cases ws with
      | nil=>show absurd rfl L
      | cons w r=>show(w,r,rfl)
     have q:∀ x,(match numsM r with | some [a,b,c]=>(inM k (p2 t).dropLast).map (Th7.su a b c) | _=>none)=some x->∀ r o,Same i o->IsJ k (DF i) o r x->Q (.ref r) o:=q;have f:(match numsM r with | some [a,b,c]=>(inM k (p2 t).dropLast).map (Th7.su a b c) | _=>none)=none->PE71 K i E:=f;show DI eW λp hp=>?_;have O:Same H (upd H p<|.lst<|(r.map tx).map V.str):=(Pr H).laid hp;have ep:upd H p (.lst<|(r.map tx).map V.str) p=↥((r.map tx).map V.str):=ak;generalize upd H p (.lst<|(r.map tx).map V.str)=H2 at*;show(p,r,rfl,ep,by simp at h4;lia,λw' M=>hw w'<|Pm _ M,λns C N H3 s3 hN S=>?_,λR=>?_)
     . have j:=Ae C
       obtain⟨y,D,A,rfl⟩:∃ y D A,ns=[y,D,A]:=by
        match ns,j with
        | [],j=>simp at h4 j;lia
        | [_],j=>simp at h4 j;lia
        | [_,_],j=>simp at h4 j;lia
        | [y,D,A],_=>show(y,D,A,rfl)
        | _::_::_::_::_,j=>simp at h4 j;lia
       rw[C]at q f;have m:=G.trans<|O.trans s3;have T:=s3 _ _<|O _ _ eP;exists ixL S rfl ?_;show ixL S rfl ?_;show ixL S rfl ?_;show ixT T rfl ?_;symm;obtain⟨u,eu⟩:=SZ.mp v;rw[eu]at q f a2 l2 ⊢;rw[List.dropLast_concat]at q f;rw[Lx,HE];rw[Pq]at l2;have aa:u.length<=400:=by lia
       have I:Asc u:=λc hc=>a2 c<|Qi _ hc;show(by rw[aF,Pq];change _+1<=_;lia,?_);show(k,u,d+1,hn,rfl,by lia,I,λg hg=>?_,by lia,λl s U H4 s4 F=>?_,λs=>?_)
       . have:=KR g hg;rw[(vf u).1]at this;lia
       . have B:=m.trans s4;have hB:=F.b;exists(by change 5<=sizeLine;lia,λr X=>?_);have Z:∀ b,DF H3 b->DF i b:=λb h=>iF m h;have Y:IsB k (DF i) (upd H4 r<|.tup [.str<|tx s!"suppose",.int (y:Nat),.int (D:Nat),.int (A:Nat),.ref U]) U l:=hB.fr (λb h _=>Z b h) λb u _ e=>((Pr H4).laid X) _ _ e
         have dU:DF i U:=by
          match k,F with
          | k+1,F=>show Z _ F.1
         rw[s]at q;show q _ rfl r _ (B.laid X) (iF B X,U,dU,by rw[ak];rfl,Y)
       . rw[s]at f;show(f rfl).same m
     . rw[R]at f;show(f rfl).same (G.trans O)
   . rw[Pl v];show(false,rfl,?_);symm;rw[bf];symm;rw[PF<|λh=>v h.2]at f;show(lnR rfl,f rfl _ _ RT.g G)
 . rw[Pl (show ¬ ((ws.length:Nat):Int)=4 by lia)];show iteT ?_;rw[bf];symm;rw[PF<|λh=>h4 h.1]at f;show(lnR rfl,f rfl _ _ RT.g G)
def sO{n:Nat}(h:gq K n vs H Q E):gr K a E n (eD9 Q) (start ["text","depth","parts","words","numbers"] vs) H:=by
 obtain⟨k,t,d,f,rfl,g,b,i,q,m⟩:=h;have z:=z70;obtain⟨s,r,p,u⟩:=Cq b;have c:Txt.split (tx<|p0 t) (tx [32])=(wdsOf<|p0 t).map tx:=(zd _).symm;have o:=DR (t:=p0 t);have l:(Txt.partition (tx t)<|tx s!" (").1=tx (p0 t):=(u7 _).symm;have e2:(Txt.partition (tx t)<|tx s!" (").2.2=tx (p2 t):=(u7 _).symm;change gr K a E n _ [some<|.str<|tx t,⇑d,none,none,none] H;unfold gr;exists(dg,?_);rw[Ju,l,e2];show(rfl,by rw[aF];lia,λP j=>?_);show ixT ak rfl ?_;exists(dg,?_);rw[jW,c];show(rfl,by rw[aF];lia,by rw[Pj];lia,λW e=>?_);show pZ RT f (((Pr H).laid j).laid e) g b i (((Pr _).laid e) _ _ ak) ak q m
end
def vm(h:il K n vs H Q E):im K E n (eD9 Q) (start ["text","depth"] vs) H:=by
 obtain⟨k,t,d,f,rfl,e,a,i,q,b⟩:=h;have z:=z70;change im K E n _ [some<|.str<|tx t,⇑d] H;unfold im;rw[aB,aT];exists(dg,by rw[aF,aF];change 7+1<=sizeLine;lia,?_);rw[lA,HG,HD];show(_,rfl,?_);unfold thM at q b;by_cases h8:t.take 8=supW++[32]
 . rw[PK h8]at q b;have c:decide (t.take (s!"suppose"++[32]:List Nat).length=(s!"suppose"++[32]:List Nat))=true:=Po h8;rw[c];show iteT (k,t,d,f,rfl,e,a,i,q,b)
 . rw[PF h8]at q b;have c:decide (t.take (s!"suppose"++[32]:List Nat).length=(s!"suppose"++[32]:List Nat))=false:=Pl h8;rw[c];show iteF (t,rfl,e,a,λx l r g s j=>q x l r g s<|IsI.up (λ_ _ z=>z.elim) j,b)
def Da {a:Addr} {k:Nat} {m:TE} {fin:Addr->Hp->Prop} {d:St} {c:Hp} {xs:List V} (b:Nat) (z:b<xs.length) (C:xs.length<=900) (A:SqL K c a xs)
  (u:∀(i:Nat) (x:V) (H:Hp) (Q:VK),xs[i]? =some x->i<b->Same c H->(∀ r q,Same H q->Q (.ref r) q)->m (d.set k<|some x) H Q)
  (v:∀(x:V) (H:Hp) (Q:VK),xs[b]? =some x->Same c H->m (d.set k<|some x) H Q):
  CompR (Itl K a) (gName k) tTrue m fin d c:=by
 show mU (xs:=xs) (λl i σ H=>i<=b/\(σ=d\/∃ t,σ=d.set k t)/\Same c H/\∃ f:List Addr,H l=↥(f.map V.ref)/\f.length=i) (λl g=>(Qg _,.inl rfl,(Pr c).laid g,[],by rw[ak];rfl,rfl)) (λl i σ H _ _ p=>p.2.2.1.seq A) ?_ (λl σ H g ⟨h0,_⟩=>by lia);rintro l i y σ H g j ⟨h0,B,n,f,w,o⟩;have D:i<xs.length:=(Ps.mp j).1;rw[aH]
 have e:σ.set k (some y)=d.set k (some y):=by
  rcases B with rfl | ⟨t,rfl⟩
  . rfl
  . show Rn ..
 rw[e,bP,PK rfl];by_cases h:i<b
 . show u i y H _ j h n λr E s=>(_,s _ _ w,?_,h,.inr (_,rfl),(n.trans s).own g,f++[r],?_,?_)
   . rw[Pj,o];show aZ #[4]
   . rw[ak];simp
   . simp[o]
 . have:i=b:=by lia
   subst this;show v y H _ j n
def Af{f:List Nat->Option Th7}:∀{ts:List (List Nat)} {l:List Th7},ts.mapM f=some l->l.length=ts.length/\∀(i:Nat) (t:List Nat) (x:Th7),ts[i]? =some t->l[i]? =some x->f t=some x
 | [],l,h=>by
  have:l=[]:=by simpa using h.symm
  subst this;show(rfl,λi t x h=>by cases h)
 | t::r,l,h=>by
  rw[Tw]at h
  cases e:f t with
  | none=>rw[e]at h;cases h
  | some x=>
   rw[e]at h
   cases e2:r.mapM f with
   | none=>rw[e2]at h;cases h
   | some c=>
    rw[e2]at h;have:l=x::c:=by injection h with h;show h.symm
    subst this;obtain⟨h1,h2⟩:=Af e2;show(by simp[h1],λi t' d a b=>?_)
    cases i with
    | zero=>cases a;cases b;show e
    | succ i=>show h2 i t' d a b
def Ag{f:List Nat->Option Th7}:∀{ts:List (List Nat)},ts.mapM f=none->∃ b a,ts[b]? =some a/\f a=none/\∀(i:Nat) (t:List Nat),i<b->ts[i]? =some t->∃ x,f t=some x
 | [],h=>by cases h
 | t::r,h=>by
  rw[Tw]at h
  cases e:f t with
  | none=>show(0,t,rfl,e,λi t' d=>by lia)
  | some x=>
   rw[e]at h
   cases e2:r.mapM f with
   | some g=>rw[e2]at h;cases h
   | none=>
    obtain⟨b,a,h1,h2,h3⟩:=Ag e2;show(b+1,a,h1,h2,λi t' d c=>?_)
    cases i with
    | zero=>cases c;show(x,e)
    | succ i=>show h3 i t' #[4] c
def Jx:(P.foldl tt9 ([] ,[],0)).1.length<=P.length:=by
 have a:∀(R:List (List Nat)) (s:List (List Nat) × List (List Nat) × Int),(R.foldl tt9 s).1.length<=s.1.length+R.length:=by
  intro R
  induction R with
  | nil=>show λs=>Py _
  | cons p t b=>
   intro s;rw[QO];show Pk (b _) ?_;unfold tt9
   split <;> simp <;> lia
 have:=a P ([] ,[],0)
 simpa using this
section
variable{o1:List Addr}{K:Frag}{a:EA}{vs:List V}{H:Hp}{Q:VK}{E:XK}(RT:ag K a "NoText" a.NoText o1)
include RT
def xK{n:Nat}(h:dl K (n+1) vs H Q E):jw K a E n (eD9 Q) (start ["text","depth"] vs) H:=by
 obtain⟨k,t,d,hk,rfl,hl,G,Y,Z,q,o⟩:=h;have z:=z70;have ad:k=n:=by lia
 subst ad;change jw K a E k _ [some<|.str<|tx t,⇑d] H;unfold jw;rw[aB,aT];symm
 match k,Z,q,o with
 | 0,Z,q,o=>
  rw[Po (show(16:Int)<d by lia)];show iteT ?_;rw[bf];exists(lnR rfl,o rfl _ _ RT.g<|Pr H)
 | j+1,Z,q,o=>
  rw[Pl (show ¬ (16:Int)<d by lia)];show iteF ?_;rw[aT];symm;rw[KI];have eI:inM (j+1) t=if t=[] then some [] else if ((pcsOf t).foldl tt9 ([] ,[],0)).2.1=[] then((pcsOf t).foldl tt9 ([] ,[],0)).1.mapM (thM<|inM j) else none:=rfl;rw[eI]at q o;by_cases h0:t=[]
  . rw[PK h0]at q;rw[Po h0];show iteT (by change 0<=sizeLine;lia,λp hp=>?_);show q [] rfl p _ ((Pr H).laid hp) (hp,[],by rw[ak];rfl,rfl,λi r x h=>by cases h)
  . rw[PF h0]at q o;rw[Pl h0];have B:=Jw<|Gr G;have ae:=Jx (P:=pcsOf t);have ab:=za (L:=pcsOf t);rw[(vf t).1]at ab;show iteF (t,rfl,hl,G,λX S H1 O hS eS=>?_,λX=>?_)
    . rw[PK X]at q o;generalize ((pcsOf t).foldl tt9 ([] ,[],0)).1=ts at*;show(S,rfl,(_,Qm eS),?_)
      cases W:ts.mapM (thM<|inM j) with
      | some l=>
       obtain⟨ll,km⟩:=Af W;show EV (xs:=(ts.map tx).map V.str) (λi D H r=>∃ x,l[i]? =some x/\IsJ j D H r x) (λi D D' H H' v d f ⟨x,s,j⟩=>(x,s,IsJ.fr d f j)) (by simp;lia) (Qm eS) ?_ ?_
       . intro i y C F c J k2;rw[Pp,Pp]at c
         cases e:ts[i]? with
         | none=>rw[e]at c;cases c
         | some u=>
          rw[e]at c;cases c;have A:=PD e;have hi:i<l.length:=by rw[ll];show(Ps.mp e).1
          have ex:l[i]? =some l[i]:=Px hi;have w:=km i u _ e ex;change tCall _ _ _ _ [none,some<|.str<|tx u,⇑d] C F;exists(j,u,d,rfl,rfl,Y u A,B u A,by lia,λx s r N R M=>?_,λm=>?_)
          . rw[w]at s;cases s;show k2 r N R (_,ex,M)
          . rw[w]at m;cases m
       . intro U rs C hU J eU el k2;show q l W U C (O.trans J) (iF O hU,rs,eU,by rw[el];simp[ll],λi r x hr s=>?_);obtain⟨y,c,M⟩:=k2 i r hr;rw[s]at c;cases c;show IsJ.fr (λb h _=>(iF O h.1,h.2)) (λb u _ e=>e) M
      | none=>
       have o:=o W;obtain⟨n0,T,e0,f0,I⟩:=Ag W;have aa:n0 < ((ts.map tx).map V.str).length:=by rw[Pj,Pj];show(Ps.mp e0).1
       show Da n0 aa (by simp;lia) (Qm eS) ?_ ?_
       . intro i y C F c hi J k2;rw[Pp,Pp]at c
         cases e:ts[i]? with
         | none=>rw[e]at c;cases c
         | some u=>
          rw[e]at c;cases c;have A:=PD e;obtain⟨x,w⟩:=I i u hi e;change tCall _ _ _ _ [none,some<|.str<|tx u,⇑d] C F;exists(j,u,d,rfl,rfl,Y u A,B u A,by lia,λx s r N R M=>k2 r N R,λm=>?_);rw[w]at m;cases m
       . intro y C F c J;rw[Pp,Pp,e0]at c;cases c;have A:=PD e0;change tCall _ _ _ _ [none,some<|.str<|tx T,⇑d] C F;exists(j,T,d,rfl,rfl,Y T A,B T A,by lia,λx s r N R M=>?_,λm=>o.same<|O.trans J);rw[f0]at s;cases s
    . rw[PF X]at o;show o rfl
end
def j0:d:=λvs H Q E=>∃ t:List Nat,vs=[.str<|tx t]/\t.length<=800/\Asc t/\(∀ g∈((pcsOf t).foldl tt9 ([] ,[],0)).1,g.length<=400)/\
 (∀ l,inM 16 t=some l->∀ U a,Same H a->IsT 15 (DF H) a U l->Q (.ref U) a)/\(inM 16 t=none->PE71 K H E)
def zf(h:j0 K vs H Q E):vs.length=1:=by
 obtain⟨_,rfl,_⟩:=h;rfl
def  j1(K:Frag)(E:XK):TS:=#[":h:y'qe=oa0dky'pe#17 =oa0abi#1 d"]
def zg(h:j0 K vs H Q E):j1 K E (eD9 Q) (start ["text"] vs) H:=by
 obtain⟨t,rfl,b,a,c,q,d⟩:=h;change j1 K E _ [some<|.str<|tx t] H;unfold j1;exists(_,rfl,?_);exists(16,t,1,rfl,rfl,b,a,c,by decide,q,d)
local macro_rules|`(tactic|walk_at "w")=>wk9 ws5
def rO:∀(rows:List (List Nat)),(∀ r∈rows,r.length<=400)->(catL 32 rows).length<=401*rows.length
 | [],_=>Qg _
 | [x],h=>by
  have:=h x Pn;change x.length<=401*1;lia
 | x::y::r,h=>by
  have h1:=h x Pn;have b:=rO (y::r) λz a=>h z<|Pm _ a;have e:catL 32 (x::y::r)=x++32::catL 32 (y::r):=by first | rfl | simp[catL]
  rw[e,Pq,PR,PR];lia
def fq:d:=λvs H Q E=>∃(w:List Nat) (a b:Int),vs=[.str<|tx w,.int a,.int b]/\WdOk w/\(∀ n,numW w=some n->inW (some n) a b=true->∀ c,Same H c->Q (.int n) c)/\(inW (numW w) a b=false->RE K H E)
variable{K:Frag}{vs:List V}{H:Hp}{Q:VK}{E:XK}
def tW(h:fq K vs H Q E):vs.length=3:=by
 obtain⟨_,_,_,rfl,_⟩:=h;rfl
def  gM(K:Frag)(a:EA)(E:XK):TS:=#[":hq,'nea0dl#3 hrMtc~V3bSMtc<31tc>32Bo~fabfg`0dsk3",s!"a number of the rule is none, or beyond its bounds"]
section
variable{o1 o2 o3:List Addr}{K:Frag}{a:EA}{vs:List V}{H:Hp}{Q:VK}{E:XK}(RF:ag K a "NoFloor" a.NoFloor o1)(RR:ag K a "NoRule" a.NoRule o2)(RP:ag K a "NoPuzzle" a.NoPuzzle o3)
include RF RR RP
def tX(h:fq K vs H Q E):gM K a E (eD9 Q) (start ["word","least","most","number"] vs) H:=by
 obtain⟨w,d,c,rfl,W,j,k⟩:=h;change gM K a E _ [some<|.str<|tx w,⇑d,⇑c,none] H;unfold gM;exists(w,rfl,W,λf i=>?_);have b:inW (numW w) d c=false->∀(vs:List V),vs.length=1->vs.length<=sizeLine/\E (.ref a.NoRule) none f:=λl vs m=>(bi #[4],k l _ RR.g _ i)
 cases e:numW w with
 | none=>
  change tIfS _ _ _ _ [some<|.str<|tx w,⇑d,⇑c,some .non] f;rw[aT];symm;rw[bf];exists b (by rw[e];rfl) _ rfl
 | some n=>
  change tIfS _ _ _ _ [some<|.str<|tx w,⇑d,⇑c,⇑n] f;rw[aT];symm;rw[Pl (show ¬ V.int n=V.non from λe=>nomatch e)];show iteF ?_;by_cases h1:(n:Int)<d
  . rw[Po h1];show iteT ?_;rw[bf];exists b (by rw[e];unfold inW;simp;lia) _ rfl
  rw[Pl h1];show iteF ?_;by_cases h2:c < (n:Int)
  . rw[Po h2];show iteT ?_;rw[bf];exists b (by rw[e];unfold inW;simp;lia) _ rfl
  rw[Pl h2];show iteF ?_;exists j n e (by unfold inW;simp;lia) _ i
end
def fH:d:=λvs H Q E=>∃(p:Addr) (a:List (List Nat)) (b c:Int),vs=[.ref p,.int b,.int c]/\H p=↥((a.map tx).map V.str)/\(∀ w∈a,WdOk w)/\
 (∀ w r n,a=w::r->numW w=some n->inW (some n) b c=true->∀ d,Same H d->Q (.int n) d)/\((∀ w r n,a=w::r->numW w=some n->inW (some n) b c=false)->RE K H E)
def vn(h:fH K vs H Q E):vs.length=3:=by
 obtain⟨_,_,_,_,rfl,_⟩:=h;rfl
def  io(K:Frag)(a:EA)(E:XK):TS:=#[":hrtcxe0udBo~fabfg`0dsky're=oacm0bi#0 a1a2d",s!"the rule has too few words"]
def  WdOk.strs{a:List (List Nat)}(h:∀ w∈a,WdOk w):∀ x∈a.map tx,PyData.strOk x=true:=WOk.strs λw b=>(h w b).asc
def  pC(m:Int)(w:List Nat):Bool:=inW (numW w) 0 (m-1)
def  celW(w:List Nat):Int:=((numW w).getD 0:Nat)
def  accT(m:Int)(a:List (List Nat)):Bool:=!decide (a=[])&&a.all (pC m)&&decide ((a.map celW).Nodup)
def jx:d:=λvs H Q E=>∃(a p:Addr) (h w g:Int) (b:List (List Nat)),vs=[.ref a,.ref p]/\IsFl H a h w g/\FlOk h w g/\H p=↥((b.map tx).map V.str)/\b.length<=100/\(∀ w∈b,WdOk w)/\
 (accT (h*w) b=true->∀ l c,Same H c->H l=none->c l=↥((b.map celW).map V.int)->Q (.ref l) c)/\(accT (h*w) b=false->RE K H E)
def xL(h:jx K vs H Q E):vs.length=2:=by
 obtain⟨_,_,_,_,_,_,rfl,_⟩:=h;rfl
def  jN(K:Frag)(a:EA)(E:XK):TS:=#[":hrtcxe2udBo~fabfg`0dshrtcIe{u2vHa2dBo~fabfg`1dsk2",s!"the rule tells no cell",s!"the rule tells a cell twice"]
def  jy(K:Frag)(a:EA)(E:XK):TS:=#[":h'm#2 &--0 Ue1l#1 Ny're=oa1abi#0 ac~s,~rea2dbi#1 d{veKo"]
def xM{l:∅}:decide (((cntD l:Nat):Int)=((l.length:Nat):Int))=decide l.Nodup:=by
 have:=Ht l;by_cases h:l.Nodup
 . rw[Po h,Po (by rw[this.mpr h])]
 . rw[Pl h,Pl<|λz=>h<|this.mp #[4]]
def  qw(m:Int)(nm:List Nat)(a:List (List Nat)):Option ∅:=
 if tx nm∈fC then(if a=[] then some (rngL 0 m) else none) else if accT m a=true then some (a.map celW) else none
def kF:d:=λvs H Q E=>∃(a p:Addr) (h w g:Int) (d:List Nat) (b:List (List Nat)),vs=[.ref a,.str<|tx d,.ref p]/\IsFl H a h w g/\FlOk h w g/\H p=↥((b.map tx).map V.str)/\b.length<=100/\(∀ w∈b,WdOk w)/\
 (∀ e,qw (h*w) d b=some e->∀ l c,Same H c->H l=none->c l=↥(e.map V.int)->Q (.ref l) c)/\(qw (h*w) d b=none->RE K H E)
def AL(h:kF K vs H Q E):vs.length=3:=by
 obtain⟨_,_,_,_,_,_,_,rfl,_⟩:=h;rfl
def  kG(K:Frag)(a:EA)(E:XK):TS:=#[":hrwX{w~C1ky{xe=oa0a2dshrtcIe2udBo~fabfg`0dsk{ya,~rea0dd",s!"the rule has too many words"]
def  kOf(nm:List Nat):Option RK:=if nm=nmC .Unlike then some .Unlike else if nm=nmC .Sum then some .Sum else if nm=nmC .Rising then some .Rising else if nm=nmC .Seen then some .Seen else if nm=nmC .Count then some .Count else if nm=nmC .Joined then some .Joined else if nm=nmC .NoSquare then some .NoSquare else if nm=nmC .Ring then some .Ring else none
def lT:e:=λvs H Q E=>∃(p W C:Addr) (a:List Nat) (d:List (List Nat)) (e:∅) (n m:Int),vs=[.ref p,.ref W,.ref C,.int n,.int m]/\H W=↥(((a::d).map tx).map V.str)/\H C=↥(e.map V.int)/\
 (∀ k,kOf a=some k->c.ok k=true/\∀ r b,Same H b->H r=none->IsRule b c k r p (a::d) e n m->Q (.ref r) b)/\(kOf a=none->RE K H E)
def Cr{c:TJ}(h:lT K c vs H Q E):vs.length=5:=by
 obtain⟨_,_,_,_,_,_,_,_,rfl,_⟩:=h;rfl
def  lU(K:Frag)(c:TJ)(a:EA)(E:XK):TS:=#[":hqcm1bi#0 l#5 hrtcxe5bfg`0k*~g{z~hen=Ya0a1a2a3a4dshrtcxe5bfg`1k*~g{A~hen=Ya0a1a2a3a4dshrtcxe5bfg`2k*~g{B~hen=Ya0a1a2a3a4dshrtcxe5bfg`3k*~g{C~hen=Ya0a1a2a3a4dshrtcxe5bfg`4k*~g{D~hen=Ya0a1a2a3a4dshrtcxe5bfg`5k*~g{E~hen=Ya0a1a2a3a4dshrtcxe5bfg`6k*~g{F~hen=Ya0a1a2a3a4dshrtcxe5bfg`7k*~g{G~hen=Ya0a1a2a3a4dsBo~fabfg`8d",s!"unlike",s!"sum",s!"rising",s!"seen",s!"count",s!"joined",s!"nosquare",s!"ring",s!"no rule begins with this word"]
section
variable{o1 o2 o3:List Addr}{K:Frag}{c:TJ}{a:EA}{vs:List V}{H:Hp}{Q:VK}{E:XK}(RF:ag K a "NoFloor" a.NoFloor o1)(RR:ag K a "NoRule" a.NoRule o2)(RP:ag K a "NoPuzzle" a.NoPuzzle o3)
include RF RR RP
def vo(h:fH K vs H Q E):io K a E (eD9 Q) (start ["words","least","most"] vs) H:=by
 obtain⟨p,t,k,d,rfl,i,f,s,m⟩:=h;change io K a E _ [↑p,⇑k,⇑d] H;unfold io;rw[aB,aT];exists(bi #[1],λl u=>?_);have b:Same H (upd H l<|.lst []):=(Pr H).laid u;show Ku (b _ _ i) (ys:=[]) ak (WdOk.strs f) (λx y=>nomatch y) ?_;generalize upd H l (.lst [])=H1 at*;symm
 cases t with
 | nil=>
  show iteT ?_;rw[bf];exists(lnR rfl,m (λw r n e=>nomatch e) _ RR.g _ b)
 | cons w r=>
  rw[Pl (by simp)];show iteF ?_;symm;have z:atI (((w::r).map tx).map V.str) 0=some (V.str<|tx w):=aJ (j:=0) rfl;show ixL (b _ _ i) z ?_;exists(w,k,d,rfl,f w Pn,λn e1 e2 v c=>s w r n rfl e1 e2 _<|b.trans c,λo C q v c=>m (λB A n e e1=>?_) C q _<|b.trans c);cases e;rw[e1]at o;show o
def tY{p f l:Addr}{b:List (List Nat)}(h:H l=↥((b.map celW).map V.int))(n:b.length<=100)(k:b≠[]->(b.map celW).Nodup->∀ i,Same H i->Q (.ref l) i)(j:(b=[]\/¬ (b.map celW).Nodup)->RE K H E):
  jN K a E (eD9 Q) [↑f,↑p,↑l] H:=by
 unfold jN;symm;rw[aT];exists(bi #[1],λz m=>?_);have c:Same H (upd H z<|.lst []):=(Pr H).laid m;show Im (c _ _ h) (ys:=[]) ak ?_;generalize upd H z (.lst [])=H2 at*;symm;by_cases d:b=[]
 . rw[Po (by rw[d];rfl)];show iteT ?_;rw[bf];exists(lnR rfl,j (.inl d) _ RR.g _ c)
 rw[Pl (by simpa using d)];show iteF ?_;symm;rw[aT];exists(l,_,rfl,c _ _ h,by rw[Pj];lia,?_);rw[ij<|c _ _ h,Pj];symm;rw[xM];by_cases e:(b.map celW).Nodup
 . rw[Po e];show iteF ?_;exists k d e _ c
 . rw[Pl e];show iteT ?_;rw[bf];exists(lnR rfl,j (.inr e) _ RR.g _ c)
def xN(h:jx K vs H Q E):jy K a E (eD9 Q) (start ["floor","words","cells"] vs) H:=by
 obtain⟨f,p,h,w,g,m,rfl,A,F,I,S,R,U,M⟩:=h;obtain⟨h0,h1,W,Y,T,X,g1⟩:=F;change jy K a E _ [↑f,↑p,none] H;unfold jy;exists((_,Qm I),?_)
 show mU (xs:=(m.map tx).map V.str) (λl i σ c=>(∃ N,σ=[none,N,↑f])/\Same H c/\(∀ j x,j<i->m[j]? =some x->pC (h*w) x=true)/\c l=↥(((m.take i).map celW).map V.int))
  (λl q=>((none,rfl),(Pr H).laid q,λj x r=>absurd r<|Nat.not_lt_zero j,by rw[ak];rfl)) (λl i σ c _ _ x=>x.2.1.seq<|Qm I) ?_ ?_
 . rintro l i x σ L q t ⟨⟨N,rfl⟩,k,b,s⟩;rw[Pp,Pp]at t
   cases e:m[i]? with
   | none=>rw[e]at t;cases t
   | some y=>
    rw[e]at t;cases t;have Z:=(Ps.mp e).1;have J:=PD e;rw[aH];change tTrue [none,some<|.str<|tx y,↑f] L _;exists(f,h,w,g,rfl,k _ _ A,h0,h1,?_);exists(y,0,_,rfl,R y J,λn e1 e2 P u=>?_,λd C B P u=>M ?_ C B _<|k.trans u)
    . have G:=k.trans u;show(_,u _ _ s,by rw[Pj,Pj,QB];show aZ #[4],(_,rfl),G.own q,λj z r o=>?_,?_)
      . by_cases D:j<i
        . show b j z D o
        . have:j=i:=by lia
          subst this;rw[e]at o;cases o;unfold pC;rw[e1];show e2
      . rw[ak,Se,e];simp[celW,e1]
    . unfold accT
      have:m.all (pC<|h*w)=false:=by
       rw[Rc];intro z;have:=PL.mp z y J;unfold pC at this;rw[d]at this;cases this
      rw[this];simp
 . rintro l σ L q ⟨_,k,b,s⟩;rw[Pj,Pj,QU]at s;rw[Pj,Pj]at b
   have A:m.all (pC<|h*w)=true:=by
    rw[PL];intro z O;obtain⟨j,r,o⟩:=List.getElem_of_mem O;show b j z r (by rw[Px r,o])
   show tY RF RR RP s S (λe1 e2 c v=>U ?_ l c (k.trans v) q<|v _ _ s) (λd C B c v=>M ?_ C B c<|k.trans v)
   . unfold accT;rw[A,Pl e1,Po e2];rfl
   . unfold accT;rcases d with d | d
     . rw[Po d];rfl
     . rw[Pl d];simp
def AM(h:kF K vs H Q E):kG K a E (eD9 Q) (start ["floor","name","words"] vs) H:=by
 obtain⟨f,p,h,w,g,o,r,rfl,k,F,m,u,n,b,c⟩:=h;obtain⟨h0,h1,A,C,v,B,D⟩:=id F;have s:0<=h*w:=Sd #[4] #[4];change kG K a E _ [↑f,some<|.str<|tx o,↑p] H;unfold kG;rw[aB,aT];symm;by_cases j:tx o∈fC
 . unfold qw at b c;rw[PK j]at b c;rw[Po j];symm;rw[aT];exists(bi #[1],λz t=>?_);have d:Same H (upd H z<|.lst []):=(Pr H).laid t;show Kv (ys:=[]) (d _ _ m) ak (WdOk.strs n) (λx y=>nomatch y) ?_;generalize upd H z (.lst [])=H1 at*;symm;by_cases i:r=[]
   . rw[PK i]at b;rw[Po (by rw[i];rfl)];show iteF ?_;exists(f,h,w,g,rfl,d _ _ k,h0,h1,?_);exists(h*w,rfl,by lia,by lia,λl q=>?_);show b _ rfl l _ (d.laid q) (d.free q) ak
   . rw[PF i]at c;rw[Pl (by simpa using i)];show iteT ?_;rw[bf];exists(lnR rfl,c rfl _ RR.g _ d)
 . unfold qw at b c;rw[PF j]at b c;rw[Pl j];exists(f,p,h,w,g,r,rfl,k,F,m,u,n,λe=>b _ (by rw[PK e]),λe=>c (by rw[PF (by rw[e];show Pt)]))
def Cs(h:lT K c vs H Q E):lU K c a E (eD9 Q) (start ["floor","words","cells","amount","mark","name"] vs) H:=by
 obtain⟨p,W,C,b,s,J,n,m,rfl,d,o,r,F⟩:=h;have G:atI (((b::s).map tx).map V.str) 0=some (V.str<|tx b):=aJ (j:=0) rfl;change lU K c a E _ [↑p,↑W,↑C,⇑n,⇑m,none] H;unfold lU;exists ixL d G ?_
 have D:∀(l:List Nat) (t:TS) (u:TS) (D:Ends),(b=l->t D [↑p,↑W,↑C,⇑n,⇑m,some<|.str<|tx b] H)->(¬ b=l->u D [↑p,↑W,↑C,⇑n,⇑m,some<|.str<|tx b] H)->
   tIfS (tTest<|tOp (cEq K) (tVar 5)<|tC<|.str<|tx l) t u D [↑p,↑W,↑C,⇑n,⇑m,some<|.str<|tx b] H:=λl t u D h1 h2=>by
  rw[aT];symm;rw[lB];by_cases e:b=l
  . rw[Po e];show iteT (h1 e)
  . rw[Pl e];show iteF (h2 e)
 have R:∀(k:RK) (D:Ends),D.rt=Q->kOf b=some k->tRet (tMake (c.A k) (bn K c) [] E0<|tCons (tVar 0)<|tCons (tVar 1)<|tCons (tVar 2)<|tCons (tVar 3)<|tCons (tVar 4) tNil) D [↑p,↑W,↑C,⇑n,⇑m,some<|.str<|tx b] H:=λk D w i=>by
  obtain⟨f,q⟩:=r k i;have mk:=Jd (K:=K) f d o q;symm;rw[w];show mk
 show D _ _ _ _ (λe=>R .Unlike _ rfl (by rw[e];rfl)) λe1=>?_;exists D _ _ _ _ (λe=>R .Sum _ rfl (by rw[e];rfl)) λe2=>?_;exists D _ _ _ _ (λe=>R .Rising _ rfl (by rw[e];rfl)) λI=>?_;exists D _ _ _ _ (λe=>R .Seen _ rfl (by rw[e];rfl)) λz=>?_;exists D _ _ _ _ (λe=>R .Count _ rfl (by rw[e];rfl)) λy=>?_;exists D _ _ _ _ (λe=>R .Joined _ rfl (by rw[e];rfl)) λx=>?_;exists D _ _ _ _ (λe=>R .NoSquare _ rfl (by rw[e];rfl)) λv=>?_;exists D _ _ _ _ (λe=>R .Ring _ rfl (by rw[e];rfl)) λB=>?_;symm;rw[bf];exists(lnR rfl,F ?_ _ RR.g _<|Pr H);unfold kOf;rw[PF (show ¬ b=nmC .Unlike from e1),PF (show ¬ b=nmC .Sum from e2),PF (show ¬ b=nmC .Rising from I),PF (show ¬ b=nmC .Seen from z),PF (show ¬ b=nmC .Count from y),PF (show ¬ b=nmC .Joined from x),PF (show ¬ b=nmC .NoSquare from v),PF (show ¬ b=nmC .Ring from B)]
end
def  oI(m:Int)(nm:List Nat)(a:List (List Nat)):Option (RK × ∅):=match qw m nm a,kOf nm with
 | some cs,some k=>some (k ,cs)
 | _,_=>none
def  rP(m g:Int)(nm:List Nat)(a:List (List Nat)):Option (Nat × RK × ∅):=
 if tx nm∈iE then(match a with
  | []=>none
  | x::r=>if inW (numW x) 1 g=true then(oI m nm r).map λy=>((numW x).getD 0 ,y) else none)
 else(oI m nm a).map λy=>(0 ,y)
def  Ct(m g:Int)(nm:List Nat)(a:List (List Nat)):Option (Nat × Nat × RK × ∅):=
 if tx nm∈fX then(match a with
  | []=>none
  | x::r=>if inW (numW x) 0 99=true then(rP m g nm r).map λy=>((numW x).getD 0 ,y) else none)
 else(rP m g nm a).map λy=>(0 ,y)
def  accR(m g:Int):List (List Nat)->Option (Nat × Nat × RK × ∅)
 | []=>none
 | nm::rest=>Ct m g nm rest
structure LnOk(ws:List (List Nat)):Prop where
 ne:ws≠[]
 len:ws.length<=100
 fr:∀ w∈ws,32∉w
 wd:∀ w∈ws,WdOk w
def  NoStr(H:Hp)(v:V):Prop:=v=.non\/(∃ i,v=.int i)\/(∃ b,v=.bl b)\/∃ q a,v=.ref q/\(H q=↥a\/H q=some (.tup a))
variable{H':Hp}{v:V}
def NoStr.same(h:NoStr H v)(s:Same H H'):NoStr H' v:=by
 rcases h with h | h | h | ⟨q,a,h1,h2⟩
 . show .inl h
 . show .inr (.inl h)
 . show .inr (.inr<|.inl h)
 . show .inr (.inr<|.inr (q,a,h1,h2.imp (λz=>s _ _ z) λz=>s _ _ z))
def Gv(h:NoStr H v)(q:Q (.bl false) H):kIsi [v,.ty "str"] H Q:=by
 rcases h with rfl | ⟨i,rfl⟩ | ⟨b,rfl⟩ | ⟨p,a,rfl,h⟩
 . show(rfl,q)
 . show(rfl,q)
 . show(rfl,q)
 . show(rfl,?_);unfold kA;rcases h with h | h
   . dsimp only;rw[h];show q
   . dsimp only;rw[h];show q
def j2:e:=λvs H Q E=>∃(p:Addr) (v:V) (h w g:Int),vs=[.ref p,v]/\IsFl H p h w g/\FlOk h w g/\
 ((∃ a,v=.str (tx<|catL 32 a)/\LnOk a/\(∀ n m k b,accR (h*w) g a=some (n ,m,k,b)->c.ok k=true/\∀ r H',Same H H'->H r=none->IsRule H' c k r p a b n m->Q (.ref r) H')/\(accR (h*w) g a=none->RE K H E))\/(NoStr H v/\RE K H E))
def zh{c:TJ}(h:j2 K c vs H Q E):vs.length=2:=by
 obtain⟨_,_,_,_,_,rfl,_⟩:=h;rfl
def  kf(K:Frag)(c:TJ)(a:EA)(E:XK):TS:=#[":ky{Hen=oa0a2ay{Ie=oa0a3a4da5a6d"]
def  kg(K:Frag)(c:TJ)(a:EA)(E:XK):TS:=#[":hrwX{JE3hqy'se=oa4abi#1 acm0bi#2 dl#6 q[]4/bi#1 ~el#4 s{KenKo"]
def  kh(K:Frag)(c:TJ)(a:EA)(E:XK):TS:=#[":hqcm2bi#0 l#3 hq[]2/bi#1 ~el#4 hqbi#0 l#5 hqbi#0 l#6 hrwX{LE3hqy'se=oa4abi#0 abi#99 dl#5 q[]4/bi#1 ~el#4 s{MenKo"]
def  j3(K:Frag)(c:TJ)(a:EA)(E:XK):TS:=#[":hrGwvVa1abTDdBo~fabfg`0dshqCeD~a1abfg`1dl#2 {NenKo",s!"a rule is read from a text",[32]]
variable{p:Addr}{xs:List V}
def wD(b:H p=↥xs)(q:∀ l,H l=none->Q (.ref l) (upd H l<|.lst<|xs.drop 1)):lz (.ref p) (some 1) none H Q:=by
 show xi b λl a=>?_;rw[B3];show q l a
abbrev QR(c:TJ)(H:Hp)(Q:VK)(p:Addr)(a:List (List Nat))(k:RK)(cs:∅)(n m:Int):Prop:=c.ok k=true/\∀ r H',Same H H'->H r=none->IsRule H' c k r p a cs n m->Q (.ref r) H'
variable{cs:∅}
def  QR.same{c:TJ}{a:Hp}{b:List (List Nat)}{k:RK}{n m:Int}(h:QR c H Q p b k cs n m)(s:Same H a):QR c a Q p b k cs n m:=(h.1,λr H' d e x=>h.2 r H' (s.trans d) (s.free e) x)
def  RE.same{a:Hp}(h:RE K H E)(s:Same H a):RE K a E:=λC b H' c=>h C b H' (s.trans c)
section
variable{o1 o2 o3:List Addr}{K:Frag}{c:TJ}{a:EA}{vs:List V}{H:Hp}{Q:VK}{E:XK}(RF:ag K a "NoFloor" a.NoFloor o1)(RR:ag K a "NoRule" a.NoRule o2)(RP:ag K a "NoPuzzle" a.NoPuzzle o3)
def nJ {p W R:Addr} {h w g:Int} {nm:List Nat} {f b:List (List Nat)} {n m:Nat} {t:V} (F:FlOk h w g) (q:IsFl H p h w g) (s:H W=↥(((nm::f).map tx).map V.str)) (v:H R=↥((b.map tx).map V.str)) (j:b.length<=100) (r:∀ w∈b,WdOk w)
  (u:∀ k cs,oI (h*w) nm b=some (k ,cs)->QR c H Q p (nm::f) k cs n m) (o:oI (h*w) nm b=none->RE K H E):
  kf K c a E (eD9 Q) [↑p,some t,↑W,some<|.str<|tx nm,↑R,⇑n,⇑m] H:=by
 unfold kf;exists(p,R,h,w,g,nm,b,rfl,q,F,v,j,r,λcs d l y i j x=>?_,λd=>o (by unfold oI;rw[d]));exists(p,W,l,nm,f,cs,n,m,rfl,i _ _ s,x,λk e=>(u k cs (by unfold oI;rw[d,e])).same i,λe=>(o (by unfold oI;rw[d,e])).same i)
def nK {p W R:Addr} {h w g:Int} {nm:List Nat} {B b:List (List Nat)} {n:Nat} {G:V} (F:FlOk h w g) (l:IsFl H p h w g) (y:H W=↥(((nm::B).map tx).map V.str)) (s:H R=↥((b.map tx).map V.str)) (u:b.length<=100) (o:∀ w∈b,WdOk w)
  (i:∀(m:Nat) k cs,rP (h*w) g nm b=some (m ,k,cs)->QR c H Q p (nm::B) k cs n m) (d:rP (h*w) g nm b=none->RE K H E):
  kg K c a E (eD9 Q) [↑p,some G,↑W,some<|.str<|tx nm,↑R,⇑n,⇑0] H:=by
 unfold kg;rw[aB,aT];symm;unfold rP at i d;by_cases j:tx nm∈iE
 . rw[PK j]at i d;rw[Po j];exists ixT l (v:=V.int g) rfl ?_;exists(R,b,1,g,rfl,s,o,λx r m D L J A t=>?_,λM=>d ?_)
   . subst D;dsimp only at i d;rw[L]at i d;rw[PK J]at i d;exists wD (t _ _ s) λC q=>?_;obtain⟨H2,z9,s2,e2⟩:∃ z,upd A C (.lst ((((x::r).map tx).map V.str).drop 1))=z/\Same A z/\z C=↥((r.map tx).map V.str):=cP _ q;rw[z9];have f:=t.trans s2;show nJ F (f _ _ l) (f _ _ y) e2 (by simp at u;lia) (λz I=>o z<|Pm _ I) (λk cs e=>(i m k cs (by rw[e];rfl)).same f) (λe=>(d (by rw[e];rfl)).same f)
   . cases b with
     | nil=>rfl
     | cons x r=>
      dsimp only
      cases e:numW x with
      | none=>rfl
      | some m=>rw[PF];rw[M x r m rfl e];show Pt
 . rw[PF j]at i d;rw[Pl j];exists nJ (m:=0) F l y s u o (λk cs e=>i 0 k cs (by rw[e];rfl)) (λe=>d (by rw[e];rfl))
def vp {p W:Addr} {h w g:Int} {o:List (List Nat)} {I:V} (F:FlOk h w g) (y:IsFl H p h w g) (q:H W=↥((o.map tx).map V.str)) (L:LnOk o)
  (i:∀(n m:Nat) k cs,accR (h*w) g o=some (n ,m,k,cs)->QR c H Q p o k cs n m) (d:accR (h*w) g o=none->RE K H E):
  kh K c a E (eD9 Q) [↑p,some I,↑W,none,none,none,none] H:=by
 obtain⟨l,b,rfl⟩:∃ l b,o=l::b:=by
  cases o with
  | nil=>show absurd rfl L.ne
  | cons x r=>show(x,r,rfl)
 have M:atI (((l::b).map tx).map V.str) 0=some (V.str<|tx l):=aJ (j:=0) rfl;have u:∀ w∈b,WdOk w:=λz t=>L.wd z<|Pm _ t;have B:b.length<=100:=by have:=L.len;simp at this;lia
 unfold kh;exists ixL q M ?_;exists wD q λR O=>?_;obtain⟨H1,z9,s1,e1⟩:∃ z,upd H R (.lst ((((l::b).map tx).map V.str).drop 1))=z/\Same H z/\z R=↥((b.map tx).map V.str):=cP _ O;rw[z9];symm;rw[aT];symm;have P:accR (h*w) g (l::b)=Ct (h*w) g l b:=rfl;rw[P]at i d;unfold Ct at i d;by_cases s:tx l∈fX
 . rw[PK s]at i d;rw[Po s];exists(R,b,0,99,rfl,e1,u,λx r n G J N A C=>?_,λS=>(d ?_).same s1)
   . subst G;dsimp only at i d;rw[J]at i d;rw[PK N]at i d;exists wD (C _ _ e1) λD v=>?_;obtain⟨H3,z9,s3,e2⟩:∃ z,upd A D (.lst ((((x::r).map tx).map V.str).drop 1))=z/\Same A z/\z D=↥((r.map tx).map V.str):=cP _ v;rw[z9];have f:=(s1.trans C).trans s3;show nK F (f _ _ y) (f _ _ q) e2 (by simp at B;lia) (λz t=>u z<|Pm _ t) (λm k cs e=>(i n m k cs (by rw[e];rfl)).same f) (λe=>(d (by rw[e];rfl)).same f)
   . cases b with
     | nil=>rfl
     | cons x r=>
      dsimp only
      cases e:numW x with
      | none=>rfl
      | some m=>rw[PF];rw[S x r m rfl e];show Pt
 . rw[PF s]at i d;rw[Pl s];exists nK (n:=0) F (s1 _ _ y) (s1 _ _ q) e1 B u (λm k cs e=>(i 0 m k cs (by rw[e];rfl)).same s1) (λe=>(d (by rw[e];rfl)).same s1)
include RF RR RP
def zi(h:j2 K c vs H Q E):j3 K c a E (eD9 Q) (start ["floor","line","words","name","rest","amount","mark"] vs) H:=by
 obtain⟨p,v,h,w,g,rfl,o,F,h⟩:=h;change j3 K c a E _ [↑p,some v,none,none,none,none,none] H;unfold j3;rw[aB,aT];symm;rcases h with ⟨b,rfl,L,r,j⟩ | ⟨l,j⟩
 . have d:Txt.split (tx<|catL 32 b) (tx [32])=b.map tx:=ro L.ne L.fr;have t:=L.len;have i:=rO b λz s=>(L.wd z s).len;exists(dg,?_);rw[jW,d];show(by rw[aF];decide,by rw[aF];show Qd<|QG i<|QG (SH 401 t) #[1],by rw[Pj];show bi #[4],λW q=>?_);have f:Same H (upd H W<|.lst<|(b.map tx).map V.str):=(Pr H).laid q;show vp F (f _ _ o) ak L (λn m k cs e=>QR.same (r n m k cs e) f) λe=>(j e).same f
 . show Gv l ?_;symm;rw[bf];exists(lnR rfl,j _ RR.g _<|Pr H)
end
variable{n:Nat}
def rQ(h:n<100):numW (numC n)=some n:=by
 have t:((List.range 100).all λ(n:Nat)=>decide<|numW (numC n)=some n)=true:=by decide+kernel
 show Qx (PL.mp t n<|Qk.mpr h)
def  wE(h:n<100):WdOk (numC n):=(Pk jY #[1],Jb h)
def HM(h:n<100):celW (numC n)=n:=by unfold celW;rw[rQ h];rfl
def  Jy(k:RK):WdOk (nmC k):=(by cases k <;> decide,LC k)
def KS{k:RK}(h:k≠.Rule):kOf (nmC k)=some k:=by
 cases k with
 | Rule=>show absurd rfl h
 | _=>decide
variable{ns:List Nat}
def DS(h:∀ n∈ns,n<100):(ns.map numC).map celW=ns.map λ(n:Nat)=>(n:Int):=by
 rw[P8];show QK λn a=>HM (h n a)
variable{g:Int}
def Jz{k:RK}{h w:Int}{m:Nat}(F:FlOk h w g)(O:F7 k h w g n m ns cs):accR (h*w) g (rowW k n m ns)=some (n ,m,k,cs):=by
 obtain⟨k0,z,p,d,i,e,c,q⟩:=O
 have r:m<100:=by
  by_cases l:sgnK k=true
  . have:=(d l).2;have:=F.g1;lia
  . have:=i (by simpa using l);lia
 have o:oI (h*w) (nmC k) (ns.map numC)=some (k ,cs):=by
  unfold oI qw;rw[KS k0];have a:=Kw k
  cases b:allK k with
  | true=>
   rw[b]at a;obtain⟨rfl,rfl⟩:=e.all b;rw[PK<|Qx a];rfl
  | false=>
   rw[b]at a;obtain⟨s,A,t,v,rfl⟩:=e.told b;rw[PF<|RS a,PK,DS c];unfold accT;rw[DS c,Po<|EI v,Pl (by simpa using s)]
   have:(ns.map numC).all (pC<|h*w)=true:=by
    rw[PL];intro x u;obtain⟨y,f,rfl⟩:=PM.mp u;unfold pC;rw[rQ<|c y f];have:=t y f;unfold inW;simp;lia
   rw[this];rfl
 have j:rP (h*w) g (nmC k) ((if sgnK k then [numC m] else [])++ns.map numC)=some (m ,k,cs):=by
  unfold rP;have a:=Ky k
  cases b:sgnK k with
  | true=>
   rw[b]at a;rw[PK<|Qx a];have:=d b;change(if inW (numW<|numC m) 1 g=true then(oI (h*w) (nmC k)<|ns.map numC).map λy=>((numW<|numC m).getD 0 ,y) else none)=_;rw[rQ r,PK (by unfold inW;simp;lia),o];rfl
  | false=>
   rw[b]at a;rw[PF<|RS a];have:=i b;subst this;change(oI (h*w) (nmC k)<|ns.map numC).map _=_;rw[o];rfl
 change Ct (h*w) g (nmC k) ((if numK k then [numC n] else [])++(if sgnK k then [numC m] else [])++ns.map numC)=_;unfold Ct;have a:=Kx k
 cases b:numK k with
 | true=>
  rw[b]at a;rw[PK<|Qx a];change(if inW (numW<|numC n) 0 99=true then(rP (h*w) g (nmC k)<|(if sgnK k then [numC m] else [])++ns.map numC).map λy=>((numW<|numC n).getD 0 ,y) else none)=_;rw[rQ #[4],PK (by unfold inW;simp;lia),j];rfl
 | false=>
  rw[b]at a;rw[PF<|RS a];have:=p b;subst this;change(rP (h*w) g (nmC k)<|(if sgnK k then [numC m] else [])++ns.map numC).map _=_;rw[j];rfl
def RR.ln{r:RR}{h w:Int}(F:FlOk h w g)(O:r.Ok h w g):LnOk r.ws:=by
 have b:r.m<100:=by
  by_cases c:sgnK r.k=true
  . have:=(O.m0 c).2;have:=F.g1;lia
  . have:=O.mz (by simpa using c);lia
 have d:=vU (k:=r.k) (n:=r.n) (m:=r.m) O.len;show(by unfold RR.ws rowW;simp,d.1,F8 (by have:=O.n0;lia) b O.ns0,λz a=>?_);unfold RR.ws rowW at a;rcases Pw.mp a with rfl | a
 . show Jy _
 rcases PN.mp a with a | a
 . rcases PN.mp a with a | a
   . split at a
     . rw[PJ.mp a];show wE (by have:=O.n0;lia)
     . cases a
   . split at a
     . rw[PJ.mp a];show wE b
     . cases a
 . obtain⟨y,e,rfl⟩:=PM.mp a;show wE (O.ns0 y e)
def  BadLn(H:Hp)(h w g:Int)(v:V):Prop:=NoStr H v\/∃ a,v=.str (tx<|catL 32 a)/\LnOk a/\accR (h*w) g a=none
def  BadLn.same{h w:Int}(x:BadLn H h w g v)(s:Same H H'):BadLn H' h w g v:=x.imp (λz=>z.same s) id
def  LnO(H:Hp)(h w g:Int)(v:V):Option RR->Prop
 | some r=>v=.str r.txt/\r.Ok h w g
 | none=>BadLn H h w g v
def LnO.same{h w:Int}{o:Option RR}(x:LnO H h w g v o)(s:Same H H'):LnO H' h w g v o:=by
 cases o with
 | some r=>show x
 | none=>show BadLn.same x s
structure Lns(H:Hp)(h w g:Int)(xs:List V)(os:List (Option RR)):Prop where
 len:xs.length=os.length
 at_:∀(i:Nat) (v:V) (o:Option RR),xs[i]? =some v->os[i]? =some o->LnO H h w g v o
variable{os:List (Option RR)}
def  Lns.same{h w:Int}(x:Lns H h w g xs os)(s:Same H H'):Lns H' h w g xs os:=(x.len,λi v o h1 h2=>(x.at_ i v o h1 h2).same s)
abbrev bB(K:Frag)(x:Str)(H:Hp)(E:XK):Prop:=∀ C,Glb K x C->∀ H',Same H H'->E (.ref C) none H'
def jz:e:=λvs H Q E=>∃(p a:Addr) (h w g:Int) (xs:List V) (os:List (Option RR)),vs=[.ref p,.ref a]/\IsFl H p h w g/\FlOk h w g/\H a=↥xs/\xs.length<=100/\(∀ k,k≠.Rule->c.ok k=true)/\Lns H h w g xs os/\
 (xs.length<=12->∀ rows,os=rows.map some->∀ l b H',Same H H'->H l=none->IsRules H' c p l b rows->Q (.ref l) H')/\(12<xs.length->bB K "NoPuzzle" H E)/\(xs.length<=12->none∈os->bB K "NoRule" H E)
def xO{c:TJ}(h:jz K c vs H Q E):vs.length=2:=by
 obtain⟨_,_,_,_,_,_,_,rfl,_⟩:=h;rfl
def  jO(K:Frag)(c:TJ)(a:EA)(E:XK):TS:=#[":kR&--0 Ue1l#1 Ny{Oen=oa2a1d"]
def  jA(K:Frag)(c:TJ)(a:EA)(E:XK):TS:=#[":hrtc>vHa1dbi#12 Bo~Wabfg`0ds{PenKo",s!"a puzzle has at most 12 rules"]
def jh:d:=λvs H Q E=>∃ h w g:Int,vs=[.int h,.int w,.int g]/\((FlOk h w g/\∀ p,H p=none->Q (.ref p) (upd H p<|.tup [.int h,.int w,.int g]))\/(¬ FlOk h w g/\bB K "NoFloor" H E))
def AN(h:jh K vs H Q E):vs.length=3:=by
 obtain⟨_,_,_,rfl,_⟩:=h;rfl
def  kH(K:Frag)(a:EA)(E:XK):TS:=#[":hrGw,~Bea0abi#6 dBo~vabfg`0dshrGw,~Bea1abi#6 dBo~vabfg`1dshrtc>cZ01bi#16 Bo~vabfg`2dshrGw,~Bea2abi#6 dBo~vabfg`3dskAa0a1a2d",s!"a floor is 1 to 6 cells high",s!"a floor is 1 to 6 cells wide",s!"a floor has at most 16 cells",s!"a floor has 1 to 6 signs"]
def gN:d:=λvs H Q E=>∃(p:Addr) (h w g:Int),vs=[.ref p]/\IsFl H p h w g/\((FlOk h w g/\∀ p,H p=none->Q (.ref p) (upd H p<|.tup [.int h,.int w,.int g]))\/(¬ FlOk h w g/\bB K "NoFloor" H E))
def tZ(h:gN K vs H Q E):vs.length=1:=by
 obtain⟨_,_,_,_,rfl,_⟩:=h;rfl
def  gO(K:Frag)(a:EA)(E:XK):TS:=#[":hrMGwvVa0abT~QdtcIevHa0dbi#3 Bo~vabfg`0dsky'te=oacm0bi#0 acm0bi#1 acm0bi#2 d",s!"a floor is a tuple of three numbers"]
def gP:d:=λvs H Q E=>∃(p a:Addr) (h w g:Int) (xs:∅),vs=[.ref p,.ref a]/\IsFl H p h w g/\FlOk h w g/\H a=↥(xs.map V.int)/\xs.length<=100/\((CluesOk h w g xs/\∀ l H',Same H H'->H l=none->H' l=↥(xs.map V.int)->Q (.ref l) H')\/(¬ CluesOk h w g xs/\bB K "NoPuzzle" H E))
def t3(h:gP K vs H Q E):vs.length=2:=by
 obtain⟨_,_,_,_,_,_,rfl,_⟩:=h;rfl
def  gQ(K:Frag)(a:EA)(E:XK):TS:=#[":hrGw,{Qea0a1abi#0 dBo~Wabfg`0dskv~oa1d",s!"the clues are no filling of the floor"]
def CluesOk.nfil{h w:Int}{xs:∅}(C:¬ CluesOk h w g xs):filB 0 g (h*w).toNat xs=false:=by
 rw[Rc];intro z;unfold filB at z;rw[P3,PP,PL]at z;show C (z.1,λx a=>by have:=z.2 x a;simpa using this)
section
variable{o1 o2 o3:List Addr}{K:Frag}{c:TJ}{a:EA}{vs:List V}{H:Hp}{Q:VK}{E:XK}(RF:ag K a "NoFloor" a.NoFloor o1)(RL:ag K a "NoRule" a.NoRule o2)(RP:ag K a "NoPuzzle" a.NoPuzzle o3)
def t4 {p A:Addr} {h w g:Int} {xs:List V} {os:List (Option L2.RR)} (B:IsFl H p h w g) (F:FlOk h w g) (O:H A=↥xs) (S:xs.length<=12) (hc:∀ k,k≠.Rule->c.ok k=true) (J:Lns H h w g xs os)
  (q1:∀ rows:List L2.RR,os=rows.map some->∀ l rs H',Same H H'->H l=none->IsRules H' c p l rs rows->Q (.ref l) H') (q2:none∈os->bB K "NoRule" H E):
  jO K c a E (eD9 Q) [↑p,↑A] H:=by
 unfold jO;exists((_,Qm O),?_)
 show mU (xs:=xs) (λl i σ H'=>(∃ U,σ=[none,U,↑p])/\Same H H'/\∃(rs:List Addr) (rows:List L2.RR),H' l=↥(rs.map V.ref)/\rs.length=i/\rows.length=i/\os.take i=rows.map some/\∀(j:Nat) (r:Addr) (x:L2.RR),rs[j]? =some r->rows[j]? =some x->IsRule H' c x.k r p x.ws x.cs x.n x.m)
  (λl S=>((none,rfl),(Pr H).laid S,[],[],by rw[ak];rfl,rfl,rfl,rfl,λj r x e=>by simp at e)) (λl i σ H' _ _ x=>x.2.1.seq<|Qm O) ?_ ?_
 . rintro l i v σ I q R ⟨⟨U,rfl⟩,b,rs,rows,s,D,f,d,o⟩;have hi:=(Ps.mp R).1;have ho:i<os.length:=by rw[← J.len];show hi
   have u:=Px ho;have L:=J.at_ i v _ R u;rw[aH];change tTrue [none,some v,↑p] I _;symm
   cases X:os[i] with
   | some y=>
    rw[X]at L u;obtain⟨ey,oy⟩:v=.str y.txt/\y.Ok h w g:=L;subst ey;have P:accR (h*w) g y.ws=some (y.n ,y.m,y.k,y.cs):=Jz F oy;show(p,_,h,w,g,rfl,b _ _ B,F,.inl (y.ws,rfl,y.ln F oy,λn m k cs e=>?_,λe=>(by rw[P]at e;cases e)));rw[P]at e;cases e;show(hc _ oy.k0,λr H2 t W xr=>?_);have aa:r≠l:=λz=>by rw[z,s]at W;cases W
    show(_,t _ _ s,by rw[Pj];show aZ #[4],(_,rfl),(b.trans t).own q,rs++[r],rows++[y],by rw[ak];simp,by simp[D],by simp[f],by rw[Se,d,u];simp,λj Y Z h1 h2=>?_);by_cases hj:j<rs.length
    . rw[PV hj]at h1;rw[PV #[4]]at h2;show((o j Y Z h1 h2).same t).lst (t _ _ s)
    . rw[P4 #[4]]at h1
      have M:j-rs.length=0:=by
       have:=(Ps.mp h1).1;simp at this;lia
      rw[M]at h1;rw[P4 #[4],show j-rows.length=0 by lia]at h2;simp at h1 h2;subst h1 h2;show xr.lst (t _ _ s)
   | none=>
    rw[X]at L u;have T:=q2<|PD u;rcases(show BadLn H h w g v from L) with hb | ⟨ws,e1,e2,e3⟩
    . show(p,v,h,w,g,rfl,b _ _ B,F,.inr (hb.same b,λC N H' G=>T C N H'<|b.trans G))
    . show(p,v,h,w,g,rfl,b _ _ B,F,.inl (ws,e1,e2,λn m k cs e=>(by rw[e3]at e;cases e),λ_ C N H' G=>T C N H'<|b.trans G))
 . rintro l σ I q ⟨_,b,rs,rows,s,D,f,d,o⟩;rw[J.len,QU]at d;show q1 rows d l rs I b q (s,by rw[D,f],o)
include RF RL RP
def xP(h:jz K c vs H Q E):jA K c a E (eD9 Q) (start ["floor","lines"] vs) H:=by
 obtain⟨p,A,h,w,g,xs,os,rfl,j,F,d,m,f,k,i,l,e⟩:=h;change jA K c a E _ [↑p,↑A] H;unfold jA;rw[aB,aT];symm;rw[ij d];symm;by_cases b:12<xs.length
 . rw[Po (show(12:Int) < ((xs.length:Nat):Int) by lia)];show iteT ?_;rw[bf];exists(lnR rfl,l b _ RP.g _<|Pr H)
 . rw[Pl (show ¬ (12:Int) < ((xs.length:Nat):Int) by lia)];show iteF ?_;show t4 j F d #[4] f k (i #[4]) (e #[4])
def AO(h:jh K vs H Q E):kH K a E (eD9 Q) (start ["high","wide","signs"] vs) H:=by
 obtain⟨h,w,g,rfl,q⟩:=h;have k:¬ FlOk h w g->bB K "NoFloor" H E:=λf=>q.elim (λz=>absurd z.1 f) λz=>z.2;have i:FlOk h w g->∀ p,H p=none->Q (.ref p) (upd H p<|.tup [.int h,.int w,.int g]):=λf=>q.elim (λz=>z.2) λz=>absurd f z.1;have b:¬ FlOk h w g->∀(j:List V),j.length=1->j.length<=sizeLine/\E (.ref a.NoFloor) none H:=λf j n=>(bi #[4],k f _ RF.g _<|Pr H);change kH K a E _ [⇑h,⇑w,⇑g] H;unfold kH;rw[aB,aT];exists(h,6,rfl,(_,rfl,?_));by_cases c:(decide (1<=h)&&decide (h<=6))=true
 . rw[c];show iteF ?_;rw[P3,PP,PP]at c;rw[aT];exists(w,6,rfl,(_,rfl,?_));by_cases d:(decide (1<=w)&&decide (w<=6))=true
   . rw[d];show iteF ?_;rw[P3,PP,PP]at d;rw[aT];exists(zY c.1 c.2,?_);by_cases l:16<h*w
     . rw[Po l];show iteT ?_;rw[bf];exists b (λz=>by have:=z.m;lia) _ rfl
     rw[Pl l];show iteF ?_;rw[aT];exists(g,6,rfl,(_,rfl,?_));by_cases e:(decide (1<=g)&&decide (g<=6))=true
     . rw[e];show iteF ?_;rw[P3,PP,PP]at e;exists(lnR rfl,i (c.1,c.2,d.1,d.2,by lia,e.1,e.2))
     . rw[Rc.mpr e];show iteT ?_;rw[bf];exists b (λz=>e (by simp[z.g0,z.g1])) _ rfl
   . rw[Rc.mpr d];show iteT ?_;rw[bf];exists b (λz=>d (by simp[z.w0,z.w1])) _ rfl
 . rw[Rc.mpr c];show iteT ?_;rw[bf];exists b (λz=>c (by simp[z.h0,z.h1])) _ rfl
def t5(h:gN K vs H Q E):gO K a E (eD9 Q) (start ["floor"] vs) H:=by
 obtain⟨p,h,w,g,rfl,b,q⟩:=h;change gO K a E _ [↑p] H;unfold gO;rw[aB,aT];exists BP b ?_;symm;rw[BG b,show(([V.int h,V.int w,V.int g]:List V).length:Int)=3 from rfl];exists ixT b (v:=V.int h) rfl ?_;exists ixT b (v:=V.int w) rfl ?_;exists ixT b (v:=V.int g) rfl ?_;exists(h,w,g,rfl,q)
def t6(h:gP K vs H Q E):gQ K a E (eD9 Q) (start ["floor","clues"] vs) H:=by
 obtain⟨p,A,h,w,g,xs,rfl,e,F,c,f,q⟩:=h;change gQ K a E _ [↑p,↑A] H;unfold gQ;rw[aB,aT];exists(p,A,h,w,g,0,xs,rfl,e,F,c,f,λi b=>?_);rcases q with ⟨C,q⟩ | ⟨C,q⟩
 . rw[C.fil];show(true,rfl,iteF ?_);exists tF (b _ _ c) λl d=>?_;show q l _ (b.laid d) (b.free d) ak
 . rw[CluesOk.nfil C];show(false,rfl,iteT ?_);rw[bf];exists(lnR rfl,q _ RP.g _ b)
end
abbrev Pres(x:Addr)(H H':Hp):Prop:=∀ y o,y≠x->H y=some o->H' y=some o
def Lns.pres{x C dx:Addr}{c:List (Str × V)}{h w:Int}(L:Lns H h w g xs os)(f:H x=some (.ins C dx c))(s:Pres x H H'):Lns H' h w g xs os:=by
 show(L.len,λi v o h1 h2=>?_);have z:=L.at_ i v o h1 h2
 cases o with
 | some r=>show z
 | none=>
  rcases(show BadLn H h w g v from z) with a | a
  . show Or.inl ?_;rcases a with a | a | a | ⟨q,d,e,a⟩
    . show .inl a
    . show .inr (.inl a)
    . show .inr (.inr<|.inl a)
    . have b:q≠x:=λz=>by rw[z,f]at a;rcases a with a | a <;> cases a
      show .inr (.inr<|.inr (q,d,e,a.imp (λz=>s _ _ b z) λz=>s _ _ b z))
  . show Or.inr a
abbrev EX(K:Frag)(x:Addr)(nm:Str)(H:Hp)(E:XK):Prop:=∀ C,Glb K nm C->∀ H',Pres x H H'->E (.ref C) none H'
def bU:f:=λvs H Q E=>∃(x f p a b:Addr) (h w g:Int) (xs:List V) (os:List (Option RR)) (e:∅),vs=[.ref x,.ref p,.ref a,.ref b]/\d.ok .Puzzle=true/\H x=some (.ins (d.A .Puzzle) f [])/\IsFl H p h w g/\H a=↥xs/\H b=↥(e.map V.int)/\xs.length<=100/\e.length<=100/\
 (∀ k,k≠.Rule->c.ok k=true)/\(FlOk h w g->Lns H h w g xs os)/\(¬ FlOk h w g->EX K x "NoFloor" H E)/\(FlOk h w g->12<xs.length->EX K x "NoPuzzle" H E)/\(FlOk h w g->xs.length<=12->none∈os->EX K x "NoRule" H E)/\(FlOk h w g->¬ CluesOk h w g e->xs.length<=12->(∃ rows:List RR,os=rows.map some)->EX K x "NoPuzzle" H E)/\
 (∀ rows:List RR,FlOk h w g->CluesOk h w g e->xs.length<=12->os=rows.map some->∀ L G H',Pres x H H'->H L=none->H G=none->IsPz H' c d x L G h w g rows e->Q .non H')
variable{d:TL}
def rR{c:TJ}(h:bU K c d vs H Q E):vs.length=4:=by
 obtain⟨_,_,_,_,_,_,_,_,_,_,_,rfl,_⟩:=h;rfl
def  fM(K:Frag)(c:TJ)(d:TL)(E:XK):TS:=#[":h;p0y{Re=oa1d~nh;p0y{Sen=oaQp0~na2d~M;p0y{Te=oaQp0~na3d~]"]
def rS{c:TJ}(h:bU K c d vs H Q E):fM K c d E (eD9 Q) (start ["self","floor","lines","clues"] vs) H:=by
 obtain⟨x,i,p,a,b,h,w,g,xs,os,cl,rfl,M,hx,hp,ha,O,ai,ab,hc,Z,qF,qN,qR,qC,q⟩:=h;change fM K c d E _ [↑x,↑p,↑a,↑b] H;unfold fM sFldK;symm;by_cases F:¬ FlOk h w g
 . show(p,h,w,g,rfl,hp,.inr (F,λC hC H' J=>qF F C hC H' λy o _ e=>J _ _ e))
 have F:=Classical.not_not.mp F;show(p,h,w,g,rfl,hp,.inl (F,λf T=>?_));have t:x≠f:=aI hx T;show(x,.Puzzle,i,[],rfl,M,by rw[ao t];show hx,by change(0:Nat)<1000;decide,?_)
 have U:∀ y o,y≠x->H y=some o->(upd (upd H f<|.tup [.int h,.int w,.int g]) x<|.ins (d.A .Puzzle) i<|putF "floor" (.ref f) []) y=some o:=λy o n e=>by
  rw[ao n,ao<|aI e T];show e
 have u:(upd (upd H f<|.tup [.int h,.int w,.int g]) x<|.ins (d.A .Puzzle) i<|putF "floor" (.ref f) []) x=some (.ins (d.A .Puzzle) i [("floor" ,.ref f)]):=ak
 have B:IsFl (upd (upd H f<|.tup [.int h,.int w,.int g]) x<|.ins (d.A .Puzzle) i<|putF "floor" (.ref f) []) f h w g:=by
  change(upd (upd H f<|.tup [.int h,.int w,.int g]) x _) f=_;rw[ao t.symm,ak]
 have S:∀ l,(upd (upd H f<|.tup [.int h,.int w,.int g]) x<|.ins (d.A .Puzzle) i<|putF "floor" (.ref f) []) l=none->H l=none:=λl e=>by
  have n1:l≠x:=λz=>by rw[z,ak]at e;cases e
  rw[ao n1]at e;have n2:l≠f:=λz=>by rw[z,ak]at e;cases e
  rw[ao n2]at e;show e
 have ag:a≠x:=λz=>by rw[z,hx]at ha;cases ha
 have P:b≠x:=λz=>by rw[z,hx]at O;cases O
 have L1:=(Z F).pres hx U;generalize upd (upd H f<|.tup [.int h,.int w,.int g]) x (.ins (d.A .Puzzle) i<|putF "floor" (.ref f) [])=H1 at*;show fldE (c:=d) (k:=.Puzzle) rfl M u (v:=.ref f) (by rfl) ?_;exists(f,a,h,w,g,xs,os,rfl,B,F,U a _ ag ha,ai,hc,L1,λm rows eo L rs N W Z X=>?_,λm C hC H' J=>qN F m C hC H' λy o n e=>J _ _<|U y o n e,λm O C hC H' J=>qR F m O C hC H' λy o n e=>J _ _<|U y o n e);have ah:rows.length<=12:=by have:=L1.len;rw[eo,Pj]at this;lia
 have aa:∀ r∈rows,r.Ok h w g:=λr hr=>by
  obtain⟨j,hj,ej⟩:=List.getElem_of_mem hr;have e2:os[j]? =some (some r):=by rw[eo,Pp,Px hj,ej];rfl
  have ad:j<xs.length:=by rw[L1.len,eo,Pj];show hj
  show(L1.at_ j _ _ (Px ad) e2).2
 have R:tP c h w g rows:=(F,ah,aa,λr hr=>hc _ (aa r hr).k0);show(x,.Puzzle,i,_,rfl,M,W _ _ u,by change(1:Nat)<1000;decide,?_);have aj:L≠x:=λz=>by rw[z,u]at Z;cases Z
 have X3:=X.ins (o:=.ins (d.A .Puzzle) i (putF "laws" (.ref L) [("floor" ,.ref f)])) (W _ _ u) (by change(1:Nat)≠5;decide)
 have f2:∀ y o,y≠x->H y=some o->(upd N x<|.ins (d.A .Puzzle) i<|putF "laws" (.ref L) [("floor" ,.ref f)]) y=some o:=λy o n e=>by
  rw[ao n];show W _ _ (U y o n e)
 have s:(upd N x<|.ins (d.A .Puzzle) i<|putF "laws" (.ref L) [("floor" ,.ref f)]) x=some (.ins (d.A .Puzzle) i [("floor" ,.ref f),("laws" ,.ref L)]):=ak
 have I:IsFl (upd N x<|.ins (d.A .Puzzle) i<|putF "laws" (.ref L) [("floor" ,.ref f)]) f h w g:=by
  change(upd N x _) f=_;rw[ao t.symm];show W _ _ B
 have ae:∀ l,(upd N x<|.ins (d.A .Puzzle) i<|putF "laws" (.ref L) [("floor" ,.ref f)]) l=none->H1 l=none:=λl e=>by
  have n1:l≠x:=λz=>by rw[z,ak]at e;cases e
  rw[ao n1]at e;show W.free e
 generalize upd N x (.ins (d.A .Puzzle) i<|putF "laws" (.ref L) [("floor" ,.ref f)])=H3 at*;show fldE (c:=d) (k:=.Puzzle) rfl M s (v:=.ref f) (by rfl) ?_;symm;by_cases C:¬ CluesOk h w g cl
 . show(f,b,h,w,g,cl,rfl,I,F,f2 b _ P O,ab,.inr (C,λD hD H' J=>qC F C m (rows,eo) D hD H' λy o n e=>J _ _<|f2 y o n e))
 have C:=Classical.not_not.mp C;show(f,b,h,w,g,cl,rfl,I,F,f2 b _ P O,ab,.inl (C,λG H4 Y hG eG=>?_));show(x,.Puzzle,i,_,rfl,M,Y _ _ s,by change(2:Nat)<1000;decide,?_);have af:G≠x:=λz=>by rw[z,s]at hG;cases hG
 show q rows F C m eo L G _ (λy o n e=>?_) (S L Z) (S G<|ae G hG) (M,R,C,?_,i,f,rs,?_,?_,?_)
 . rw[ao n];show Y _ _ (f2 y o n e)
 . rw[ao af];show eG
 . rw[ak];rfl
 . change(upd H4 x _) f=_;rw[ao t.symm];show Y _ _ I
 . show(X3.same Y).ins (Y _ _ s) (by change(2:Nat)≠5;decide)
structure Mk20(K:Frag)(c:TJ)(d:TL)(H:Hp)(p a b:Addr)(h w g:Int)(xs:List V)(os:List (Option RR))(cl:∅)(Z:Addr->Hp->Prop)(E:XK):Prop where
 ok:d.ok .Puzzle=true
 hp:IsFl H p h w g
 ha:H a=↥xs
 hb:H b=↥(cl.map V.int)
 hxs:xs.length<=100
 hcl:cl.length<=100
 hc:∀ k,k≠.Rule->c.ok k=true
 hL:FlOk h w g->Lns H h w g xs os
 qF:¬ FlOk h w g->bB K "NoFloor" H E
 qN:FlOk h w g->12<xs.length->bB K "NoPuzzle" H E
 qR:FlOk h w g->xs.length<=12->none∈os->bB K "NoRule" H E
 qC:FlOk h w g->¬ CluesOk h w g cl->xs.length<=12->(∃ rows:List RR,os=rows.map some)->bB K "NoPuzzle" H E
 q:∀ rows:List RR,FlOk h w g->CluesOk h w g cl->xs.length<=12->os=rows.map some->∀ P L G H',Same H H'->H P=none->H L=none->H G=none->IsPz H' c d P L G h w g rows cl->Z P H'
variable{cl:∅}{Z:Addr->Hp->Prop}
def Mk20.mk'{c:TJ}{a b:Addr}{h w:Int}(M:Mk20 K c d H p a b h w g xs os cl Z E):
  ∀ x dx,H x=none->H dx=none->dx≠x->bU K c d (.ref x::([.ref p,.ref a,.ref b]++[])) (upd (upd H dx<|.own x) x<|.ins (d.A .Puzzle) dx []) (λv D=>v=.non/\Z x D) E:=by
 intro x dx n I O;have k:Same H (upd (upd H dx<|.own x) x<|.ins (d.A .Puzzle) dx []):=λy o e=>by rw[ao<|aI e n,ao<|aI e I];show e
 have r:∀ y,(upd (upd H dx<|.own x) x<|.ins (d.A .Puzzle) dx []) y=none->H y=none:=λy e=>by
  have u:y≠x:=λz=>by rw[z,ak]at e;cases e
  rw[ao u]at e;have B:y≠dx:=λz=>by rw[z,ak]at e;cases e
  rw[ao B]at e;show e
 have m:∀ H',Pres x (upd (upd H dx<|.own x) x<|.ins (d.A .Puzzle) dx []) H'->Same H H':=λH' s y o e=>s y o (aI e n) (k _ _ e)
 show(x,dx,p,a,b,h,w,g,xs,os,cl,rfl,M.ok,ak,k _ _ M.hp,k _ _ M.ha,k _ _ M.hb,M.hxs,M.hcl,M.hc,λF=>(M.hL F).same k,λz C i H' f=>M.qF z C i H'<|m H' f,λF z C i H' f=>M.qN F z C i H'<|m H' f,λF l j C i H' f=>M.qR F l j C i H'<|m H' f,λF l j J C i H' f=>M.qC F l j J C i H'<|m H' f,
  λrows F C l j L G H' f N t X=>(rfl,M.q rows F C l j x L G H' (m H' f) n (r L N) (r G t) X))
variable{rows:List RR}
def HN{h w:Int}(a:∀ r∈rows,r.Ok h w g):Lns H h w g ((rows.map RR.txt).map V.str) (rows.map some):=by
 show(by simp,λi v o h1 h2=>?_);rw[Pp,Pp]at h1;rw[Pp]at h2
 cases e:rows[i]? with
 | none=>rw[e]at h1;cases h1
 | some r=>
  rw[e]at h1 h2;cases h1;cases h2;show(rfl,a r<|PD e)
def Cu{a:List RR}(h:rows.map some=a.map some):rows=a:=by
 induction rows generalizing a with
 | nil=>cases a with
  | nil=>rfl
  | cons x r=>cases h
 | cons y s b=>cases a with
  | nil=>cases h
  | cons x r=>
   rw[Pz,Pz,List.cons.injEq,S1]at h;rw[h.1,b h.2]
def  Mk20.good {c:TJ} {a b:Addr} {h w:Int} (j:d.ok .Puzzle=true) (m:∀ k,k≠.Rule->c.ok k=true) (o:IsFl H p h w g) (l:H a=↥((rows.map RR.txt).map V.str)) (t:H b=↥(cl.map V.int)) (R:tP c h w g rows) (f:cl.length<=100)
  (s:¬ CluesOk h w g cl->bB K "NoPuzzle" H E) (q:CluesOk h w g cl->∀ P L G H',Same H H'->H P=none->H L=none->H G=none->IsPz H' c d P L G h w g rows cl->Z P H'):Mk20 K c d H p a b h w g ((rows.map RR.txt).map V.str) (rows.map some) cl Z E:=
 (j,o,l,t,by have:=R.n;simp;omega,f,m,λ_=>HN R.ok,λz=>absurd R.F z,λ_ z=>(by have:=R.n;simp at z;omega),λ_ _ z=>(by simp at z),λ_ z _ _=>s z,λi _ C _ e P L G H' r h1 h2 h3 X=>q C P L G H' r h1 h2 h3 (by rw[Cu e];show X))
def  rT(K:Frag)(c:TJ)(d:TL)(_:PzK):Sp:=λvs H Q E=>∃(P L G b:Addr) (h w g:Int) (rows:List RR) (cl a:∅),vs=[.ref P,.ref b]/\IsPz H c d P L G h w g rows cl/\(∀ k,k≠.Rule->c.ok k=true)/\H b=↥(a.map V.int)/\a.length<=100/\(¬ CluesOk h w g a->bB K "NoPuzzle" H E)/\
 (CluesOk h w g a->∀ e f i H',Same H H'->H e=none->H f=none->H i=none->IsPz H' c d e f i h w g rows a->Q (.ref e) H')
def ki:f:=rT K c d .Puzzle
def vq{c:TJ}(h:ki K c d vs H Q E):vs.length=2:=by
 obtain⟨_,_,_,_,_,_,_,_,_,_,rfl,_⟩:=h;rfl
def  ip(K:Frag)(c:TJ)(d:TL)(E:XK):TS:=#[":k*'u'v'wenp=oaQp0~naJpO'k'lenp0da1d"]
def vt{c:TJ}(h:ki K c d vs H Q E):ip K c d E (eD9 Q) (start ["self","clues"] vs) H:=by
 obtain⟨P,L,G,b,h,w,g,rows,cl,n,rfl,x,f,y,j,r,q⟩:=h;obtain⟨D,p,I,h1,h2,h3⟩:=x.ex;change ip K c d E _ [↑P,↑b] H;unfold ip;exists fldE (k:=.Puzzle) rfl x.ok h1 (v:=.ref p) (by rfl) ?_;exists methE (k:=.Puzzle) rfl x.ok h1 (by rfl) ?_;exists(P,L,G,h,w,g,rows,cl,rfl,x,λl B a F o=>?_);exists Mk20.mk' (Mk20.good x.ok f (a _ _ h2) o (a _ _ y) x.R j (λz C e H' i=>r z C e H'<|a.trans i) λC u m t H' s e1 e2 A X=>q C u m t H' (a.trans s) (a.free e1) (a.free e2) (a.free A) X)
end L2
namespace L2
def   figs:List Nat:=s!".123456"
def   valc(c:Nat):Int:=(figs.idxOf c:Nat)
def  gR(g:Int)(c:Nat):Prop:=c∈figs/\valc c<=g
instance (g:Int) (c:Nat):Decidable (gR g c):=by unfold gR;infer_instance
def  atOk(w:Nat)(g:Int)(i c:Nat):Prop:=if i % (w+1)=w then c=47 else gR g c
instance (w:Nat) (g:Int) (i c:Nat):Decidable (atOk w g i c):=by unfold atOk;infer_instance
def  GoodL(h w:Nat)(g:Int)(l:List Nat):Prop:=l.length+1=h*(w+1)/\∀ i c,l[i]? =some c->atOk w g i c
def  resL(l:List Nat):∅:=(l.filter λc=>decide<|c≠47).map valc
def  oJ(h w:Nat)(g:Int)(rows:List (List Nat)):Prop:=rows.length=h/\∀ r∈rows,r.length=w/\∀ c∈r,gR g c
variable{g:Int}
def  Gw{c:Nat}(h:gR g c):c≠47:=λz=>by
 subst z;show absurd h.1 #[1]
def lV{w:Nat}{g:Int}:∀{rows:List (List Nat)} {h:Nat},rows≠[]->oJ h w g rows->GoodL h w g (catL 47 rows)
 | [],_,hn,_=>absurd rfl hn
 | [r],h,_,⟨h1,h2⟩=>by
  obtain⟨a,b⟩:=h2 r (by simp);have:h=1:=by rw[← h1];rfl
  subst this;show(by change r.length+1=_;rw[a];simp,λi c e=>?_);have p:i<r.length:=(Ps.mp e).1;unfold atOk;rw[PF (by rw[Rj #[4]];lia)];show b c (PD e)
 | r::r2::rs,h,_,⟨h1,h2⟩=>by
  obtain⟨a,b⟩:=h2 r (by simp);have f:=lV (rows:=r2::rs) (h:=h-1) (by simp) (by simp at h1 ⊢;lia,λx n=>h2 x<|Pm _ n);have l:catL 47 (r::r2::rs)=r++47::catL 47 (r2::rs):=rfl;rw[l];obtain⟨o,d⟩:=f;have k:h=(h-1)+1:=by simp at h1;lia
  show(?_,λi c e=>?_)
  . rw[k,R9,← o,Pq,PR,a];lia
  . unfold atOk;by_cases j:i<r.length
    . rw[PV j]at e;rw[PF (by rw[Rj #[4]];lia)];show b c (PD e)
    . rw[P4 #[4]]at e;by_cases m:i=r.length
      . subst m;simp at e;rw[PK (by rw[Rj #[4]];lia)];show e.symm
      . have e1:i-r.length=(i-r.length-1)+1:=by lia
        rw[e1,Td]at e;have q:=d _ c e;unfold atOk at q
        have e2:i % (w+1)=(i-r.length-1) % (w+1):=by
         have:i=(i-r.length-1)+(w+1):=by lia
         conv=>lhs;rw[this]
         rw[Nat.add_mod_right]
        rw[e2];show q
def oK{w:Nat}{g:Int}:∀{h:Nat} {l:List Nat},0<h->GoodL h w g l->∃ rows,oJ h w g rows/\catL 47 rows=l
 | 0,_,h0,_=>absurd h0 #[1]
 | 1,l,_,⟨a,b⟩=>by
  show([l],(rfl,λr d=>?_),rfl);have:r=l:=by simpa using d
  subst this;show(by lia,λc j=>?_);obtain⟨i,f,e⟩:=Ry.mp j;have q:=b i c (by rw[Px f,e]);unfold atOk at q;rw[PF (by rw[Rj #[4]];lia)]at q;show q
 | h+2,l,_,⟨a,b⟩=>by
  have u:w+1<=l.length:=by
   have:(h+2)*(w+1)=h*(w+1)+2*(w+1):=by rw[Nat.add_mul]
   have:=Qg<|h*(w+1);lia
  have o:GoodL (h+1) w g (l.drop<|w+1):=by
   show(?_,λi c e=>?_)
   . rw[Rg];have:(h+2)*(w+1)=(h+1)*(w+1)+(w+1):=by rw[show h+2=(h+1)+1 from rfl,R9]
     lia
   . rw[Qt]at e;have q:=b _ c e;unfold atOk at q ⊢;rw[Nat.add_mod_left]at q;show q
  obtain⟨rows,⟨k,p⟩,n⟩:=oK #[4] o;have s:rows≠[]:=λz=>by rw[z]at k;simp at k
  obtain⟨t,rs,m⟩:=List.exists_cons_of_ne_nil s;show(l.take w::rows,(by simp[k],λr d=>?_),?_)
  . rcases Pw.mp d with rfl | d
    . show(by rw[QB];lia,λc j=>?_);obtain⟨i,f,e⟩:=Ry.mp j;rw[QB]at f;have q:=b i c (by rw[← e,List.getElem_take,Px #[4]]);unfold atOk at q;rw[PF (by rw[Rj #[4]];lia)]at q;show q
    . show p r d
  . have e1:catL 47 (l.take w::rows)=l.take w++47::catL 47 rows:=by rw[m];rfl
    rw[e1,n];have q:=b w l[w]<|Px #[4];unfold atOk at q;rw[PK<|Rj #[4]]at q;rw[← q]
    conv=>rhs;rw[← Rs w l]
    rw[List.drop_eq_getElem_cons (by lia:w<l.length)]
def  Ah{r:List Nat}(h:47∉r):r.filter (λc=>decide<|c≠47)=r:=
 List.filter_eq_self.mpr λc a=>Po (λ(z:c=47)=>h (by rw[← z];show a))
def xQ:∀{rows:List (List Nat)},(∀ r∈rows,47∉r)->(catL 47 rows).filter (λc=>decide<|c≠47)=rows.flatten
 | [],_=>rfl
 | [r],h=>by
  change r.filter _=_;rw[Ah (h r (by simp))];simp
 | r::r2::rs,h=>by
  have a:catL 47 (r::r2::rs)=r++47::catL 47 (r2::rs):=rfl;rw[a,QH,QC,PF (by simp),xQ λx b=>h x<|Pm _ b,Ah (h r (by simp))];rfl
variable{l:List Nat}{rows:List (List Nat)}
def HP{h w:Nat}(h0:0<h)(b:rows≠[])(f:∀ r∈rows,47∉r)(e:catL 47 rows=l):oJ h w g rows↔GoodL h w g l:=by
 constructor
 . intro r;rw[← e];show lV b r
 . intro q;obtain⟨R,a,d⟩:=oK h0 q;have:rows=R:=ww b (λz=>by rw[z]at a;have:=a.1;simp at this;lia) f (λr c z=>Gw ((a.2 r c).2 _ z) rfl)<|e.trans d.symm;rw[this];show a
def Cv(a:∀ r∈rows,47∉r)(e:catL 47 rows=l):resL l=rows.flatten.map valc:=by
 unfold resL;rw[← e,xQ a]
def HQ{c:Nat}(h:gR g c):PySem.Txt.find (tx s!".123456") (tx [c])=valc c:=by
 rw[DC,PK (show c∈s!".123456" from h.1)];rfl
def Gx{c:Nat}(h:¬ gR g c):PySem.Txt.find (tx s!".123456") (tx [c])<0\/g<PySem.Txt.find (tx s!".123456") (tx [c]):=by
 rw[DC];by_cases q:c∈figs
 . right
   rw[PK (show c∈s!".123456" from q)];by_cases r:valc c<=g
   . show absurd (q,r) h
   . show Int.not_le.mp r
 . left
   rw[PF (show ¬ c∈s!".123456" from q)];decide
end L2
namespace L2
open PySem PySem.Spec PyProof.Rows
local macro_rules|`(tactic|walk_at "w")=>wk9 ws5
local macro_rules|`(tactic|symm)=>`(tactic|walk_at "w")
section
variable{k:Nat}{te:TE}{fin:Addr->Hp->Prop}{σ0:St}{H1:Hp}
def Gy {cs:List Nat} (a:Nat) (u:a<cs.length) (f:Nat->V) (y:cs.length<=900)
  (r:∀ i c H Q,cs[i]? =some c->i<a->Same H1 H->(∀ b,Same H b->Q (f i) b)->te (σ0.set k<|some<|.str<|tx [c]) H Q)
  (s:∀ c H Q,cs[a]? =some c->Same H1 H->te (σ0.set k<|some<|.str<|tx [c]) H Q):CompR (Its<|tx cs) (gName k) tTrue te fin σ0 H1:=by
 intro l o;have h:(tx cs).cps.size=cs.length:=by simp[tx]
 show(λi m σ H=>m=cs.length-i/\i<=a/\(σ=σ0\/∃ g,σ=σ0.set k g)/\Same H1 H/\H l=↥((List.range i).map f),(cs.length,by simp,Qg _,.inl rfl,(Pr H1).laid o,by rw[ak];rfl),?_);rintro i m σ H ⟨rfl,A,w,j,t⟩;show .inr (by change i < (tx cs).cps.size;rw[h];lia,λσ H=>i<a/\(σ=σ0\/∃ g,σ=σ0.set k g)/\Same H1 H/\H l=↥((List.range<|i+1).map f),λz b n=>(cs.length - (i+1),by lia,rfl,n.1,n.2),?_);rintro x b ⟨rfl,c,v,rfl⟩;have d:cs[i]? =some c:=by simpa [tx] using v
 change gName k (.str<|tx [c]) σ b _;rw[aH]
 have e:σ.set k (some<|.str<|tx [c])=σ0.set k (some<|.str<|tx [c]):=by
  rcases w with rfl | ⟨g,rfl⟩
  . rfl
  . show Rn ..
 rw[e];rw[bP];show iteT ?_;by_cases q:i<a
 . show r i c b _ d q j λB p=>(_,p _ _ t,by rw[Pj,Sb];show aZ #[4],q,.inr (_,rfl),(j.trans p).own o,?_);rw[ak,QP,RM];rfl
 . have:i=a:=by lia
   subst this;show s c b _ d j
end
def iU:d:=λvs H Q E=>∃(a:Addr) (h w g:Int) (c:Nat),vs=[.ref a,.str<|tx [c]]/\IsFl H a h w g/\(gR g c->Q (.int<|valc c) H)/\(¬ gR g c->∀ C,Glb K "NoFilling" C->E (.ref C) none H)
variable{K:Frag}{vs:List V}{H:Hp}{Q:VK}{E:XK}
def wF(h:iU K vs H Q E):vs.length=2:=by
 obtain⟨_,_,_,_,_,rfl,_⟩:=h;rfl
def  iV(K:Frag)(a:EA)(E:XK):TS:=#[":hqCeD{Ubfg`0a1dl#2 hrMtc<2bi#0 tc>2cm0bi#2 Bo~wabfg`1dsk2",s!".123456",s!"a row has figures of the floor's signs and points alone"]
variable{ea:EA}
def wG{i j l k m:List Addr}(p:ag K ea "NoFloor" ea.NoFloor i)(n:ag K ea "NoRule" ea.NoRule j)(o:ag K ea "NoPuzzle" ea.NoPuzzle l)(r:ag K ea "NoText" ea.NoText k)(R:ag K ea "NoFilling" ea.NoFilling m)(h:iU K vs H Q E):iV K ea E (eD9 Q) (start ["floor","figure","sign"] vs) H:=by
 obtain⟨a,h,w,g,c,rfl,f,k1,k2⟩:=h;have b:(1:Nat)<=sizeLine:=bi #[1];change iV K ea E _ [↑a,some<|.str<|tx [c],none] H;unfold iV;exists(dg,?_);rw[aT];symm;by_cases d:gR g c
 . rw[HQ d,Pl (show ¬ valc c<0 by unfold valc;lia)];show iteF ?_;rw[rm f];show bV (a:=V.int g) rfl ?_;symm;rw[Pl (show ¬ g<valc c by have:=d.2;lia)];show iteF ?_;show k1 d
 . have e:E (.ref ea.NoFilling) none H:=k2 d _ R.g;by_cases q:PySem.Txt.find (tx s!".123456") (tx [c])<0
   . rw[Po q];show iteT ?_
     first | show iteT ?_ | (rw[PK trivial]) | skip
     rw[bf];exists(b,e)
   . rw[Pl q];show iteF ?_;rw[rm f];show bV (a:=V.int g) rfl ?_;symm;have:=Gx d;rw[Po (show g<PySem.Txt.find (tx s!".123456") (tx [c]) by lia)];show iteT ?_;rw[bf];exists(b,e)
def  zj(w:Nat)(g:Int)(r:List Nat):Prop:=r.length=w/\∀ c∈r,gR g c
def kI:d:=λvs H Q E=>∃(a:Addr) (h w g:Int) (r:List Nat),vs=[.ref a,.str<|tx r]/\IsFl H a h w g/\FlOk h w g/\r.length<=900/\(zj w.toNat g r->∀ l b,Same H b->H l=none->b l=↥((r.map valc).map V.int)->Q (.ref l) b)/\(¬ zj w.toNat g r->∀ C b,Glb K "NoFilling" C->Same H b->E (.ref C) none b)
def AQ(h:kI K vs H Q E):vs.length=2:=by
 obtain⟨_,_,_,_,_,rfl,_⟩:=h;rfl
def  kJ(K:Frag)(a:EA)(E:XK):TS:=#[":hrtcIevHa1dcm0bi#1 Bo~wabfg`0dskR&--0 ~N1l#1 Ny{Ve=oa2a1d",s!"a row has one sign for each cell"]
def Ai{g:Int}:∀{r:List Nat},¬ (∀ c∈r,gR g c)->∃ n,n<r.length/\(∀ i c,r[i]? =some c->i<n->gR g c)/\∀ c,r[n]? =some c->¬ gR g c
 | [],h=>absurd (λc f=>nomatch f) h
 | x::r,h=>by
  by_cases j:gR g x
  . have:¬ ∀ c∈r,gR g c:=λq=>h λc f=>by
     rcases Pw.mp f with rfl | f
     . show j
     . show q c f
    obtain⟨n,a,b,c⟩:=Ai this;show(n+1,by simp;lia,λi d e k=>?_,λd e=>c d (by simpa using e))
    cases i with
    | zero=>simp at e;rw[← e];show j
    | succ i=>show b i d (by simpa using e) #[4]
  . show(0,by simp,λi _ _ k=>absurd k<|Nat.not_lt_zero i,λc e=>by simp at e;rw[← e];show j)
def zk{α:Type}(xs:List Nat)(g:Nat->α):(List.range xs.length).map (λi=>g<|xs.getD i 0)=xs.map g:=by
 show QL λi=>?_;rw[Pp,Pp];by_cases h:i<xs.length
 . rw[QE h,Px h];simp[List.getD,h]
 . rw[PX (by simpa using h),PX #[4]];rfl
def AR{D y v L x:List Addr}(O:ag K ea "NoFloor" ea.NoFloor D)(N:ag K ea "NoRule" ea.NoRule y)(P:ag K ea "NoPuzzle" ea.NoPuzzle v)(S:ag K ea "NoText" ea.NoText L)(R:ag K ea "NoFilling" ea.NoFilling x)(h:kI K vs H Q E):kJ K ea E (eD9 Q) (start ["floor","row"] vs) H:=by
 obtain⟨a,h,w,g,r,rfl,m,F,s,k1,k2⟩:=h;have o:(1:Nat)<=sizeLine:=bi #[1];have M:=F.w0;change kJ K ea E _ [↑a,some<|.str<|tx r] H;unfold kJ;rw[aB,aT];exists(by rw[aF];show bi #[4],?_);rw[rm m];show bV (a:=V.int w) rfl ?_;symm;rw[aF];by_cases u:r.length=w.toNat
 . rw[Po (show((r.length:Nat):Int)=w by lia)];show iteF ?_;symm;by_cases b:∀ c∈r,gR g c
   . show tH (cs:=r) (λ_=>true) (λi=>.int<|valc<|r.getD i 0) s ?_ ?_ ?_
     . intro i c d R j f k1;show k1 _ (Pr _)
     . intro i c d k j T f k3;change tCall _ _ _ _ [none,some<|.str<|tx [c],↑a] d k;symm;have q:=k3 _<|Pr d;have e:r.getD i 0=c:=by rw[List.getD,j];rfl
       rw[e]at q;show(a,h,w,g,c,rfl,f _ _ m,λ_=>q,λz=>(z<|b c<|PD j).elim)
     . intro l d p f t;show k1 (u,b) l d f p ?_;rw[fm]at t;rw[t,P8,← zk r (V.int ∘ valc)];rfl
   . obtain⟨n,G,I,A⟩:=Ai b;show Gy n G (λi=>.int<|valc<|r.getD i 0) s ?_ ?_
     . intro i c d k j B f k3;change tCall _ _ _ _ [none,some<|.str<|tx [c],↑a] d k;symm;have q:=k3 _<|Pr d;have e:r.getD i 0=c:=by rw[List.getD,j];rfl
       rw[e]at q;show(a,h,w,g,c,rfl,f _ _ m,λ_=>q,λz=>(z<|I i c j B).elim)
     . intro c d k j f;change tCall _ _ _ _ [none,some<|.str<|tx [c],↑a] d k;exists(a,h,w,g,c,rfl,f _ _ m,λz=>(A c j z).elim,λ_ C J=>k2 (λz=>b z.2) C d J f)
 . rw[Pl (show ¬ ((r.length:Nat):Int)=w by lia)];show iteT ?_;rw[bf];exists(o,k2 (λz=>u z.1) _ H R.g<|Pr H)
def  KU(h w g:Int)(v:V):Prop:=∃ l:List Nat,v=.str (tx l)/\GoodL h.toNat w.toNat g l
def  Bent(H:Hp)(v:V):Prop:=(∃ l:List Nat,v=.str (tx l)/\l.length<=300)\/v=.non\/(∃ i:Int,v=.int i)\/v=.bl true\/(∃ p a,v=.ref p/\H p=↥a)\/(∃ p a,v=.ref p/\H p=some (.tup a))
def KY{v:V}(b:Bent H v)(c:∀ l,v≠.str (tx l))(h:Q (.bl false) H):kIsi [v,.ty "str"] H Q:=by
 rcases b with ⟨l,e,_⟩ | rfl | ⟨i,rfl⟩ | rfl | ⟨p,d,rfl,e⟩ | ⟨p,d,rfl,e⟩
 . show absurd e (c l)
 . show(rfl,bV (a:="NoneType") rfl h)
 . show(rfl,bV (a:="int") rfl h)
 . show(rfl,bV (a:="bool") rfl h)
 . show(rfl,bV (a:="list") (by unfold kA;dsimp only;rw[e]) h)
 . show(rfl,bV (a:="tuple") (by unfold kA;dsimp only;rw[e]) h)
def dA:d:=λvs H Q E=>∃(a:Addr) (h w g:Int) (v:V),vs=[.ref a,v]/\IsFl H a h w g/\FlOk h w g/\Bent H v/\
 (∀ l,v=.str (tx l)->GoodL h.toNat w.toNat g l->∀ p b,Same H b->H p=none->b p=↥((resL l).map V.int)->Q (.ref p) b)/\
 (¬ KU h w g v->∀ C b,Glb K "NoFilling" C->Same H b->E (.ref C) none b)
def vv(h:dA K vs H Q E):vs.length=2:=by
 obtain⟨_,_,_,_,_,rfl,_⟩:=h;rfl
def  iq(K:Frag)(a:EA)(E:XK):TS:=#[":hrGwvVa1abTDdBo~wabfg`0dshqCeD~a1abfg`1dl#2 hrtcIevHa2dcm0bi#0 Bo~wabfg`2dshqudl#3 h-Ue2l#4 :Ce~k{W3ay{Xe=oa0a4ddk3",s!"a filling is read from a text",[47],s!"a filling has one row for each row of the floor"]
def vw{o1 o2 o3 o4 o5:List Addr}(RF:ag K ea "NoFloor" ea.NoFloor o1)(RL:ag K ea "NoRule" ea.NoRule o2)(RP:ag K ea "NoPuzzle" ea.NoPuzzle o3)(RT:ag K ea "NoText" ea.NoText o4)(R:ag K ea "NoFilling" ea.NoFilling o5)(h:dA K vs H Q E):iq K ea E (eD9 Q) (start ["floor","text","rows","filling","row"] vs) H:=by
 obtain⟨a,h,w,g,v,rfl,ha,F,hb,k1,k2⟩:=h;obtain⟨h0,h1,w0,w1,af,g0,g1⟩:=id F;have J:(1:Nat)<=sizeLine:=bi #[1];change iq K ea E _ [↑a,some v,none,none,none] H;unfold iq;rw[aB,aT];symm;by_cases hv:∃ l,v=.str (tx l)
 . obtain⟨l,rfl⟩:=hv
   have Pg:l.length<=300:=by
    rcases hb with ⟨l',e,h⟩ | e | ⟨_,e⟩ | e | ⟨_,_,e,_⟩ | ⟨_,_,e,_⟩
    . cases (gJ<|V.str.inj e);show h
    all_goals cases e
   show F0 ?_;exists(dg,?_);obtain⟨b,aa,D,d,X⟩:=vR 47 l;have ae:b.length<=301:=by have:=BT 47 b;rw[d]at this;lia
   have o:=HP (h:=h.toNat) (w:=w.toNat) (g:=g) #[4] aa D d
   have I:¬ oJ h.toNat w.toNat g b->∀ C u,Glb K "NoFilling" C->Same H u->E (.ref C) none u:=λz=>k2 λ⟨l',e,q⟩=>z (by
    cases (gJ<|V.str.inj e);show o.mpr q)
   rw[jW,X];show(by rw[aF];decide,by rw[aF];show bi #[4],by rw[Pj];show bi #[4],λL hL=>?_);obtain⟨H1,z9,T,W⟩:=cP (.lst<|(b.map tx).map V.str) hL;rw[z9];symm;rw[aT];symm;rw[ij W];symm;rw[rm<|T _ _ ha];show bV (a:=V.int h) rfl ?_;symm;rw[Pj,Pj];by_cases s:b.length=h.toNat
   . rw[Po (show((b.length:Nat):Int)=h by lia)];show iteF ?_;exists(Qg _,λf S=>?_);have s2:Same H1 (upd H1 f<|.lst []):=(Pr H1).laid S;have A:H f=none:=T.free S;symm
     show((_,Qm<|s2 _ _ W),Bn (K:=K) (xs:=(b.map tx).map V.str) (λi σ u=>∃ Z:Option V,σ=[↑a,some<|.str<|tx l,↑L,↑f,Z]/\Same H u/\u L=↥((b.map tx).map V.str)/\u f=↥(((b.take i).flatten.map valc).map V.int)/\∀ r∈b.take i,zj w.toNat g r)
      (none,rfl,T.trans s2,s2 _ _ W,ak,λr s=>by simp at s) (λi σ u _ ⟨_,_,_,e',_⟩=>Qm e') ?_ ?_)
     . rintro i y σ H2 G ⟨Z,rfl,N,B,k,m⟩;rw[P8,Pp]at G
       cases t:b[i]? with
       | none=>rw[t]at G;cases G
       | some r=>
        rw[t]at G;cases G;have hi:i<b.length:=(Ps.mp t).1;exists(rj k,?_)
        have M:r.length<=900:=by
         have:r.length<=(catL 47 b).length:=by
          have:∀(j:List (List Nat)),r∈j->r.length<=(catL 47 j).length:=by
           intro j
           induction j with
           | nil=>intro z;show nomatch z
           | cons x j ih=>
            intro U
            cases j with
            | nil=>have:r=x:=by simpa using U
                   rw[this];show Py _
            | cons y ad=>
             change r.length<=(x++47::catL 47 (y::ad)).length;rw[Pq,PR];rcases Pw.mp U with rfl | U
             . lia
             . have:=ih U;lia
          show this b (PD t)
         rw[d]at this;lia
        show(a,h,w,g,r,rfl,N _ _ ha,F,M,λc p H3 O ai el=>?_,λc C H3 hC O=>I (λz=>c<|z.2 r<|PD t) C H3 hC<|N.trans O);symm
        have Y:((b.take i).flatten).length<=100:=by
         have P:∀ j:List (List Nat),(∀ r∈j,r.length<=6)->j.flatten.length<=6*j.length:=by
          intro j
          induction j with
          | nil=>intro _;simp
          | cons x j ih=>
           intro n;rw[Qe,Pq,PR];have a1:=n x (by simp);have a2:=ih λr s=>n r<|Pm _ s;lia
         have:=P (b.take i) λr s=>by rw[(m r s).1];lia
         rw[QB]at this;lia
        have ah:r.length<=6:=by rw[c.1];lia
        show Hl (O _ _ k) el (by rw[Pj,Pj,Pj,Pj];lia) ?_;show(_,rfl,(N.trans O).own A,?_,?_,?_)
        . have ab:L≠f:=λz=>by rw[← z,W]at S;cases S
          rw[ao ab];show O _ _ B
        . rw[ak,List.take_add_one,t,List.flatten_append,RM,RM];simp
        . intro x n;rw[List.take_add_one,t]at n;rcases PN.mp n with n | n
          . show m x n
          . have:x=r:=by simpa using n
            rw[this];show c
     . rintro σ H2 ⟨Z,rfl,N,B,k,m⟩;symm;rw[Pj,Pj,QU]at k;rw[Pj,Pj,QU]at m;show k1 l rfl (o.mp (s,m)) f H2 N A ?_;rw[Cv D d];show k
   . rw[Pl (show ¬ ((b.length:Nat):Int)=h by lia)];show iteT ?_;rw[bf];exists(J,I (λz=>s z.1) _ _ R.g T)
 . show KY hb (λl e=>hv (l,e)) ?_;symm;rw[bf];exists(J,k2 (λ⟨l,e,_⟩=>hv (l,e)) _ _ R.g<|Pr H)
def  NT(a:List (List Nat)):Bool:=!decide (none∈a.map numW)
def HR{b:List (List Nat)}{ns:List Nat}(h:numsM b=some ns):NT b=true/\natV ns=(b.map celW).map V.int:=by
 unfold numsM at h;by_cases a:none∈b.map numW
 . rw[PK a]at h;cases h
 rw[PF a]at h;cases h;show(by unfold NT;rw[Pl a];rfl,?_)
 induction b with
 | nil=>rfl
 | cons w r c=>
  rw[Pz,Pw,not_or]at a
  cases e:numW w with
  | none=>show absurd e.symm a.1
  | some k=>
   rw[List.filterMap_cons_some e];change V.int (k:Int)::natV (r.filterMap numW)=V.int (celW w)::_;rw[c a.2];unfold celW;rw[e];rfl
def HS{a:List (List Nat)}(h:numsM a=none):NT a=false:=by
 unfold numsM at h;by_cases b:none∈a.map numW
 . unfold NT;rw[Po b];rfl
 . rw[PF b]at h;cases h
def  flW(d:List (List Nat)):Option (Int × Int × Int):=match d with
 | [a,b,c]=>if NT [a,b,c]=true then some (celW a ,celW b,celW c) else none
 | _=>none
def jB:d:=λvs H Q E=>∃ a:List (List Nat),vs=[.str<|tx<|catL 32 a]/\LnOk a/\(flW a=none->bB K "NoText" H E)/\
 (∀ h w g,flW a=some (h ,w,g)->(FlOk h w g->∀ p b,Same H b->H p=none->IsFl b p h w g->Q (.ref p) b)/\(¬ FlOk h w g->bB K "NoFloor" H E))
def xR(h:jB K vs H Q E):vs.length=1:=by
 obtain⟨_,rfl,_⟩:=h;rfl
def  jC(K:Frag)(a:EA)(E:XK):TS:=#[":hqy~Ue=oaCeD~a0abfg`0ddl#1 hrtcIevHa1dbi#3 Bo^abfg`1dsky'te=oacm1bi#0 acm1bi#1 acm1bi#2 d",[32],s!"a floor is told by three numbers"]
section
variable{o1 o2 o3 o4 o5:List Addr}{K:Frag}{a:EA}{vs:List V}{H:Hp}{Q:VK}{E:XK}(RF:ag K a "NoFloor" a.NoFloor o1)(RL:ag K a "NoRule" a.NoRule o2)(RP:ag K a "NoPuzzle" a.NoPuzzle o3)(RT:ag K a "NoText" a.NoText o4)(RN:ag K a "NoFilling" a.NoFilling o5)
include RF RL RP RT RN
def xS(h:jB K vs H Q E):jC K a E (eD9 Q) (start ["text","numbers"] vs) H:=by
 obtain⟨b,rfl,L,r,I⟩:=h;have i:Txt.split (tx<|catL 32 b) (tx [32])=b.map tx:=ro L.ne L.fr;have A:=L.len;have e:=rO b λz s=>(L.wd z s).len;change jC K a E _ [some<|.str<|tx<|catL 32 b,none] H;unfold jC;exists(dg,?_);rw[jW,i];show(by rw[aF];decide,by rw[aF];show Qd<|QG e<|QG (SH 401 A) #[1],by rw[Pj];show bi #[4],λW B=>?_);obtain⟨J,G,q,e1⟩:=cP (.lst<|(b.map tx).map V.str) B;rw[G];show(W,b,rfl,e1,by lia,L.wd,λM d l o k e f=>?_,λd C o m k=>r ?_ C m o<|q.trans k)
 . have c:=q.trans k;obtain⟨d,t⟩:=HR d;rw[t]at f;symm;rw[aT];symm;rw[ij f,Pj,Pj];symm;by_cases h3:b.length=3
   . rw[Po (show((b.length:Nat):Int)=3 by lia)];show iteF ?_
     obtain⟨x,y,z,rfl⟩:∃ x y z,b=[x,y,z]:=by
      match b,h3 with
      | [x,y,z],_=>show(x,y,z,rfl)
     have u:flW [x,y,z]=some (celW x ,celW y,celW z):=by change(if NT [x,y,z]=true then some (celW x ,celW y,celW z) else none)=_;rw[PK d]
     obtain⟨k1,k2⟩:=I _ _ _ u;exists ixL f (v:=V.int (celW x)) (aJ (j:=0) rfl) ?_;exists ixL f (v:=V.int (celW y)) (aJ (j:=1) rfl) ?_;exists ixL f (v:=V.int (celW z)) (aJ (j:=2) rfl) ?_;symm;by_cases F:FlOk (celW x) (celW y) (celW z)
     . show(_,_,_,rfl,.inl (F,λp n=>k1 F p _ (c.laid n) (c.free n) ak))
     . show(_,_,_,rfl,.inr (F,λC m w D=>k2 F C m w<|c.trans D))
   . rw[Pl (show ¬ ((b.length:Nat):Int)=3 by lia)];show iteT ?_;rw[bf];exists(lnR rfl,r ?_ _ RT.g _ c);unfold flW
     split
     . show absurd rfl h3
     . rfl
 . unfold flW
   split
   . rw[PF];rw[HS d];show Pt
   . rfl
end
def Db(c:Nat):0<=valc c:=by unfold valc;lia
def xT{w:Nat}{g:Int}:∀{rows:List (List Nat)} {h:Nat},oJ h w g rows->rows.flatten.length=h*w
 | [],h,⟨e,_⟩=>by simp at e;subst e;simp
 | r::rs,h,⟨e,k⟩=>by
  have b:=xT (rows:=rs) (h:=h-1) (by simp at e;lia,λx c=>k x<|Pm _ c);have a:h=(h-1)+1:=by simp at e;lia
  rw[Qe,Pq,b,(k r Pn).1]
  conv=>rhs;rw[a,R9]
  lia
def EY{h w g:Int}{l:List Nat}(F:FlOk h w g)(G:GoodL h.toNat w.toNat g l):CluesOk h w g (resL l):=by
 obtain⟨h0,h1,p,q,k,s,o⟩:=F;obtain⟨a,R,e⟩:=oK #[4] G;have f:∀ r∈a,47∉r:=λr d n=>Gw ((R.2 r d).2 47 n) rfl;have i:=Cv f e;rw[i];show(?_,λx m=>?_)
 . rw[Pj,xT R];rw[Int.toNat_mul #[4] #[4]]
 . obtain⟨c,j,rfl⟩:=PM.mp m;obtain⟨r,d,b⟩:=List.mem_flatten.mp j;show(Db c,((R.2 r d).2 c b).2)
def  KZ(b:List Nat)(a:List (List Nat)):Prop:=(b=[]/\a=[])\/(b≠[]/\a≠[]/\b=catS s!"; " a/\∀ l∈a,59∉l)
abbrev lsV(a:List (List Nat)):List V:=(a.map tx).map V.str
structure L4(K:Frag)(c:TJ)(d:TL)(H:Hp)(Q:VK)(E:XK)(ws:List (List Nat))(p2:List Nat)(ls:List (List Nat)):Prop where
 nt:flW ws=none->bB K "NoText" H E
 nf:∀ h w g,flW ws=some (h ,w,g)->¬ FlOk h w g->bB K "NoFloor" H E
 ok:∀ h w g,flW ws=some (h ,w,g)->FlOk h w g->∃ os:List (Option RR),(∀ H,Lns H h w g (lsV ls) os)/\(12<ls.length->bB K "NoPuzzle" H E)/\(ls.length<=12->none∈os->bB K "NoRule" H E)/\
  (ls.length<=12->∀ rows:List RR,os=rows.map some->(¬ GoodL h.toNat w.toNat g p2->bB K "NoFilling" H E)/\(GoodL h.toNat w.toNat g p2->∀ P L G H',Same H H'->IsPz H' c d P L G h w g rows (resL p2)->Q (.ref P) H'))
def bC:f:=λvs H Q E=>∃ t:List Nat,vs=[.str<|tx t]/\t.length<=900/\d.ok .Puzzle=true/\(∀ k,k≠.Rule->c.ok k=true)/\
 ((∃ g:List (List Nat),Txt.split (tx t) (tx s!" | ")=g.map tx/\g.length<=900/\g.length≠3/\bB K "NoText" H E)\/
  (∃(e:List (List Nat)) (f b:List Nat) (a:List (List Nat)),Txt.split (tx t) (tx s!" | ")=[catL 32 e,f,b].map tx/\LnOk e/\KZ f a/\f.length<=900/\b.length<=300/\a.length<=100/\L4 K c d H Q E e b a))
def wH{c:TJ}{d:TL}(h:bC K c d vs H Q E):vs.length=1:=by
 obtain⟨_,rfl,_⟩:=h;rfl
def  jo(K:Frag)(c:TJ)(d:TL)(a:EA)(E:XK):TS:=#[":hq*'u'v'wenp=oa2a3ac~Duabi#0 d,~rea2ddl#4 k~mpO{Y{Zenpo4ay~Xe=oa2acm1bi#2 dd"]
def  mj(K:Frag)(c:TJ)(d:TL)(a:EA)(E:XK):TS:=#[":hq~btcIecm1bi#1 bfg=CeD~acm1bi#1 abfg`0dudl#3 {*enpKo",s!"; "]
def  iW(K:Frag)(c:TJ)(d:TL)(a:EA)(E:XK):TS:=#[":h:y'qe=oa0dhqCeD~a0abfg`0dl#1 hrtcIevHa1dbi#3 Bo^abfg`1dshqy{+e=oacm1bi#0 dl#2 {-enpKo",s!" | ",s!"a puzzle's text has three parts"]
def Iq(k:Nat):(List.replicate k [V.int 0]).flatten=(List.replicate k (0:Int)).map V.int:=by
 rw[List.map_replicate]
 induction k with
 | zero=>rfl
 | succ n a=>rw[QJ,Qe,a,QJ];rfl
section
variable{o1 o2 o3 o4 o5:List Addr}{K:Frag}{c:TJ}{d:TL}{a:EA}{vs:List V}{H:Hp}{Q:VK}{E:XK}(RF:ag K a "NoFloor" a.NoFloor o1)(RL:ag K a "NoRule" a.NoRule o2)(RP:ag K a "NoPuzzle" a.NoPuzzle o3)(RT:ag K a "NoText" a.NoText o4)(RN:ag K a "NoFilling" a.NoFilling o5)
def mm {U p A:Addr} {h w g:Int} {p0 p1 e:List Nat} {f:List (List Nat)} {os:List (Option L2.RR)} {v0:Option V} (F:FlOk h w g) (T:d.ok .Puzzle=true) (S:∀ k,k≠.Rule->c.ok k=true) (eU:H U=↥(([p0,p1,e].map tx).map V.str)) (t:IsFl H p h w g) (eA:H A=↥(lsV f)) (aa:f.length<=100) (J:e.length<=300)
  (L:∀ H,Lns H h w g (lsV f) os) (qN:12<f.length->bB K "NoPuzzle" H E) (qR:f.length<=12->none∈os->bB K "NoRule" H E)
  (q:f.length<=12->∀ rows:List L2.RR,os=rows.map some->(¬ GoodL h.toNat w.toNat g e->bB K "NoFilling" H E)/\(GoodL h.toNat w.toNat g e->∀ P L G m,Same H m->IsPz m c d P L G h w g rows (resL e)->Q (.ref P) m)):
  jo K c d a E (eD9 Q) [v0,↑U,↑p,↑A,none] H:=by
 obtain⟨h0,h1,w0,w1,ab,g0,g1⟩:=id F;have n:0<=h*w:=Sd #[4] #[4];have lv:(lsV f).length=f.length:=by simp[lsV]
 unfold jo;exists(lnR rfl,λZ hZ=>?_);obtain⟨H1,D,M,eZ⟩:=cP (.lst [V.int 0]) hZ;rw[D];show(p,h,w,g,rfl,M _ _ t,h0,h1,?_);show xk eZ n #[4] (by simp) λB hB=>?_;rw[Iq];obtain⟨H2,D,s2,W⟩:=cP (.lst<|(List.replicate (h*w).toNat (0:Int)).map V.int) hB;rw[D];have b:=M.trans s2;have C0:CluesOk h w g (List.replicate (h*w).toNat (0:Int)):=(by simp,λx hx=>by rw[List.eq_of_mem_replicate hx];lia);exists Mk20.mk' (h:=h) (w:=w) (g:=g) (xs:=lsV f) (os:=os) (cl:=List.replicate (h*w).toNat (0:Int)) (T,b _ _ t,b _ _ eA,W,by lia,by simp;lia,S,λ_=>L _,λz=>absurd F z,λ_ z C o m u=>qN #[4] C o m (b.trans u),λ_ z1 z2 C o m u=>qR #[4] z2 C o m (b.trans u),λ_ z=>absurd C0 z,λrows _ _ z1 eo P L G H3 s3 hP hL hG X=>?_);obtain⟨dx,pp,rs,e1,e2,e3⟩:=id X.ex;obtain⟨qn,qg⟩:=q #[4] rows eo;have i:=b.trans s3;exists(P,.Puzzle,dx,_,rfl,X.ok,e1,by rfl,?_);exists ixL (i _ _ eU) (v:=V.str (tx e)) (aJ (j:=2) rfl) ?_;exists(p,h,w,g,_,rfl,i _ _ t,F,.inl (e,rfl,J),λl el R B2 O r ad I=>?_,λz C O o r=>qn (λgl=>z (e,rfl,gl)) C o O<|i.trans r);have s:=gJ<|V.str.inj el;subst s;have N:=EY F R;have y:(resL e).length<=100:=by have:=N.len;lia
 exists(P,L,G,B2,h,w,g,rows,_,resL e,rfl,X.same r,S,I,y,λz=>absurd N z,λ_ P' L' G' Y s5 _ _ _ X5=>qg R P' L' G' Y ((i.trans r).trans s5) X5)
include RF RL RP RT RN
def wI(h:bC K c d vs H Q E):iW K c d a E (eD9 Q) (start ["text","parts","floor","lines","bare"] vs) H:=by
 obtain⟨t,rfl,ht,ok,hc,h⟩:=h;change iW K c d a E _ [some<|.str<|tx t,none,none,none,none] H;unfold iW;exists(_,rfl,?_);exists(dg,?_)
 have n:∀ r:List (List Nat),Txt.split (tx t) (tx s!" | ")=r.map tx->r.length<=900->∀ R:VK,(∀ U,H U=none->R (.ref U) (upd H U<|.lst<|(r.map tx).map V.str))->iC (.str<|tx t) [.str<|tx s!" | "] H R:=λr m hl R k=>by
  rw[jW,m];show(by rw[aF];decide,by rw[aF];show bi #[4],by rw[Pj];show bi #[4],k)
 rcases h with ⟨r,m,hl,aa,q⟩ | ⟨T,J,p2,I,m,L,P1,l1,l2,l3,X⟩
 . show n r m hl _ λU Z=>?_;obtain⟨H1,W,x,s⟩:=cP (.lst<|(r.map tx).map V.str) Z;rw[W];rw[aT];symm;rw[ij s,Pj,Pj];symm;rw[Pl (show ¬ ((r.length:Nat):Int)=3 by lia)];show iteT ?_;rw[bf];exists(lnR rfl,q _ RT.g _ x)
 . show n _ m (by simp) _ λU Z=>?_;obtain⟨H1,W,x,s⟩:=cP (.lst<|([catL 32 T,J,p2].map tx).map V.str) Z;rw[W];rw[aT];symm;rw[ij s];exists iteF ?_;show ixL s (v:=V.str (tx<|catL 32 T)) (aJ (j:=0) rfl) ?_;exists(T,rfl,L,λz C l e f=>X.nt z C l e<|x.trans f,λh w g ef=>(λF p o y hp ep=>?_,λnF C l e f=>X.nf h w g ef nF C l e<|x.trans f));obtain⟨os,Ls,qN,qR,q⟩:=X.ok h w g ef F;have D:=x.trans y;unfold mj;exists ixL (y _ _ s) (v:=V.str (tx J)) (aJ (j:=1) rfl) ?_;symm;rw[lB];rcases P1 with ⟨e1,e2⟩ | ⟨n1,n2,e1,n3⟩
   . subst e1 e2;rw[Po rfl];exists(bi #[1],λA M=>?_);have u:Same o (upd o A<|.lst []):=(Pr o).laid M;have b:=D.trans u;show mm F ok hc (u _ _<|y _ _ s) (u _ _ ep) (show(upd o A<|.lst []) A=↥(lsV []) from ak) l3 l2 Ls (λz C l e f=>qN z C l e<|b.trans f) (λO N C l e f=>qR O N C l e<|b.trans f) λz i B=>(λg C l e f=>(q z i B).1 g C l e<|b.trans f,λg P L G e f Y=>(q z i B).2 g P L G e (b.trans f) Y)
   . rw[Pl n1];exists ixL (y _ _ s) (v:=V.str (tx J)) (aJ (j:=1) rfl) ?_;exists(dg,?_);have S:Txt.split (tx J) (tx s!"; ")=I.map tx:=by rw[e1];show EL n2 n3
     rw[jW,S];show(by rw[aF];decide,by rw[aF];show bi #[4],by rw[Pj];show bi #[4],λA M=>?_);have u:Same o (upd o A<|.lst<|(I.map tx).map V.str):=(Pr o).laid M;have b:=D.trans u;show mm F ok hc (u _ _<|y _ _ s) (u _ _ ep) (show(upd o A<|.lst<|(I.map tx).map V.str) A=↥(lsV I) from ak) l3 l2 Ls (λz C l e f=>qN z C l e<|b.trans f) (λO N C l e f=>qR O N C l e<|b.trans f) λz i B=>(λg C l e f=>(q z i B).1 g C l e<|b.trans f,λg P L G e f Y=>(q z i B).2 g P L G e (b.trans f) Y)
end
local macro_rules|`(tactic|walk_at "w")=>wk9 ws4
inductive DkK where
 | Desk
 deriving DecidableEq
def K0{X:Cx}{x:Str}{C:Addr}{k n:Nat}{g:List Str}{a:Sp}{p pos:Pos}(M:KCal X.prog X.w X.K X.mg X.base k x C g a)(d:Room n X.A)(c:k+1<=n)(e:Gl X x)(b:(x==("__debug__":Str))=false:=by decide):PE X (.Call (.Name x p) [] [] pos) (tMake C a [] E0 tNil):=by
 obtain⟨f,j,mk,F,h,i⟩:=M.ex;show G7 mk F (d.mono c) e h i .nil xa b
local macro_rules|`(tactic|walk_at "w")=>wk9 ws5
def iu:d:=#[3,∃(a:Addr) (b:∅) (k:Int),vs=[.ref a,.int k]/\SqL K H a (b.map V.int)/\b.length<=63/\0<=k/\∀ i:Int,Q (.int i) H]
def kj:a:=#[":hrtc<1v{/ea0dkc{:e01skbi#0 "]
variable{K:Frag}{vs:List V}{H:Hp}{Q:VK}{E:XK}
def vx:R "'script 'k" iu kj K:=by
 obtain⟨a,d,k,rfl,c,e,k0,q⟩:=h;ac_nf;unfold kj;rw[aB,aT];exists(a,_,rfl,.inl c,?_);symm;rw[Pj];by_cases b:k < (d.length:Int)
 . rw[PK<|Po b];show(a,_,k,_,rfl,rfl,c,BM k0 b,q _)
 . rw[PF (by simpa using b)];show q _
def kB{a b:List Nat}(h1:a.length+b.length<=1000)(q:Q (.str<|tx<|a++b) H):cAdd (.str<|tx a) (.str<|tx b) H Q:=by
 rw[cw,lA];show(by rw[aF,aF];show bi h1,q)
def  NmOk(w:List Nat):Prop:=1<=w.length/\w.length<=8/\∀ c∈w,97<=c/\c<=122
def  NmOk.free{w:List Nat}(x:NmOk w):32∉w:=λh=>by have:=x.2.2 32 h;omega
def  abc:List Nat:=s!"abcdefghijklmnopqrstuvwxyz"
def K1{i:Int}(h0:0<=i)(h1:i<26):atI abc i=some (97+i.toNat):=by
 have:∀ n:Fin 26,atI abc ((n.val:Nat):Int)=some (97+n.val):=by decide
 have e:i=((i.toNat:Nat):Int):=by lia
 rw[e];show this (i.toNat,by lia)
def  ft:List Str:=[tx s!"puzzle",tx s!"check",tx s!"hint",tx s!"wrong"]
def  dm:List Str:=[tx s!"drop",tx s!"show",tx s!"solve",tx s!"book",tx s!"needs",tx s!"least"]
def  iw:List Str:=[tx s!"alike"]
def  puzC:List Nat:=s!"puzzle"
def  shoC:List Nat:=s!"show"
def EZ(xs:List V)(k:Nat):cutV xs (some (k:Int)) none=xs.drop k:=by
 have h1:HT.sIx xs.length 0 (some (k:Int))=min k xs.length:=by rw[HT.sIx_nat]
 have h2:HT.sIx xs.length xs.length none=xs.length:=rfl;unfold cutV;rw[h1,h2];by_cases a:k<=xs.length
 . rw[Nat.min_eq_left a,QZ (by simp)]
 . rw[Nat.min_eq_right #[4],List.drop_length,List.drop_eq_nil_of_le #[4]];simp
def  Fr74(H a:Hp)(c:Addr):Prop:=∀ b o,H b=some o->b≠c->a b=some o
def  Same.fr74{a:Hp}(s:Same H a)(c:Addr):Fr74 H a c:=λb o e _=>s b o e
variable{kd:Addr}
def  Fr74.trans{c d:Hp}(a:Fr74 H c kd)(b:Fr74 c d kd):Fr74 H d kd:=λx o e n=>b x o (a x o e n) n
def Fr74.upd{o:HO}:Fr74 H (upd H kd o) kd:=λb x e n=>by rw[ao n];show e
variable{d:TL}
def IsPz.fr{l:Hp}{c:TJ}{P L G:Addr}{h w g:Int}{rows:List RR}{cl:∅}{q:List (Key × V)}(x:IsPz H c d P L G h w g rows cl)(s:H kd=some (.dK q))(f:Fr74 H l kd):IsPz l c d P L G h w g rows cl:=by
 have a:∀ b o,H b=some o->(∀ k,o≠.dK k)->l b=some o:=λb o e n=>f b o e λz=>by rw[z,s]at e;show n q (QN e).symm
 obtain⟨j,p,v,h1,h2,h3⟩:=x.ex;show(x.ok,x.R,x.C,a _ _ x.gv nofun,j,p,v,a _ _ h1 nofun,a _ _ h2 nofun,(a _ _ h3.top nofun,h3.len,λi r y e1 e2=>?_));have m:=h3.at_ i r y e1 e2;obtain⟨j,W,C,t,u,A⟩:=m.ex;show(m.ok,j,W,C,a _ _ t nofun,a _ _ u nofun,a _ _ A nofun)
structure En where
 w:List Nat
 P:Addr
 L:Addr
 G:Addr
 h:Int
 wd:Int
 g:Int
 rows:List RR
 cl:∅
def  En.txt(x:En):List Nat:=pzT x.h x.wd x.g x.rows x.cl
abbrev kyS(w:List Nat):Key:=.inr (tx w)
def  En.kept(x:En):Key × V:=(kyS x.w ,.ref x.P)
def  lookE(L:List En)(w:List Nat):Option En:=L.find? λx=>decide (x.w=w)
def  putE(L:List En)(x:En):List En:=if (L.any λy=>decide<|y.w=x.w)=true then L.map λy=>if y.w=x.w then x else y else L++[x]
def  dropE(L:List En)(w:List Nat):List En:=L.filter λx=>decide (x.w≠w)
def K2(a b:List Nat):decide (kyS a=kyS b)=decide (a=b):=by
 by_cases h:a=b
 . subst h;simp
 . rw[Pl h,Pl];intro e;show h (gJ<|Sum.inr.inj e)
def  ky_iff{a b:List Nat}:kyS a=kyS b↔a=b:=(λe=>gJ<|Sum.inr.inj e,λe=>by rw[e])
def zl{f:En->Key × V}(a:∀ x,(f x).1=kyS x.w)(w:List Nat):∀ L:List En,valV (L.map f) (kyS w)=(lookE L w).map λx=>(f x).2
 | []=>rfl
 | x::L=>by
  have b:=zl a w L;by_cases e:x.w=w
  . rw[Pz,rb (by rw[a,e])];unfold lookE;rw[Sf (by simpa using e)];rfl
  . rw[Pz,re (by rw[a,ky_iff];show e),b];unfold lookE;rw[Sg (by simpa using e)]
variable{f:En->Key × V}
def JA(a:∀ x,(f x).1=kyS x.w)(L:List En)(x:En):putK (L.map f) (kyS x.w) (f x).2=(putE L x).map f:=by
 have b:(L.map f).any (λc=>decide<|c.1=kyS x.w)=L.any λy=>decide (y.w=x.w):=by
  rw[List.any_map]
  congr 1
  funext y
  change decide ((f y).1=kyS x.w)=_;rw[a,K2]
 unfold putK putE;rw[b];by_cases h:(L.any λy=>decide<|y.w=x.w)=true
 . rw[PK h,PK h,P8,P8];show QK λy _=>?_;change(if (f y).1=kyS x.w then((f y).1 ,(f x).2) else f y)=f (if y.w=x.w then x else y);by_cases e:y.w=x.w
   . rw[PK (by rw[a,e]),PK e,a,e,← a x]
   . rw[PF (by rw[a,ky_iff];show e),PF e]
 . rw[PF h,PF h,RM];change _++[(kyS x.w ,(f x).2)]=_++[f x];rw[← a x]
def HU(a:∀ x,(f x).1=kyS x.w)(L:List En)(w:List Nat):dropK (L.map f) (kyS w)=(dropE L w).map f:=by
 unfold dropK dropE;rw[List.filter_map]
 congr 1
 show List.filter_congr λx _=>?_;change decide ((f x).1≠kyS w)=decide (x.w≠w);rw[a];by_cases e:x.w=w
 . subst e;simp
 . rw[Po (show x.w≠w from e),Po (show kyS x.w≠kyS w from λz=>e<|ky_iff.mp z)]
def HV(L:List En)(x:En):(putE L x).length<=L.length+1:=by
 unfold putE
 split
 . rw[Pj];lia
 . simp
def  Gz(L:List En)(w:List Nat):(dropE L w).length<=L.length:=Rq _ _
variable{L:List En}{x:En}
def HW{y:En}(h:y∈putE L x):y=x\/y∈L:=by
 unfold putE at h
 split at h
 . obtain⟨z,a,rfl⟩:=PM.mp h
   split
   . show .inl rfl
   . show .inr a
 . rcases PN.mp h with h | h
   . show .inr h
   . show .inl (PJ.mp h)
def GA{w:List Nat}(h:lookE L w=some x):x∈L/\x.w=w:=by
 show(List.mem_of_find?_eq_some h,?_);have:=List.find?_some h
 simpa using this
structure IsDk(H:Hp)(c:TJ)(d:TL)(e:RCl DkK)(D kd:Addr)(L:List En):Prop where
 ok:e.ok .Desk=true
 ex:∃ dx,H D=some (.ins (e.A .Desk) dx [("kept" ,.ref kd)])
 kd:H kd=some (.dK<|L.map En.kept)
 at_:∀ x∈L,IsPz H c d x.P x.L x.G x.h x.wd x.g x.rows x.cl
 len:L.length<=100
variable{e:RCl DkK}{D:Addr}
def IsDk.same{a:Hp}{c:TJ}(x:IsDk H c d e D kd L)(s:Same H a):IsDk a c d e D kd L:=by
 obtain⟨b,h1⟩:=x.ex;show(x.ok,(b,s _ _ h1),s _ _ x.kd,λy f=>(x.at_ y f).same s,x.len)
def IsDk.set{c:TJ}{L2:List En}(x:IsDk H c d e D kd L)(m:∀ y∈L2,IsPz H c d y.P y.L y.G y.h y.wd y.g y.rows y.cl)(l:L2.length<=100):IsDk (upd H kd<|.dK<|L2.map En.kept) c d e D kd L2:=by
 obtain⟨a,h1⟩:=x.ex;show(x.ok,(a,Fr74.upd _ _ h1 λz=>by rw[z,x.kd]at h1;cases h1),ak,λy b=>(m y b).fr x.kd Fr74.upd,l)
def  iX(K:Frag)(c:TJ)(d:TL)(e:RCl DkK):Sp:=#[3,∃ D a,vs=[.ref D]/\e.ok .Desk=true/\H D=some (.ins (e.A .Desk) a [])/\∀ kd,H kd=none->Q .non (upd (upd H kd<|.dK []) D<|.ins (e.A .Desk) a [("kept" ,.ref kd)])]
def  kQ(K:Frag)(c:TJ)(d:TL)(e:RCl DkK):TS:=#[":;z0{;~x"]
def wJ{c:TJ}:R "self" iX kQ K c d e:=by
 obtain⟨D,f,rfl,b,h1,q⟩:=h;change kQ K c d e _ [↑D] H;unfold kQ;rw[IV];symm;intro p a;show(D,.Desk,f,[],rfl,b,?_,by decide,q p a);rw[ao (λz=>by rw[z,a]at h1;cases h1)];show h1
def GB{c:TJ}(x:IsDk H c d e D kd L)(w:List Nat):DGet H kd (.str<|tx w) ((lookE L w).map λy=>.ref y.P):=by
 have:=DGet.k (k:=kyS w) x.kd;rw[zl<|λ_=>rfl]at this;show this
def HX{c:TJ}{w:List Nat}{i j:Nat}{σ:St}(X:IsDk H c d e D kd L)(a:σ[i]? =some ↑D)(b:σ[j]? =some (some<|.str<|tx w))(q:Q (.bl<|!(lookE L w).isSome) H):yR (tVar j) (tFldK e (tVar i) "kept") σ H Q:=by
 obtain⟨f,h1⟩:=X.ex;show lw b (fldE a X.ok h1 (by rfl) (kd,_,rfl,GB X w,?_));rw[Sa];show q
def LJ{c:TJ}{w:List Nat}{i j:Nat}{σ:St}(X:IsDk H c d e D kd L)(f:lookE L w=some x)(a:σ[i]? =some ↑D)(b:σ[j]? =some (some<|.str<|tx w))(q:Q (.ref x.P) H):tDGet (tFldK e (tVar i) "kept") (tVar j) σ H Q:=by
 obtain⟨h,h1⟩:=X.ex;have g:=GB X w;rw[f]at g;show fldE a X.ok h1 (by rfl) (lw b (kd,_,rfl,g,q))
def  okC:List Nat:=s!"ok"
def  zm(K:Frag)(c:TJ)(d:TL)(e:RCl DkK)(_:DkK):Sp:=#[3,∃(D kd:Addr) (L:List En) (w:List Nat) (x:En),vs=[.ref D,.str<|tx w]/\IsDk H c d e D kd L/\lookE L w=some x/\
 ∀ a,Fr74 H a kd->IsDk a c d e D kd (dropE L w)->Q (.str<|tx okC) a]
def  t8(K:Frag)(c:TJ)(d:TL)(e:RCl DkK):Sp:=zm K c d e .Desk
def  oM(K:Frag)(c:TJ)(d:TL)(e:RCl DkK):TS:=#[":h:{?Qz0~x1kbfg`0",s!"ok"]
def Cw{c:TJ}:R "self name" t8 oM K c d e:=by
 obtain⟨D,kd,L,w,x,rfl,X,b,q⟩:=h;obtain⟨g,h1⟩:=X.ex;change oM K c d e _ [↑D,some<|.str<|tx w] H;unfold oM;symm;have v:=zl (f:=En.kept) (λ_=>rfl) w L;rw[b]at v;show fldE rfl X.ok h1 (by rfl) (kd,rfl,?_,lw rfl (_,kyS w,_,X.kd,rfl,v,?_))
 . show .inl (_,.inl X.kd)
 . rw[HU<|λ_=>rfl];show q _ Fr74.upd (X.set (λy a=>X.at_ y (Sw.mp a).1) (by have:=Gz L w;have:=X.len;lia))
def rV:f:=#[3,∃ P L G h w g a e,vs=[.ref P,.str<|tx shoC]/\IsPz H c d P L G h w g a e/\∀ b,Same H b->Q (.str<|tx<|pzT h w g a e) b]
def sC:c:=#[":hrtcxe1bfg`0kLshrtcxe1bfg`1kLshrtcxe1bfg`2kLskL",s!"solve",s!"book",s!"needs"]
def rW:c:=#[":hrtcxe1bfg`0k,{[enpa0ds{]enp",s!"show"]
def E2{c:TJ}:R "puzzle word" rV rW K c d:=by
 obtain⟨P,L,G,h,w,g,a,b,rfl,X,q⟩:=h;ac_nf;unfold rW;generalize sC K c d=V1;rw[aB,aT];symm;rw[show decide (tx shoC=tx s!"show")=true from rfl];show iteT ?_;show(P,L,G,h,w,g,a,b,rfl,X,q)
structure XD(K:Frag)(C D f:Addr):Prop where
 is:XIs K C
 oC:∃ nm q N bs sn sub ab col dd k0 k1 k2 k3 k5,K.lookup C=some (excClassObj nm q C N bs (.ref D::VE) true sn sub ab col dd k0 k1 k2 k3 k5 "ValueError.__new__")
 oD:∃ c0 dd cd sl,K.lookup D=some (c0,dd,.cls cd,sl)/\jK K cd.ns=true
 ini:findIn K (.ref C) "__init__"=some ↑f
 fn:isFn K (.ref f)=true
 kp:keepIn K (.ref C)=true
 sa:findIn K (.ref C) "__setattr__"=some (some<|.builtin "object.__setattr__")
section
variable{prog:Program}{w:World}{A:Around}{E:Value->Shared->Prop}{h:Heap}{g:Array GenState}{d:Drawn}{t:Nat}{os:OsState}{K:Frag}{C D f:Addr}
def DT(Z:XD K C D f)(X:K.In h):OwnTail h VE (.ref D::VE):=by
 obtain⟨i,g,c,j,d,e⟩:=Z.oD;obtain⟨k,b,a⟩:=mV X e;show .own (X _ _ d) b a .base
def Cy (Z:XD K C D f) (X:K.In h) {a:List Value} {Q:Fin->Shared->Prop}
  (y:∀ h' e,Heap.MadeExcOf h h' e (.ref C) a->h.objs.size<=e->
   wpAny (model prog w) A (call (.ref f) (.ref e::a)) (λr s'=>r=.none/\Q (.done<|.ret<|.ref e) s') E (h',g,d,t,os)) (i:a.length<=sizeLine):
  wpAny (model prog w) A (Builtin.«type.__call__» (.ref C::a,[])) Q E (h,g,d,t,os):=by
 have T:=DT Z X;obtain⟨F,q,G,L,I,v,H,u,J,k0,k1,k2,k3,k5,B⟩:=Z.oC;have j:=X _ _ B;have k:=Rz
 repeat (first | with_reducible show P6 j ?_ | with_reducible show wpAny_madeBy_exc j ?_ | wp_step)
 show codeAny_call_builtin_code (SS _ k.quiet) (wpAny_check_new_subU k (by decide+kernel) T j ?_);show codeAny_exc_new_subU k (by decide+kernel) k T j ?_ i;change wpAny _ _ _ _ _ _;have l:∀ b o,h.get? b=some o->((h.push {cls:=.type "tuple",data:=.seq a.toArray}).push {cls:=.ref C,data:=.fields #[.ref h.objs.size,.none,.none,.none,.bool false,.none]}).get? b=some o:=λb o e=>Pu _<|Pu _ e;have p:=X.keeps l;have m:=l _ _ j
 have c:((h.push {cls:=.type "tuple",data:=.seq a.toArray}).push
   {cls:=.ref C,data:=.fields #[.ref h.objs.size,.none,.none,.none,.bool false,.none]}).get? (h.objs.size+1)=some
   {cls:=.ref C,data:=.fields #[.ref h.objs.size,.none,.none,.none,.bool false,.none]}:=by heap_get
 have n:(Value.ref C::.ref D::VE).contains (.ref C)=true:=by simp
 unfold isInstance
 repeat (first | with_reducible show P6 c ?_ | (with_reducible show wpAny_isSubtype_exc m ?_;rw[n]) | wp_step)
 change wpAny _ _ (typeLookup (.ref C) _) _ _ _;show(Qp (M:=model prog w) p Z.ini).at ?_;show wpAny_holding<|PB<|(PySem.W.bind_fn p _<|Q3.mp Z.fn).here ?_;show PB (P7 (y _ (h.objs.size+1) (l,Qo<|RU _,h.objs.size,c,Qo<|Py _,?_)<|RU _) (λr s' z=>?_) λ_ _ x=>x)
 . show Pu _ (Heap.get?_push_at rfl rfl)
 . obtain⟨rfl,s⟩:=z
   wp_walk
   show s
def K3 (Z:XD K C D f) (X:K.In h) {a:List Value} {Q:Value->Shared->Prop}
  (m:∀ h' e,Heap.MadeExcOf h h' e (.ref C) a->h.objs.size<=e->
   wpAny (model prog w) (A.under<|.builtin "type.__call__" (.ref C::a,[])) (call (.ref f) (.ref e::a)) (λr s'=>r=.none/\Q (.ref e) s') E (h',g,d,t,os)) (b:a.length<=sizeLine):
  wpAny (model prog w) A (call (.ref C) a) Q E (h,g,d,t,os):=by
 obtain⟨x,q,B,y,v,k,p,l,s,k0,k1,k2,k3,k5,i⟩:=Z.oC;have c:=X _ _ i;have u:=tc_lookup;have z:=tc_bind<|.ref C;have o:((h,g,d,t,os):Shared).TypeIs (.ref C) "type":=(_,c,rfl);show Sm<|codeAny_of_tree ?_;change wpAny _ _ (callAny (.ref C) _) _ _ _
 repeat (any_goals (first | assumption | with_reducible show P6 c ?_ | wp_step))
 show(rfl,?_);show codeAny_call_builtin_at (SS _ (by decide+kernel)) entry_typeCall (wpAny_check_type_call_sub c<|Cy Z X (λh' e n j=>m h' e n j) b)
abbrev xob(C:Addr)(dx:Option Addr)(t:Addr):Obj:={cls:=.ref C,dict:=dx,data:=.fields #[.ref t,.none,.none,.none,.bool false,.none]}
def HY {M:Model} {s:Shared} {env:Env} {x:Sem Value} {Q:Flow->Shared->Prop} (Z:XD K C D f) (c:A.handled=none)
  (m:wpAny M A x (λv a=>∃ e dx t,v=.ref e/\K.In a.heap/\a.heap.get? e=some (xob C dx t)/\E (.ref e) a) E s):
  wpAny M A (raiseStmt env (some x) none) Q E s:=by
 unfold raiseStmt;show PB<|P7 m (λv a j=>?_) λ_ _ x=>x;obtain⟨e,dx,t,rfl,X,b,k⟩:=j;obtain⟨p,g,d,r,os⟩:=a;have h:=qp (M:=M) X Z.is.mb;obtain⟨u,q,w,F,z,l,y,i,B,k0,k1,k2,k3,k5,o⟩:=Z.oC;have n:=X _ _ o
 repeat (first | with_reducible show P6 b ?_ | with_reducible show P6 n ?_ | with_reducible show h.at ?_ | wp_step)
 show wpAny_raiseNew_none c k
def HZ (Z:XD K C D f) (X:K.In h) {x i:Addr} {v:Value} {Q:Value->Shared->Prop} (c:h.get? x=some (xob C none i))
  (p:∀ h' t',(∀ b o,b≠x->h.get? b=some o->h'.get? b=some o)->h'.get? x=some (xob C none t')->Q .none (h',g,d,t,os)):
  wpAny (model prog w) A (call (.builtin "ValueError.__init__") [.ref x,v]) Q E (h,g,d,t,os):=by
 have T:=DT Z X;obtain⟨y,q,B,z,u,m,r,n,s,k0,k1,k2,k3,k5,k⟩:=Z.oC;have j:=X _ _ k;have a:=Rz;show Sm (Rb a.init.plain a.initEntry<|wpAny_check_init_subU a T j c rfl ?_)
 wp_walk
 show p _ h.objs.size (λb o l e=>?_) ?_
 . rw[QY _ _<|Rt l];show Pu _ e
 . rw[Rr _ (Pu _ c) rfl];rfl
def E3 (Z:XD K C D f) (X:K.In h) {x z:Addr} {v:Value} {a:Str} {I:Tok} {Q:Fin->Shared->Prop} (O:findIn K (.ref C) a=some none) (n:h.get? x=some (xob C none z))
  (U:∀ h' dx u,h.objs.size<=dx->(∀ b o,b≠x->h.get? b=some o->h'.get? b=some o)->h'.get? x=some (xob C (some dx) z)->h'.Ns1 dx (λy=>if y=a then some v else none)->Q (.done<|.ret .none) (h',g,d,u,os)):
  wpAny (model prog w) A (Builtin.«object.__setattr__» ([.ref x,.str a I,v],[])) Q E (h,g,d,t,os):=by
 obtain⟨nm,q,Nc,bs,sn,S,ab,R,dd,k0,k1,k2,k3,k5,l1⟩:=Z.oC;have W:=X _ _ l1;have j:=SV.passes<|.ref x;have P:=Qp (M:=model prog w) X O;unfold Builtin.«object.__setattr__»;obtain⟨o,eo⟩:∃ o,o=xob C none z:=(_,rfl);rw[← eo]at n;have Y:o.cls=.ref C:=by rw[eo]
 have s:o.dict=none:=by rw[eo]
 repeat (first | rw[refuse_eq] | (rw[refuseLoop_ref,refuseLoop_ref,j]) | (with_reducible show P6 n ?_;rw[Y]) | with_reducible show wpAny_mroOf_exc W ?_ | with_reducible show P.at ?_ | wp_step)
 rw[s,PF (by simp[typeHasDict])]
 split
 . rename_i i
   cases i
 split
 . rename_i c i
   rw[eo]at i;cases i
 have k:(h.push {cls:=.type "dict",data:=.dict #[]}).get? x=some o:=Pu _ n;have m:x≠h.objs.size:=P5<|PQ n;show PB (wpAny_alloc'<|PB<|wpAny_update' k<|P9 ?_)
 have H:((h.push {cls:=.type "dict",data:=.dict #[]}).update x λo=>{cls:=o.cls,dict:=some h.objs.size,data:=o.data,slots:=o.slots}).get? h.objs.size
   =some {cls:=.type "dict",data:=.dict #[]}:=(Heap.get?_update_ne _ _ _ _ m.symm).trans (Heap.get?_push_at rfl rfl)
 have p:((h.push {cls:=.type "dict",data:=.dict #[]}).update x λo=>{cls:=o.cls,dict:=some h.objs.size,data:=o.data,slots:=o.slots}).Ns h.objs.size (λ_=>none):=
  (_,#[],_,H,rfl,λe N=>absurd N (by simp),λ_=>rfl)
 change wpAny _ _ (Builtin.ObjectAttr.storeInDict h.objs.size (.str a I) a v) _ _ _;unfold Builtin.ObjectAttr.storeInDict Builtin.ObjectAttr.newKeyGuard;show PB<|P9<|PB<|wpAny_nsSet1 (Heap.Ns1.of_empty p) λh' l J=>?_;obtain⟨oD,aa,T,F,G,r⟩:=l.count<|Within.cons a v Within.nil;show PB (wpAny_lookBehind F (by rw[G];show pastItsLine_dict<|Pk r (by rw[PR,To,Su];lia)) ?_)
 wp_walk
 show U h' h.objs.size _ (Py _) (λb ob B L=>?_) ?_ l
 . show(J.2 b<|P5<|PQ L).trans ((Heap.get?_update_ne _ _ _ _ B).trans<|Pu _ L)
 . show(J.2 x m).trans ((Rr _ k ?_).trans ?_)
   . rw[eo];rfl
   . rw[eo]
def E4{M:Model}(Z:XD K C D f)(X:K.In h){x c:Addr}{v a:Value}{dx:Option Addr}{Q:Unit->Shared->Prop}(j:h.get? x=some (xob C dx c))(e:Q () (h,g,d,t,os)):
  wpAny M A (checkBuiltinCall "object.__setattr__" ([.ref x,a,v],[])) Q E (h,g,d,t,os):=by
 have b:=SV;have i:=qp (M:=M) X Z.is.mo;have k:=b.args (.ref x) a v;simp only[checkBuiltinCall,b.kind,b.split];show PB ?_;unfold isInstance
 repeat (first | (with_reducible show P6 j ?_) | with_reducible show i.at ?_ | wp_step)
 show e
def K4 (Z:XD K C D f) (X:K.In h) {x e:Addr} {v:Value} {a:Str} {Q:Unit->Shared->Prop} (q:findIn K (.ref C) a=some none) (j:h.get? x=some (xob C none e))
  (p:∀ h' dx c,h.objs.size<=dx->(∀ b o,b≠x->h.get? b=some o->h'.get? b=some o)->h'.get? x=some (xob C (some dx) e)->h'.Ns1 dx (λy=>if y=a then some v else none)->Q () (h',g,d,c,os)):
  wpAny (model prog w) A (setAttr (.ref x) a v) Q E (h,g,d,t,os):=by
 have i:=SV;have u:=i.slot.bind<|.ref x;have n:=Qp (M:=model prog w) X Z.sa;have z:=λ(M:Model)=>qp (M:=M) X Z.is.mo;have s:(xob C none e).cls=.ref C:=rfl;unfold setAttr callSpecial? specialOf
 repeat (any_goals (first | assumption | (with_reducible show P6 j ?_) | with_reducible show n.at ?_ | wp_step))
 show Rb i.slot.plain i.entry (E4 Z X j<|E3 Z X q j λh' dx c k l r m=>?_)
 repeat (any_goals (first | assumption | wp_step))
 show p h' dx c k l r m
def Ia {a dx l:Addr} {o:Obj} {vs:Array Value} {c:Str->Option Value} {b:Str} {r:Tok} {Q:Fin->Shared->Prop} (X:K.In h) (Z:XD K C D f) (k:findIn K (.ref C) b=some none) (e:h.get? a=some o) (i:o.cls=.ref C) (j:o.data=.fields vs) (s:o.dict=some dx) (n:h.Ns dx c) (m:c b=↑l)
  (H:Q (.done<|.ret<|.ref l) (h,g,d,t,os)):
  wpAny (model prog w) A (Builtin.«object.__getattribute__» ([.ref a,.str b r],[])) Q E (h,g,d,t,os):=by
 have p:=Qp (M:=model prog w) X k;unfold Builtin.«object.__getattribute__»
 repeat (any_goals (first | assumption | (with_reducible show P6 e ?_;rw[i]) | with_reducible show p.at ?_ | wp_step))
 rw[j];unfold instanceDict;obtain⟨z,q,B,J,G,v,F,u,I,k0,k1,k2,k3,k5,y⟩:=Z.oC;have x:=X _ _ y
 repeat (any_goals (first | assumption | (with_reducible show P6 e ?_;rw[s,i]) | with_reducible show P6 x ?_ | (with_reducible show wpAny_nsGet n ?_;rw[m]) | wp_step))
def LK {a dx l:Addr} {o:Obj} {vs:Array Value} {m:Str->Option Value} {b:Str} {u:Tok} {e c:Bool} {Q:Value->Shared->Prop} (X:K.In h) (Z:XD K C D f) (p:findIn K (.ref C) b=some none) (j:h.get? a=some o) (k:o.cls=.ref C) (n:o.data=.fields vs) (x:o.dict=some dx) (r:h.Ns dx m) (q:m b=↑l)
  (G:Q (.ref l) (h,g,d,t,os)):
  wpAny (model prog w) A (getAttrBy (.ref a) (.str b u) e c) Q E (h,g,d,t,os):=by
 have B:=Sc.ga.bind<|.ref a;have y:(c&&onTheHeap (Value.builtin "BaseException.__getattribute__"))=false:=by cases c <;> rfl
 have i:(Value.builtin "BaseException.__getattribute__"==Value.builtin "object.__getattribute__")=false:=by decide+kernel
 have z:(onTheHeap (Value.ref C)&&Value.builtin "BaseException.__getattribute__"==Value.builtin "object.__getattribute__")=false:=by rw[i];rfl
 have s:=Qp (M:=model prog w) X Z.is.ga;have v:=Qp (M:=model prog w) X Z.is.gx
 repeat (any_goals (first | assumption | (with_reducible show P6 j ?_;rw[k]) | with_reducible show s.at ?_ | with_reducible show v.at ?_ | wp_step))
 show Rb Sc.ga.plain F.entry_bexc_ga (DE X Z.is j k<|Ia X Z p j k n x r q ?_)
 repeat (any_goals (first | assumption | wp_step))
def JB {a dx l:Addr} {o:Obj} {vs:Array Value} {e:Str->Option Value} {b:Str} {c:Bool} {Q:Value->Shared->Prop} (X:K.In h) (Z:XD K C D f) (q:findIn K (.ref C) b=some none) (p:h.get? a=some o) (j:o.cls=.ref C) (m:o.data=.fields vs) (n:o.dict=some dx) (k:h.Ns dx e) (i:e b=↑l)
  (r:Q (.ref l) (h,g,d,t+1,os)):wpAny (model prog w) A (getAttr (.ref a) b c) Q E (h,g,d,t,os):=by
 unfold getAttr
 repeat (any_goals (first | assumption | with_reducible apply LK X Z q p j m n k i | wp_step))
end
def  XQ(x C:Addr)(dx:Option Addr):Heap->Prop:=λh=>∃ t,h.get? x=some (xob C dx t)
def  E5{P:Program}{w:World}{H:Hp}{h:Heap}{x C t:Addr}{dx:Option Addr}(e:h.get? x=some (xob C dx t)):ObjOk P w H h x (.ext<|XQ x C dx):=((t,e),(_,e),λ_ _ ⟨t,q⟩ k=>(t,k _ q))
def K5{H:Hp}{a:Addr}{o:HO}(e:H a=some o):upd H a o=H:=by
 funext b
 unfold upd
 split
 . rename_i z;rw[z];show e.symm
 . rfl
structure XI(K:Frag)(D:Addr):Prop where
 rd:PySem.W.readsIn K D (.type "type")=true
 ga:PySem.W.specialIn K (.ref D) "__getattribute__"=some (some<|.builtin "type.__getattribute__")
 fi:PySem.W.findCls K (.ref D) (.type "type") "__init__"=some (.val<|.builtin "ValueError.__init__")
def  tXini(C:Addr)(t:TA):TE:=λσ H Q=>t σ H λvs a=>∃ x v,vs=[.ref x,v]/\a x=some (.ext<|XQ x C none)/\Q .non a
def  sXset(C:Addr)(d g:TE)(f:Str):TS:=λD σ H=>g σ H λy e=>d σ e λx c=>∃ a,x=.ref a/\c a=some (.ext<|XQ a C none)/\∀ b,c b=none->D.nx σ (upd (upd c b<|.xd [(f ,y)]) a<|.ext<|XQ a C<|some b)
def  tXat(K:Frag)(c:TE)(f:Str):TE:=λσ H Q=>c σ H λv a=>∃ x C d b l,v=.ref x/\a x=some (.ext<|XO x C<|some d)/\a d=some (.xd b)/\b.lookup f=↑l/\(∃ D g,XD K C D g)/\findIn K (.ref C) f=some none/\Q (.ref l) a
section
variable{X:Cx}{C D fI:Addr}{o e value:Expr}{es:List Expr}{f x:Str}{p pos apos pos':Pos}{ta tv:TE}{t:TA}
def JC {pl:Sem Bool} (Z:XD X.K C D fI) (Y:XI X.K D) (w:Gl X x) (M:X.mg x=↑D) (u:PA X (e::es) t) (b:(x==("__debug__":Str))=false:=by decide)
  (c:starEach (e::es) X.env=(false ,eval e X.env)::starEach es X.env:=by rfl) (i:(backTo pos<|starEach es X.env).any (·.1)=false:=by rfl)
  (B:eval (.Call (.Attribute (.Name x p) "__init__" apos) (e::es) [] pos) X.env=(do
   let ov ← eval (.Name x p) X.env
   standAt apos.atName
   let (f ,first) ← holding [ov] (getMethod ov "__init__" pl)
   callWith pos f first (backTo pos<|starEach (e::es) X.env) (backToKw pos<|keywordEach [] X.env)):=by rfl):
  PE X (.Call (.Attribute (.Name x p) "__init__" apos) (e::es) [] pos) (tXini C t):=by
 intro J s σ H Q I h;show Q6 (pl:=pl) (jT I w M ?_ b) B;show PySem.W.method_cls I.kIn Y.ga (PySem.W.cls_value I.kIn Y.rd Y.fi (by decide+kernel) ?_);have m:=u pos J {s with toks:=s.toks+1} σ H _ (I.tok _) h;rw[c]at m ⊢;show PySem.W.callWith_of (P:=λ_=>True) (by change((false||(backTo pos<|starEach es X.env).any (·.1))||false)=false;rw[i];rfl) (λ_ _=>(.machine,.inr<|.inl rfl,.now))<|Rx<|thn m λT L ⟨vs,A,j,r,y,v,F,l,q⟩=>(True.intro,?_);subst F;obtain⟨u1,U,rfl,O,S⟩:=Bi r;cases O;obtain⟨⟨t0,N⟩,_⟩:=j.hok y _ l;obtain⟨R,g,d,G,os⟩:=L;show HZ Z j.kIn N λn E k a=>(.non,A,?_,rfl,q);have z:=j.write (x:=y) (e:=y) (o:=.ext (XQ y C none)) (h':=n) (t':=G) (by rw[l];trivial) (.inl rfl) k (_,a) (E5 a)
 rwa [K5 l]at z
def JD(Z:XD X.K C D fI)(R:findIn X.K (.ref C) f=some none)(O:PE X o ta)(S:PE X value tv)(hs:swapsWith value (some<|.Attribute o f pos') pos.line X.env=pure false:=by rfl):PS X (.Assign [.Attribute o f pos'] value pos) (sXset C ta tv f):=by
 intro L s σ H D' I h;show Si (thn (S L s σ H _ I h) λu T ⟨y,H1,I1,ry,q⟩=>thn (O L T σ H1 _ I1 q) λov Y ⟨x,w,m,Q,a,ex,ea,q2⟩=>?_) hs;subst ex;obtain rfl:ov=Value.ref a:=Q;obtain⟨⟨t0,hx⟩,_⟩:=m.hok a _ ea;obtain⟨P,g,d,tk,os⟩:=Y;show K4 Z m.kIn R hx λJ i F M A N a4=>?_;have B:w i=none:=m.hok.fresh M;have ne:i≠a:=λz=>by rw[z,ea]at B;cases B
 have W:∀ b o,P.get? b=some o->b≠i:=λb o e=>P5<|PU (PQ e) M;have j:∀ b,w b=none->b≠a:=λb n z=>by rw[z,ea]at n;cases n
 have t:∀ b u,w b=some u->(∀ φ,u≠.ext φ)->upd (upd w i<|.xd [(f ,y)]) a (.ext<|XQ a C<|some i) b=some u:=λb u e n=>by
  rw[ao λz=>by rw[z,ea]at e;cases e;show n _ rfl,ao<|aI e B];show e
 show(σ,_,m.call (ch:=[]) (h':=J) (g':=g) (d':=d) (t':=F) (λb o e n _ _=>A b o (j b n) e,λb o e n _ _=>(o.slots,A b o (j b n) e),λb o e n _=>?_,λb o e _=>?_,λb U e=>t b _ e (λ_ z=>by cases z),λb o u e=>t b _ e (λ_ z=>by cases z),λb ps e=>(#[],by rw[t b _ e (λ_ z=>by cases z)];simp)) (λb u e=>?_) m.bare λb z=>absurd z (by simp),q2 i B)
 . rw[ao<|j b n,ao<|W b o e];show n
 . by_cases l:b=a
   . rw[l];show(_,N)
   . show(o,A b o l e)
 . by_cases l:b=a
   . subst l;rw[ak]at e;cases e;show E5 N
   . rw[ao l]at e;by_cases p:b=i
     . subst p;rw[ak]at e;cases e;show(_,a4,λk=>?_);by_cases G:k=f
       . subst G;simp[List.lookup];show ry
       . have:(k==f)=false:=by simpa using G
         simp[List.lookup,this,G];trivial
     . rw[ao p]at e;show(m.hok b u e).stay (λc v E r=>A c v ?_ r) (λc r=>t c _ r<|λ_ z=>by cases z) λc U r=>t c _ r (λ_ z=>by cases z);rcases E with rfl | E
       . show l
       . rintro rfl;rw[ea]at E;cases E
def K6(i:PE X e ta)(j:attributeBase e f X.env (eval e X.env)=eval e X.env:=by rfl):PE X (.Attribute e f pos) (tXat X.K ta f):=by
 intro A s σ H Q I h;show Ds j<|thn (i A s σ H _ I h) λu y ⟨x,E,b,k,a,C,d,O,l,J,ea,n,v,⟨D,g,Z⟩,p,q⟩=>?_;subst J;obtain rfl:u=Value.ref a:=k;obtain⟨⟨o,vs,F,G,m,B⟩,_⟩:=b.hok a _ ea;obtain⟨c,w,r⟩:=b.hok d _ n
 have t:c f=↑l:=by
  have z:=r f;rw[v]at z
  cases q:c f with
  | none=>rw[q]at z;cases z
  | some u=>rw[q]at z;cases z;rfl
 obtain⟨L,g,N,M,P⟩:=y;show JB b.kIn Z p F G m (B d rfl) w.ns t (.ref l,E,b.tok _,rfl,q)
end
def  spXI(C:Addr)(f:Str):Sp:=#[3,∃ x a c,vs=[.ref x,.ref a]/\H x=some (.ext<|XQ x C none)/\H a=↥c/\
 ∀ l b,H l=none->H b=none->l≠b->Q .non (upd (upd (upd H l<|.lst c) b<|.xd [(f ,.ref l)]) x<|.ext<|XQ x C<|some b)]
def  vg(E:XK)(C:Addr)(f:Str)(t:TA):TS:=λ_ σ H=>t σ H λvs c=>∃ a g,vs=[.ref a]/\c a=↥g/\
 ∀ l e d,c l=none->c e=none->d l=↥g->d e=some (.xd [(f ,.ref l)])->(∀ b o,c b=some o->d b=some o)->E (.ref C) (some e) d
section
variable{P:Program}{w:World}{K:Frag}{mg:Str->Option Value}{base:Heap}{N:List Str}{qual:Str}{scope:Scope}{f:Addr}{cd:Value}{A:Around}{outer:List Env}{s₀:Shared}{H₀:Hp}{E:XK}
def GC {Pc:List (Addr × Obj)} {σ:St} {H a:Hp} {s s':Shared} {h1:Heap} {x C dx:Addr} {o3:HO} (I:Inv (cx1 P w K mg base N qual scope f cd A outer s₀ H₀ E) Pc σ H s) (J:s.heap.objs.size<=x) (kp:∀ b o,s.heap.get? b=some o->h1.get? b=some o)
  (G:s'.os=s.os) (l:AllBare s'.gens) (un:Un (frs (envOfC qual scope s₀.heap.objs.size f cd::outer)) [] (upd H x o3) a h1 s'.heap) (B:HOk P w a s'.heap) (h3:a x=some (.ext<|XQ x C<|some dx)) (q:E (.ref C) (some dx) λb=>if b=x then none else a b):
  (∃ t,s'.heap.get? x=some (xob C (some dx) t))/\(cx1 P w K mg base N qual scope f cd A outer s₀ H₀ E).xe (.ref x) s':=by
 obtain⟨⟨t,y⟩,_⟩:=B x _ h3;show((t,y),?_);have D:H x=none:=I.hok.fresh J;have nx:s.heap.get? x=none:=Qo J
 have v:∀ b u,a b=some u->(∀ φ,u≠.ext φ)->(λb=>if b=x then none else a b) b=some u:=λb u e n=>by
  change(if b=x then none else a b)=_;rw[PF λz=>by rw[z,h3]at e;cases e;show n _ rfl];show e
 have k:Un (frs (envOfC qual scope s₀.heap.objs.size f cd::outer)) [] H a s.heap s'.heap:=(Un.laid kp J D).trans un
 have Z:Un (frs (envOfC qual scope s₀.heap.objs.size f cd::outer)) [] H (λb=>if b=x then none else a b) s.heap s'.heap:=
  (k.keep,k.slot,λb o e n z=>by change(if b=x then none else a b)=none;split;rfl;show k.free b o e n z,k.there,λb Y e=>v b _ (k.tups b Y e) (λ_ z=>by cases z),λb o u e=>v b _ (k.frzs b o u e) (λ_ z=>by cases z),λb ps e=>by
   obtain⟨m,z⟩:=k.tbls b ps e;show(m,v b _ z<|λ_ z=>by cases z))
 have F:HOk P w (λb=>if b=x then none else a b) s'.heap:=λb u e=>by
  have e':a b=some u:=by
   have e:(if b=x then none else a b)=some u:=e
   split at e
   . cases e
   . show e
  show(B b u e').stay (λ_ _ _ r=>r) (λc r=>v c _ r<|λ_ z=>by cases z) λc Y r=>v c _ r (λ_ z=>by cases z)
 have j:∀ b∈frs (envOfC qual scope s₀.heap.objs.size f cd::outer),H b=none:=I.stkFree;have ff:s'.heap.FunFrames base (envOfC qual scope s₀.heap.objs.size f cd::outer):=qo I.stack (λb i=>(i,j b i)) Z;change wpAny (model P w) (A.deeper<|envOfC qual scope s₀.heap.objs.size f cd) («leaving» (envOfC qual scope s₀.heap.objs.size f cd)<|.ref x) _ _ s';have O:∀ b∈frs (envOfC qual scope s₀.heap.objs.size f cd::outer),b∈frs (envOfC qual scope s₀.heap.objs.size f cd::outer)++[x]:=λb i=>Qi _ i;show(om _ _).any (wpAny_leaving_firstW (Q:=λ_ sN=>∃ p,sN={s' with heap:=p}/\Heap.LeftW (PySem.W.hideAll s'.heap<|frs (envOfC qual scope s₀.heap.objs.size f cd::outer)++[x]) (envOfC qual scope s₀.heap.objs.size f cd::outer) x (.ref C) (.ref t) s'.heap p) (a0:=.ref t) (L:=s₀.heap.objs.size) I.ok.frames (mv ff O) rfl y (λb o e=>Q0 _ e) (Qh _ (by simp)) rfl rfl rfl λp hL=>(p,rfl,hL)) ?_;rintro _ _ ⟨p,rfl,k1,_,⟨S,M,U,R,T,a1,X,a3,a4,a5,a6,a7,a8,a9⟩,up⟩ dk;have g:∀ b o,s'.heap.get? b=some o->b∉frs (envOfC qual scope s₀.heap.objs.size f cd::outer)->b∉[x]->p.get? b=some o:=λb o e i y=>k1 b o<|Qw _ e λz=>(PN.mp z).elim i y;show(x,U,C,some dx,_,rfl,wy (env:=envOfC qual scope s₀.heap.objs.size f cd) (base:=base) (s:=s) (sA:=s') (L:=s₀.heap.objs.size) (ex:=[x]) (G.trans I.os) l rfl (Qo<|Py _) I.base I.stack j Z F (λb i=>?_) g up nx (PK rfl) (λo e=>?_) (S,M,R,T,_,a1,X.1,X.2,a3,a4,a6,a7,a8,a9),(DX.dk (h:=s'.heap) (λd e=>(_,y,e)) dk),q)
 . simp only[Pw,Qf,Ra]at i;subst i;show(nx,PK rfl)
 . by_cases z:U∈frs (envOfC qual scope s₀.heap.objs.size f cd::outer)++[x]
   . show PN.mp z
   . rw[Qw _ e z]at a5;cases a5
structure XCal(P:Program)(w:World)(K:Frag)(mg:Str->Option Value)(base:Heap)(k:Nat)(x:Str)(C:Addr)(ps:List Str)(fn:Str):Prop where
 ex:∃(D fI:Addr) (fd:FuncData),XD K C D fI/\FnOk P w K mg base CX0 k fI fd ps (spXI C fn)/\mg x=↑C/\Binds K fd ps []
def Aj {C:Addr} {k n:Nat} {x:Str} {ps:List Str} {fn:Str} {np m pos:Pos} {X:Expr} {c:List Expr} {t:TA} (Z:XCal P w K mg base k x C ps fn) (hr:Room n (cx1 P w K mg base N qual scope f cd A outer s₀ H₀ E).A) (hk:k+1<=n) (hg:Gl (cx1 P w K mg base N qual scope f cd A outer s₀ H₀ E) x)
  (ha:PA (cx1 P w K mg base N qual scope f cd A outer s₀ H₀ E) (X::c) t) (aa:(x==("__debug__":Str))=false:=by decide)
  (he:starEach (X::c) (envOfC qual scope s₀.heap.objs.size f cd)=(false ,eval X<|envOfC qual scope s₀.heap.objs.size f cd)::starEach c (envOfC qual scope s₀.heap.objs.size f cd):=by rfl)
  (p:(backTo m<|starEach c<|envOfC qual scope s₀.heap.objs.size f cd).any (·.1)=false:=by rfl):
  PS (cx1 P w K mg base N qual scope f cd A outer s₀ H₀ E) (.Raise (some<|.Call (.Name x np) (X::c) [] m) none pos) (vg E C fn t):=by
 intro Pc s σ H D' I h;obtain⟨D,fI,fd,Z,Fi,hm,hb⟩:=Z.ex;rw[arm_exec_Raise];show PB<|S4<|HY Z (I.ok.hd rfl) ?_;simp only[evalOpt,Option.map];show PB<|P7 ?_ (λv s₃ h₃=>PB<|S4<|P9 h₃) λ_ _ x=>x;show Qz<|jT I hg hm ?_ aa;show QT (h₀:=base) I.ok.mod.kin Z.kp (thn (ha m Pc s σ H _ I h) λus s1 ⟨vs,S,W,r,a,xs,ev,ea,q⟩=>(W.kIn,?_)) he p;subst ev;obtain⟨u,rfl,ru⟩:=fj r;cases ru;obtain⟨hh,g,d,tk,os⟩:=s1;show K3 Z W.kIn (λh' y G hl=>?_) (by change 1<=sizeLine;decide);obtain⟨t0,hx,_⟩:=G.there;have J:S y=none:=W.hok.fresh hl;have I2:=W.laid (a:=y) (o:=.ext (XQ y C none)) (h':=h') (t':=tk) G.keeps hl<|E5 hx;have M:a≠y:=λz=>by rw[z,J]at ea;cases ea
 show Sm (RX (Fi.run _ (cx1 P w K mg base N qual scope f cd A outer s₀ H₀ E).stack _ _ ([.ref y,.ref a],[]) [.ref y,.ref a] [.ref y,.ref a] (λv F=>v=.non/\∃ l i,S l=none/\S i=none/\l≠y/\i≠y/\l≠i/\F=upd (upd (upd (upd S y<|.ext<|XQ y C none) l<|.lst xs) i<|.xd [(fn ,.ref l)]) y (.ext<|XQ y C<|some i)) E0
  ((hr.mono hk).make C _ []) (I2.env0.make C _ []) (by have:=hb {heap:=h',gens:=g,drawn:=d,toks:=tk,os:=os} [.ref y,.ref a] I2.kIn;rw[QI]at this;show this (by have z:=Fi.len [.ref y,.ref a] (upd S y<|.ext<|XQ y C none) (λ_ _=>True) E0 (y,a,xs,rfl,ak,by rw[ao M];show ea,λ_ _ _ _ _=>True.intro);show z)) (.cons rfl<|.cons rfl .nil) (y,a,xs,rfl,ak,by rw[ao M];show ea,λl i e1 e2 ne=>?_)) λr s' j=>?_)
 . have U:l≠y:=λz=>by rw[z,ak]at e1;cases e1
   have R:i≠y:=λz=>by rw[z,ak]at e2;cases e2
   rw[ao U]at e1;rw[ao R]at e2;show(rfl,l,i,e1,e2,U,R,ne,rfl)
 . cases r with
   | error e=>show False.elim j
   | ok fl=>
    cases fl with
    | ret u=>
     obtain⟨v,F,O,B,un,T,rv,ev,l,i,e1,e2,U,R,nl,Y⟩:=j;subst ev;have h3:F y=some (.ext<|XQ y C<|some i):=by rw[Y];show ak
     have z:=GC (E:=E) (C:=C) (dx:=i) W hl G.keeps O B un T h3 (q l i _ e1 e2 ?_ ?_ λb o L=>?_)
     . obtain⟨⟨t1,ab⟩,z⟩:=z;show(rv,y,some i,t1,rfl,(I2.after (Q:=λ_ _=>True) (.non,F,O,B,un,T,(show RelV .non .none from rfl),True.intro)).choose_spec.choose_spec.1.kIn,ab,z)
     . change(if l=y then none else F l)=_;rw[PF U,Y,ao U,ao nl,ak]
     . change(if i=y then none else F i)=_;rw[PF R,Y,ao R,ak]
     . change(if b=y then none else F b)=_;have nb:b≠y:=λz=>by rw[z,J]at L;cases L
       rw[PF nb,Y,ao nb,ao<|aI L e2,ao<|aI L e1,ao nb];show L
    | next=>show False.elim j
    | brk=>show False.elim j
    | cont=>show False.elim j
end
def  WTc:List (List Nat):=[s!"puzzle",s!"check",s!"hint",s!"wrong"]
def  WNc:List (List Nat):=[s!"drop",s!"show",s!"solve",s!"book",s!"needs",s!"least"]
def  W2c:List (List Nat):=[s!"alike"]
def txin{w:List Nat}{l:List (List Nat)}:decide (tx w∈l.map tx)=decide (w∈l):=by
 have:tx w∈l.map tx↔w∈l:=(λh=>by obtain⟨x,a,e⟩:=PM.mp h;rw[← gJ e];show a,λh=>PM.mpr (w,h,rfl));show Te.mpr this
def  wrdW(a:List (List Nat)):Option (List<|List Nat):=
 if decide (a.headD []∈WTc)&&decide (3<=a.length) then some [a.headD [],a.getD 1 [],catL 32<|a.drop 2]
 else if decide (a.headD []∈WNc)&&decide (a.length=2) then some a
 else if decide (a.headD []∈W2c)&&decide (a.length=3) then some a else none
structure RwOk(ws:List (List Nat)):Prop where
 ne:ws≠[]
 fr:∀ w∈ws,32∉w
 len:(catL 32 ws).length<=900
 n:ws.length<=900
 w:∀ w∈ws,w.length<=900
def kK:d:=λvs H Q E=>∃ v:V,vs=[v]/\((NoStr H v/\bB K "NoRow" H E)\/∃ a,v=.str (tx<|catL 32 a)/\RwOk a/\(∀ c,wrdW a=some c->∀(l:Addr) (b:Hp),Same H b->b l=↥((c.map tx).map V.str)->Q (.ref l) b)/\(wrdW a=none->bB K "NoRow" H E))
variable{K:Frag}{vs:List V}{H:Hp}{Q:VK}{E:XK}
def AS(h:kK K vs H Q E):vs.length=1:=by
 obtain⟨_,rfl,_⟩:=h;rfl
def  iY(K:Frag)(a:EA)(E:XK):TS:=#[":Bo~Yabfg`0d",s!"this is none of the desk's rows"]
def  iZ(K:Frag)(a:EA)(E:XK):TS:=#[":hr~AwX{^Ecm1bi#0 tcxevHa1dbi#3 k1s}aeKo"]
def  i0(K:Frag)(a:EA)(E:XK):TS:=#[":hr~AwX'xEcm1bi#0 tcxevHa1dbi#2 k1s}beKo"]
def  kR(K:Frag)(a:EA)(E:XK):TS:=#[":hr~AwX'yEcm1bi#0 tc)vHa1dbi#3 kuacm1bi#0 acm1bi#1 aCeD~pbfg`0a[]1/bi#2 ~edds}ceKo",[32]]
def  kL(K:Frag)(a:EA)(E:XK):TS:=#[":hrGwvVa0abTDdBo~Yabfg`0dshqCeD~a0abfg`1dl#1 }deKo",s!"a row is a text",[32]]
variable{o:List Addr}
def AT{a:EA}(R:ag K a "NoRow" a.NoRow o)(h:kK K vs H Q E):kL K a E (eD9 Q) (start ["row","words"] vs) H:=by
 obtain⟨v,rfl,h⟩:=h;change kL K a E _ [some v,none] H;unfold kL;generalize M:kR K a E=V2;rw[aB,aT];symm;rcases h with ⟨U,q⟩ | ⟨C,rfl,O,q,b⟩
 . show Gv U ?_;symm;rw[bf];exists(lnR rfl,q _ R.g _<|Pr H)
 have G:Txt.split (tx<|catL 32 C) (tx [32])=C.map tx:=ro O.ne O.fr;have ol:=O.len;have Y:=O.n;show F0 ?_;exists(dg,?_);rw[jW,G];show(by rw[aF];decide,by rw[aF];show bi #[4],by rw[Pj];show bi #[4],λW hW=>?_);obtain⟨m,J,D,c⟩:=cP (.lst<|(C.map tx).map V.str) hW;rw[J]
 obtain⟨x,r,rfl⟩:∃ x r,C=x::r:=by
  cases C with
  | nil=>show absurd rfl O.ne
  | cons x r=>show(x,r,rfl)
 have L:((((x::r).map tx).map V.str).length:Int)=((r.length+1:Nat):Int):=by simp
 have F:atI (((x::r).map tx).map V.str) 0=some (V.str<|tx x):=aJ (j:=0) rfl;have i1:decide (tx x∈ft)=decide (x∈WTc):=txin (l:=WTc);have X:decide (tx x∈dm)=decide (x∈WNc):=txin (l:=WNc);have i3:decide (tx x∈iw)=decide (x∈W2c):=txin (l:=W2c);have P:wrdW (x::r)=if decide (x∈WTc)&&decide (3<=r.length+1) then some [x,(x::r).getD 1 [],catL 32<|(x::r).drop 2] else if decide (x∈WNc)&&decide (r.length+1=2) then some (x::r) else if decide (x∈W2c)&&decide (r.length+1=3) then some (x::r) else none:=rfl;rw[P]at q b
 clear P
 subst M
 have e:(none:Option (List<|List Nat))=none->bB K "NoRow" H E->iY K a E (eD9 Q) [some<|.str<|tx<|catL 32 (x::r),↑W] m:=λ_ b=>by
  unfold iY;rw[bf];exists(lnR rfl,b _ R.g _ D)
 have f:(∀ s,(if decide (x∈W2c)&&decide (r.length+1=3) then some (x::r) else none)=some s->∀(l:Addr) (k:Hp),Same H k->k l=↥((s.map tx).map V.str)->Q (.ref l) k)->((if decide (x∈W2c)&&decide (r.length+1=3) then some (x::r) else none)=none->bB K "NoRow" H E)->iZ K a E (eD9 Q) [some<|.str<|tx<|catL 32 (x::r),↑W] m:=λq b=>by
  unfold iZ;generalize B:iY K a E=V5;rw[aB,aT];exists ixL c F (_,rfl,?_);rw[i3]
  cases h1:decide (x∈W2c) with
  | false=>
   rw[h1]at q b;show iteF ?_;subst B;show e rfl (b rfl)
  | true=>
   rw[h1]at q b;show iteT ?_;rw[ij c,L];symm;by_cases h3:r.length+1=3
   . rw[Po h3]at q;rw[Po (show((r.length+1:Nat):Int)=3 by lia)];show iteT ?_;show q _ rfl W m D c
   . rw[Pl h3]at b;rw[Pl (show ¬ ((r.length+1:Nat):Int)=3 by lia)];show iteF ?_;subst B;show e rfl (b rfl)
 have d:(∀ s,(if decide (x∈WNc)&&decide (r.length+1=2) then some (x::r) else if decide (x∈W2c)&&decide (r.length+1=3) then some (x::r) else none)=some s->∀(l:Addr) (k:Hp),Same H k->k l=↥((s.map tx).map V.str)->Q (.ref l) k)->((if decide (x∈WNc)&&decide (r.length+1=2) then some (x::r) else if decide (x∈W2c)&&decide (r.length+1=3) then some (x::r) else none)=none->bB K "NoRow" H E)->i0 K a E (eD9 Q) [some<|.str<|tx<|catL 32 (x::r),↑W] m:=λq b=>by
  unfold i0;generalize A:iZ K a E=V4;rw[aB,aT];exists ixL c F (_,rfl,?_);rw[X]
  cases h1:decide (x∈WNc) with
  | false=>
   rw[h1]at q b;show iteF ?_;subst A;show f q b
  | true=>
   rw[h1]at q b;show iteT ?_;rw[ij c,L];symm;by_cases h3:r.length+1=2
   . rw[Po h3]at q;rw[Po (show((r.length+1:Nat):Int)=2 by lia)];show iteT ?_;show q _ rfl W m D c
   . rw[Pl h3]at q b;rw[Pl (show ¬ ((r.length+1:Nat):Int)=2 by lia)];show iteF ?_;subst A;show f q b
 unfold kR;generalize p:i0 K a E=V3;rw[aB,aT];exists ixL c F (_,rfl,?_);rw[i1]
 cases h1:decide (x∈WTc) with
 | false=>
  rw[h1]at q b;show iteF ?_;subst p;show d q b
 | true=>
  rw[h1]at q b;show iteT ?_;rw[ij c,L];symm;by_cases h3:3<=r.length+1
  . rw[Po h3]at q;rw[Po (show(3:Int)<=((r.length+1:Nat):Int) by lia)];show iteT ?_
    obtain⟨y,z,i,rfl⟩:∃ y z i,r=y::z::i:=by
     match r,h3 with
     | y::z::i,_=>show(y,z,i,rfl)
    exists ixL c F<|ixL c (v:=V.str (tx y)) (aJ (j:=1) rfl) (dg,?_);show xi c λS hS=>?_;rw[show(some 2:Option Int)=some ((2:Nat):Int) from rfl,EZ _ 2];obtain⟨H2,J,s2,eS⟩:∃ I,upd m S (.lst ((((x::y::z::i).map tx).map V.str).drop 2))=I/\Same m I/\I S=↥(((z::i).map tx).map V.str):=cP _ hS;rw[J];have rl:i.length+3<=900:=by simpa using Y
    show qr eS (gb (by simp;lia) (λt Z=>by
     obtain⟨u,N,rfl⟩:=PM.mp Z;rw[aF];show Pk (O.w u (by simp at N ⊢;rcases N with h | h;show .inr<|.inr<|.inl h;show .inr<|.inr<|.inr h)) #[1]) (by rw[aF];decide)) ?_
    rw[jJ,mr];show(lnR rfl,λT hT=>?_);show q _ rfl T _ ((D.trans s2).trans<|(Pr H2).laid hT) ak
  . rw[Pl h3]at q b;rw[Pl (show ¬ (3:Int)<=((r.length+1:Nat):Int) by lia)];show iteF ?_;subst p;show d q b
def  letB(c:Nat):Bool:=decide (97<=c)&&decide (c<=122)
def  isNm(w:List Nat):Bool:=decide (1<=w.length)&&(decide (w.length<=8)&&w.all letB)
def JE{c:Nat}(h:c<128):(!(Builtin.Str.occurrences (tx abc) (tx [c]) 0 (tx abc).length 1).isEmpty)=letB c:=by
 have t:((List.range 128).all λc=>decide<|(!(Builtin.Str.occurrences (tx abc) (tx [c]) 0 (tx abc).length 1).isEmpty)=letB c)=true:=by decide+kernel
 show Qx (PL.mp t c<|Qk.mpr h)
def NmOk.is{w:List Nat}(x:NmOk w):isNm w=true:=by
 unfold isNm;rw[Po x.1,Po x.2.1,Qb,Qb,PL];intro c a;have:=x.2.2 c a;unfold letB;rw[Po this.1,Po this.2];rfl
def oN:d:=#[3,∃ w:List Nat,vs=[.str<|tx w]/\w.length<=900/\(∀ c∈w,c<128)/\∀ a,Same H a->Q (.bl<|isNm w) a]
def oO:a:=#[":kFc(bi#1 vHa0dFc(vHa0dbi#8 v~yaR&-- ~N0l#1 Nc~leE1bfg`0d",s!"abcdefghijklmnopqrstuvwxyz"]
def Cz:R "word" oN oO K:=by
 obtain⟨w,rfl,s,j,q⟩:=h;exists oO;rw[aF];show(bi #[4],?_);have r:decide ((1:Int)<=((w.length:Nat):Int))=decide (1<=w.length):=Te.mpr #[4];have m:decide (((w.length:Nat):Int)<=8)=decide (w.length<=8):=Te.mpr #[4];rw[r,m];unfold isNm at q
 cases h1:decide (1<=w.length) with
 | false=>
  rw[h1]at q;show iteF (q _<|Pr H)
 | true=>
  rw[h1]at q;show iteT (bi #[4],?_)
  cases h2:decide (w.length<=8) with
  | false=>
   rw[h2]at q;show iteF (q _<|Pr H)
  | true=>
   rw[h2]at q;show iteT ?_;show tH (cs:=w) (λ_=>true) (λi=>.bl<|letB<|w.getD i 0) #[4] ?_ ?_ ?_
   . intro i c a R b d k1;show k1 _ (Pr _)
   . intro i c a g b t d k1;have o:=j c<|PD b;change tOp (cIn K false) _ _ [none,some<|.str<|tx [c]] a g;symm;have e:=k1 _<|Pr a;change g (.bl (if false=true then _ else !(Builtin.Str.occurrences (tx abc) (tx [c]) 0 (tx abc).length 1).isEmpty)) a;rw[PF Pt,JE o];have k:w.getD i 0=c:=by rw[List.getD,b];rfl
     rw[k]at e;show e
   . intro l a n d f
     have p:((List.range w.length).filter λ_=>true).map (λi=>V.bl<|letB<|w.getD i 0)=(w.map letB).map V.bl:=by
      rw[fm];show QL λi=>?_;rw[Pp,Pp,Pp];by_cases h:i<w.length
      . rw[QE h,Px h];simp[List.getD,h]
      . rw[PX (by simpa using h),PX #[4]];rfl
     rw[p]at f;show Bj f ?_;have ea:(w.map letB).all id=w.all letB:=by rw[TD];rfl
     rw[ea];show q _ d
def  nY(K:Frag)(c:TJ)(d:TL)(e:RCl DkK)(_:DkK):Sp:=λvs H Q E=>∃(D kd:Addr) (L:List En) (w:List Nat),vs=[.ref D,.str<|tx w]/\IsDk H c d e D kd L/\(lookE L w=none->bB K "NoName" H E)/\∀ x,lookE L w=some x->Q (.ref x.P) H
def  lW(K:Frag)(c:TJ)(d:TL)(e:RCl DkK):Sp:=nY K c d e .Desk
variable{d:TL}{e:RCl DkK}
def xU{c:TJ}(h:lW K c d e vs H Q E):vs.length=2:=by
 obtain⟨_,_,_,_,rfl,_⟩:=h;rfl
def  jD(K:Frag)(c:TJ)(d:TL)(e:RCl DkK)(a:EA)(E:XK):TS:=#[":hrw}e1Qz0~xBo~Zabfg`0dsk}fQz0~x1",s!"no puzzle stands by this name"]
def xV{c:TJ}{a:EA}(R:ag K a "NoName" a.NoName o)(h:lW K c d e vs H Q E):jD K c d e a E (eD9 Q) (start ["self","name"] vs) H:=by
 obtain⟨D,kd,L,w,rfl,X,k1,k2⟩:=h;change jD K c d e a E _ [↑D,some<|.str<|tx w] H;unfold jD;rw[aB,aT];exists HX X rfl rfl (_,rfl,?_)
 cases b:lookE L w with
 | none=>
  show iteT ?_;rw[bf];exists(lnR rfl,k1 b _ R.g H<|Pr H)
 | some x=>
  show iteF ?_;show LJ X b rfl rfl (k2 x b)
def  Bk(K:Frag)(c:TJ)(d:TL)(e:RCl DkK)(H:Hp)(Q:VK)(E:XK)(D kd:Addr)(L:List En)(w t:List Nat):Prop:=
 ∀ b,Same H b->bC K c d [.str<|tx t] b (λv k=>∃ P i G h j g a l,v=.ref P/\Same b k/\IsPz k c d P i G h j g a l/\∀ f,Fr74 H f kd->IsDk f c d e D kd (putE L (w,P,i,G,h,j,g,a,l))->Q (.str<|tx okC) f) E
def  rX(K:Frag)(c:TJ)(d:TL)(e:RCl DkK)(_:DkK):Sp:=λvs H Q E=>∃(D kd:Addr) (L:List En) (w t:List Nat),vs=[.ref D,.str<|tx w,.str<|tx t]/\IsDk H c d e D kd L/\L.length<=50/\w.length<=900/\(∀ c∈w,c<128)/\(isNm w=false->bB K "NoName" H E)/\(isNm w=true->Bk K c d e H Q E D kd L w t)
def  nh(K:Frag)(c:TJ)(d:TL)(e:RCl DkK):Sp:=rX K c d e .Desk
def AU{c:TJ}(h:nh K c d e vs H Q E):vs.length=3:=by
 obtain⟨_,_,_,_,_,rfl,_⟩:=h;rfl
def  kM(K:Frag)(c:TJ)(d:TL)(e:RCl DkK)(a:EA)(E:XK):TS:=#[":hrGw,}gea1dBo~Zabfg`0dsh}hQz0~x1y}ienp=oa2dkbfg`1",s!"a name has one to eight small letters",s!"ok"]
def xW{c:TJ}{j:VK}(h:bC K c d vs H Q E)(k:∀ v i,Q v i->j v i):bC K c d vs H j E:=by
 obtain⟨t,e,F,l,D,h⟩:=h;show(t,e,F,l,D,?_);rcases h with h | ⟨A,n,C,o,h1,h2,h3,h4,h5,h6,X⟩
 . show .inl h
 . show .inr (A,n,C,o,h1,h2,h3,h4,h5,h6,X.nt,X.nf,λh w g a b=>?_);obtain⟨J,q,y,u,p⟩:=X.ok h w g a b;show(J,q,y,u,λz f I=>?_);obtain⟨r,m⟩:=p z f I;show(r,λB P L G i s x=>k _ _<|m B P L G i s x)
def AV{c:TJ}{a:EA}(R:ag K a "NoName" a.NoName o)(h:nh K c d e vs H Q E):kM K c d e a E (eD9 Q) (start ["self","name","text"] vs) H:=by
 obtain⟨D,kd,L,w,t,rfl,X,I,x,z,k1,k2⟩:=h;change kM K c d e a E _ [↑D,some<|.str<|tx w,some<|.str<|tx t] H;unfold kM;rw[aB,aT];exists(w,rfl,x,z,λA j=>(_,rfl,?_))
 cases s:isNm w with
 | false=>
  show iteT ?_;rw[bf];exists(lnR rfl,k1 s _ R.g _ j)
 | true=>
  show iteF ?_;exists xW (k2 s A j) ?_;rintro v F ⟨P,m,G,h,n,g,b,p,rfl,u,Y,q⟩;have i:=X.same<|j.trans u;obtain⟨C,h1⟩:=i.ex;show fldE rfl i.ok h1 (by rfl) ?_;symm;have l:=JA (f:=En.kept) (λ_=>rfl) L (w,P,m,G,h,n,g,b,p)
  have B:=i.set (L2:=putE L (w,P,m,G,h,n,g,b,p)) (λy r=>by
   rcases HW r with rfl | r
   . show Y
   . show i.at_ y r) (by have:=HV L (w,P,m,G,h,n,g,b,p);lia)
  show(kd,_,rfl,DPut.k (k:=kyS w) i.kd (by rw[Pj];show aZ #[4]),?_);have l:putK (L.map En.kept) (kyS w) (.ref P)=_:=l;rw[l];show q _ (((j.trans u).fr74 kd).trans Fr74.upd) B
local macro_rules|`(tactic|walk_at "w")=>wk9 ws7
def oP:d:=#[3,∃ a h w g,vs=[.ref a]/\IsFl H a h w g/\1<=g/\g<=6/\Q (.int<|2^g.toNat-1) H]
def oQ:a:=#[":kc~s,~Peacjcm0bi#2 bi#1 dbi#1 "]
variable{K:Frag}{vs:List V}{H:Hp}{Q:VK}{E:XK}
def CA:R "floor" oP oQ K:=by
 obtain⟨a,h,w,g,rfl,b,d,c,q⟩:=h;exists oQ;show ixT b (v:=V.int g) rfl ?_;exists(g+1,rfl,by lia,by lia,?_);symm;rw[Int.add_sub_cancel];show q
def Ib(n:Nat)(m:Int):(List.replicate n [V.int m]).flatten=(List.replicate n m).map V.int:=by
 induction n with
 | zero=>rfl
 | succ n a=>rw[QJ,Qe,a];rfl
def zn:d:=#[3,∃ a h w g,vs=[.ref a]/\IsFl H a h w g/\FlOk h w g/\∀ l b,Same H b->H l=none->b l=↥((List.replicate (h*w).toNat<|2^g.toNat-1).map V.int)->Q (.ref l) b]
def zo:a:=#[":kc~Dua,}jea0dd,~rea0d"]
def JF:R "floor" zn zo K:=by
 obtain⟨a,h,w,g,rfl,d,F,k⟩:=h;obtain⟨h0,h1,n,o,j,m,f⟩:=F;have b:0<=h*w:=Sd #[4] #[4];exists zo;show(a,h,w,g,rfl,d,m,f,lnR rfl,λp i=>?_);have c:Same H (upd H p<|.lst [V.int<|2^g.toNat-1]):=(Pr H).laid i;show(a,h,w,g,rfl,c _ _ d,h0,h1,?_);show xk ak b #[4] (by change(1:Nat)<=1;decide) λl e=>?_;rw[Ib];show k l _ (c.laid e) (c.free e) ak
def j4:d:=#[3,∃(p:Addr) (a:∅),vs=[.ref p]/\H p=↥(a.map V.int)/\Q (.bl<|decide<|0∈a) H]
def rY:a:=#[":kc~leEbi#0 0"]
def E6:R "masks" j4 rY K:=by
 obtain⟨p,b,rfl,a,q⟩:=h;exists rY;rw[Hh a];show q
local macro_rules|`(tactic|walk_at "w")=>wk9 ws5
def  ua:Str:=tx supW
def  i4(h w g z s:Int):Bool:=(decide (0<=z)&&decide (z<h*w))&&(decide (1<=s)&&decide (s<=g))
variable{z s:Int}
def onB75_iff{h w g:Int}:i4 h w g z s=true↔(0<=z/\z<h*w)/\1<=s/\s<=g:=by unfold i4;simp only[P3,PP]
def  oR(a:∅)(z s:Int):∅:=(List.range a.length).map λ(i:Nat)=>if (i:Int)=z then 2^(s-1).toNat else a.getD i 0
def j5:d:=#[3,∃ T M a r z s,vs=[.ref T]/\H T=some (.tup [.str a,.int r,.int z,.int s,.ref M])/\Q (.bl true) H]
def mB:a:=#[":kFvVa0abT~QdcxevHa0dbi#5 "]
variable{K:Frag}{vs:List V}{H:Hp}{Q:VK}{E:XK}
def zp:R "thought" j5 mB K:=by
 obtain⟨T,M,a,r,z,s,rfl,X,q⟩:=h;exists mB;show BP X ?_;symm;rw[BG X];show q
def iy:d:=#[3,∃ T M a r z s,vs=[.ref T]/\H T=some (.tup [.str a,.int r,.int z,.int s,.ref M])/\Q (.bl<|decide<|a=ua) H]
def ko:a:=#[":kF,'zea0dcxecm0bi#0 bfg`0",s!"suppose"]
def vy:R "thought" iy ko K:=by
 obtain⟨T,M,a,r,z,s,rfl,X,q⟩:=h;exists ko;show(T,M,a,r,z,s,rfl,X,?_);exists ixT X (v:=V.str a) rfl ?_;symm;show q
def nj:d:=#[3,∃ A a z s,vs=[.ref A,.int z,.int s]/\H A=↥(a.map V.int)/\a.length<=900/\0<=z/\1<=s/\s<=6/\∀ l b,Same H b->H l=none->b l=↥((oR a z s).map V.int)->Q (.ref l) b]
def nk:a:=#[":kR&---12 ~*ea0d~Ee#2 ~il#1 ~il#2 ~FN~btcxe13,~Pea4d2"]
def AW:R "masks cell sign" nj nk K:=by
 obtain⟨p,f,z,s,rfl,d,j,v,o,u,k⟩:=h;exists nk;show(p,rfl,(_,Qm d),?_);show EE (xs:=f.map V.int) (λ_=>true) (λi=>.int (if (i:Int)=z then 2^(s-1).toNat else f.getD i 0)) (by rw[Pj];show j) #[1] (Qm d) ?_ ?_ ?_
 . intro i x a R e c k1;show k1 _ (Pr _)
 . intro i x a t e w c k1;obtain⟨m,g,rfl⟩:=ic e;have q:=k1 _<|Pr a;rw[qm g]at q;change tIf _ _ _ [none,⇑i,⇑m,⇑z,⇑s] a t;symm;by_cases b:(i:Int)=z
   . rw[PK b]at q;rw[Po b];show iteT (s,rfl,o,by lia,q)
   . rw[PF b]at q;rw[Pl b];show iteF q
 . intro l a r c n;show k l a c r ?_;rw[n,fm,Pj];unfold oR;rw[P8];rfl
def db:f:=#[3,∃ P L G T M h w g b e a r z s,vs=[.ref P,.ref T]/\IsPz H c d P L G h w g b e/\H T=some (.tup [.str a,.int r,.int z,.int s,.ref M])/\Q (.bl<|i4 h w g z s) H]
def iH:c:=#[":hqJpO~c~denp0dl#2 kF,'zea1dF,'dea2acm1bi#2 d,'eea2acm1bi#3 d"]
variable{d:TL}
def qx{c:TJ}:R "puzzle thought floor" db iH K c d:=by
 obtain⟨P,L,G,T,M,h,w,g,b,j,a,r,z,s,rfl,f,X,q⟩:=h;obtain⟨l,p,m,h1,h2,h3⟩:=f.ex;exists iH;show methE (k:=.Puzzle) rfl f.ok h1 (by rfl) ?_;exists(P,L,G,h,w,g,b,j,rfl,f,λp i=>?_);exists(T,M,a,r,z,s,rfl,X,?_);exists ixT X (v:=V.int z) rfl ?_;show(p,h,w,g,z,rfl,i,f.R.F,?_);unfold i4 at q
 cases e:decide (0<=z)&&decide (z<h*w) with
 | false=>
  rw[e,Qc]at q;symm;show q
 | true=>
  rw[e,Qb]at q;exists ixT X (v:=V.int s) rfl ?_;show(p,h,w,g,s,rfl,i,q)
def jp:f:=#[3,∃(P L G N T M:Addr) (h w g:Int) (e:List RR) (f b:∅) (a:Str) (r z s:Int),vs=[.ref P,.ref N,.ref T]/\IsPz H c d P L G h w g e f/\H N=↥(b.map V.int)/\b.length=(h*w).toNat/\H T=some (.tup [.str a,.int r,.int z,.int s,.ref M])/\Q (.bl<|i4 h w g z s&&!stB (b.getD z.toNat 0) s) H]
def jq:c:=#[":kF,~+enpa0a2d~[,~Oeacm1cm2bi#2 acm2bi#3 d"]
def sP{c:TJ}:R "puzzle masks thought" jp jq K c d:=by
 obtain⟨P,L,G,N,T,M,h,w,g,b,k,j,a,r,z,s,rfl,f,i,l,X,q⟩:=h;exists jq;show(P,L,G,T,M,h,w,g,b,k,a,r,z,s,rfl,f,X,?_)
 cases e:i4 h w g z s with
 | false=>
  rw[e,Qc]at q;symm;show q
 | true=>
  rw[e,Qb]at q;have o:=onB75_iff.mp e;exists ixT X (v:=V.int z) rfl ?_;exists ixI i o.1.1 #[4] ?_;show ixT X (v:=V.int s) rfl ?_;show(_,s,rfl,?_);symm;show q
def gf:f:=#[3,∃(P L G N T M:Addr) (h w g:Int) (e:List RR) (f b:∅) (a:Str) (r z s:Int),vs=[.ref P,.ref N,.ref T]/\IsPz H c d P L G h w g e f/\H N=↥(b.map V.int)/\b.length=(h*w).toNat/\H T=some (.tup [.str a,.int r,.int z,.int s,.ref M])/\Q (.bl<|i4 h w g z s&&stB (b.getD z.toNat 0) s) H]
def gg:c:=#[":kF,~+enpa0a2d,~Oeacm1cm2bi#2 acm2bi#3 d"]
def oS{c:TJ}:R "puzzle masks thought" gf gg K c d:=by
 obtain⟨P,L,G,N,T,M,h,w,g,b,k,j,a,r,z,s,rfl,f,i,l,X,q⟩:=h;exists gg;show(P,L,G,T,M,h,w,g,b,k,a,r,z,s,rfl,f,X,?_)
 cases e:i4 h w g z s with
 | false=>
  rw[e,Qc]at q;symm;show q
 | true=>
  rw[e,Qb]at q;have o:=onB75_iff.mp e;exists ixT X (v:=V.int z) rfl ?_;exists ixI i o.1.1 #[4] ?_;show ixT X (v:=V.int s) rfl ?_;show(_,s,rfl,q)
structure Bk1(H:Hp)(B T M:Addr)(t:TK)(r z s:Int)(ms:∅):Prop where
 B:H B=some (.lst [.ref T])
 T:IsTh H T M t r z s ms
 k:t=.clue\/t=.only
variable{t:TK}{ms:∅}
def  Bk1.same{a:Hp}{B T M:Addr}{r:Int}(x:Bk1 H B T M t r z s ms)(s':Same H a):Bk1 a B T M t r z s ms:=(s' _ _ x.B,x.T.same s',x.k)
def CB{K:Frag}{H:Hp}:∀{m:∅},DVs K H (m.map V.int) (m.map PyData.int)
 | []=>.nil
 | k::r=>.cons (.int _) CB
def Bk1.ne{B T M E:Addr}{r:Int}(x:Bk1 H B T M t r z s ms)(e:H E=some (.lst []))(q:Q (.bl true) H):cNe K (.ref B) (.ref E) H Q:=by
 have b:PyData.canLay0 (.str<|tx<|tkC t)=true:=by rcases x.k with h | h <;> rw[h] <;> decide+kernel
 have g:GoodD 3 (.list [.tuple [.str<|tx<|tkC t,.int r,.int z,.int s,.list<|ms.map PyData.int]]):=Tk λd a=>by
  rw[PJ.mp a];show LF b (Tk λd a=>by obtain⟨_,_,rfl⟩:=PM.mp a;show GoodD.int (k:=0))
 change rNeD K (.ref B) (.ref E) H Q;show(_,.list [],.lst (Qm x.B)<|.cons (.tup (TH x.T.T)<|.cons (.str _)<|.cons (.int _)<|.cons (.int _)<|.cons (.int _)<|.cons (.lst (Qm x.T.M) CB) .nil) .nil,.lst (Qm e) .nil,g.shaped #[1],by decide,?_);have e2:PyData.eqv (.list [.tuple [.str<|tx<|tkC t,.int r,.int z,.int s,.list<|ms.map PyData.int]]) (.list [])=false:=by simp[PyData.eqv,PyData.eqvAll]
 rw[e2];show q
def gh:f:=#[3,∃ P L G T B f M h w g b l a z s t j i k ms,vs=[.ref P,.ref T]/\IsPz H c d P L G h w g b l/\H T=some (.tup [.str a,.int 0,.int z,.int s,.ref B])/\Bk1 H B f M t j i k ms/\i4 h w g z s=true/\∀ e,Same H e->Q (.bl true) e]
def gi:c:=#[":hrMGw,~qeacm1bi#1 dMtcIecm1bi#1 bi#0 Gw,~+enpa0a1dkbWEskFvVacm1bi#4 abT~kdcIecm1bi#4 ud"]
def oU{c:TJ}:R "puzzle thought" gh gi K c d:=by
 obtain⟨P,L,G,T,B,m,M,h,w,g,f,l,a,z,s,t,o,n,p,ms,rfl,k,X,b,e,q⟩:=h;ac_nf;unfold gi;rw[aB,aT];exists ixT X (v:=V.int 0) rfl ?_;show(0,rfl,(true,rfl,iteF ?_));exists ixT X (v:=V.int 0) rfl ?_;exists(P,L,G,T,B,h,w,g,f,l,a,0,z,s,rfl,k,X,?_);rw[e];show(true,rfl,?_);exists ixT X (v:=V.ref B) rfl ?_;show BO b.B ?_;exists ixT X (v:=V.ref B) rfl ?_;exists(bi #[1],λe j=>?_);have i:Same H (upd H e<|.lst []):=(Pr H).laid j;show(b.same i).ne ak (q _ i)
def  Ic(n:Nat)(H:Hp)(c:TJ)(d:TL)(P L G A T:Addr)(h w g:Int)(rows:List RR)(cl a:∅)(xs:∅):Prop:=
 (xs=[]/\∃(M:Addr) (t:TK) (r z s:Int) (ms:∅),Asks H c d P L G A T M h w g rows cl a t r z s ms/\(t=.clue\/t=.only)/\oG h w g rows cl a t r z s ms=false)\/
 (xs=[0]/\1<=n/\∃(B i M:Addr) (t:TK) (z s f b e:Int) (ms:∅),IsPz H c d P L G h w g rows cl/\H A=↥(a.map V.int)/\a.length=(h*w).toNat/\H T=some (.tup [.str ua,.int 0,.int z,.int s,.ref B])/\Bk1 H B i M t f b e ms/\i4 h w g z s=true/\(0:Int)∉oR a z s/\(i4 h w g b e&&!stB ((oR a z s).getD b.toNat 0) e)=false/\oG h w g rows cl (oR a z s) t f b e ms=false)
def  fG(K:Frag)(c:TJ)(d:TL):Nat->Sp
 | 0=>λ_ _ _ _=>False
 | n+1=>λvs H Q _=>∃(P L G A T:Addr) (h w g:Int) (rows:List RR) (cl b xs:∅),vs=[.ref P,.ref A,.ref T]/\Ic n H c d P L G A T h w g rows cl b xs/\∀(l:Addr) (a:Hp),Same H a->H l=none->a l=↥(xs.map V.int)->Q (.ref l) a
def  AX{c:TJ}(h:fG K c d 0 vs H Q E):False:=h
variable{n:Nat}
def AY{c:TJ}(h:fG K c d n vs H Q E):vs.length=3:=by
 cases n with
 | zero=>show h.elim
 | succ n=>obtain⟨_,_,_,_,_,_,_,_,_,_,_,_,rfl,_⟩:=h;rfl
def  E7(K:Frag)(c:TJ)(d:TL)(n:Nat):TS:=#[":hrw,~Gea3dkbSsrGw,}kenpa0a3a5dhq,'Aenp~ua0a3a5dl#6 hrtc~-6bSkcjua4d6sqLl#3 s"]
def  nr(K:Frag)(c:TJ)(d:TL)(n:Nat):TS:=#[":hrGw,}lea2dk~bw,}menpa0a1a2dbSudshrGw,}nenpa0a2dkudshq,}oea1acm2bi#2 acm2bi#3 dl#3 h-~*eacm2bi#4 d~Ee#2 ~il#4 ~il#5 ~F}penp~uk~bw,~Gea3dbSud"]
variable{rows:List RR}
def JG{c:TJ}{P L G A T M:Addr}{h w g:Int}{cl b:∅}{r:Int}{W:TS}(X:Asks H c d P L G A T M h w g rows cl b t r z s ms)(i:t=.clue\/t=.only)(m:oG h w g rows cl b t r z s ms=false)(q:∀(l:Addr) (a:Hp),Same H a->H l=none->a l=some (.lst [])->Q (.ref l) a):
  (tIfS (tNot<|tB<|tCall (iy K) [] E0<|tCons (tVar 2) tNil) (tRet<|tIf (tB<|tCall (lQ K c d) [] E0<|tCons (tVar 0)<|tCons (tVar 1)<|tCons (tVar 2) tNil) (tC .non)<|tLst tNil) tNext) {nx:=W<|eD9 Q,rt:=Q} [↑P,↑A,↑T,none,none,none,none] H:=by
 have k:decide (tx (tkC t)=ua)=false:=by rcases i with rfl | rfl <;> rfl
 rw[aT];exists(T,M,_,_,_,_,rfl,X.T.T,?_);rw[k];exists(P,L,G,A,T,M,h,w,g,rows,cl,b,t,r,z,s,ms,rfl,X,i,λj e=>?_);rw[m];show(false,rfl,iteF ?_);exists(bi #[1],λl f=>q l _ (e.trans<|(Pr j).laid f) (e.free f) ak)
def JH {c:TJ} {P L G A T N e M:Addr} {h w g:Int} {cl a:∅} {D:Ends} {r:Int} {u:Option V} (X:Asks H c d P L G N e M h w g rows cl a t r z s ms) (x:t=.clue\/t=.only) (h0:(0:Int)∉a) (k:(i4 h w g z s&&!stB (a.getD z.toNat 0) s)=false) (m:oG h w g rows cl a t r z s ms=false)
  (q:∀(l:Addr) (f:Hp),Same H f->H l=none->f l=some (.lst [V.int 0])->D.rt (.ref l) f):
  E7 K c d (n+1) D [↑P,↑A,↑T,↑N,⇑0,↑e,u] H:=by
 unfold E7;rw[aB,aT];exists(N,a,rfl,X.A,?_);rw[Pl h0];symm;rw[aT];exists(P,L,G,N,e,M,h,w,g,rows,cl,a,_,r,z,s,rfl,X.P,X.A,X.n,X.T.T,?_);rw[k];show(false,rfl,?_);exists(P,L,G,N,e,h,w,g,rows,cl,a,[],rfl,.inl (rfl,M,t,r,z,s,ms,X,x,m),λl C p F o=>?_);symm;rw[aT];exists(lnR rfl,λZ B=>?_);obtain⟨E,v,j,y⟩:=cP (.lst [V.int 0]) B;rw[v];show lC y (j _ _ o) (by change(1:Nat)<=1000;decide) λR i=>?_;have b:=p.trans j;show q R _ (b.laid i) (b.free i) ak
def E8{m:∅}:(oR m z s).length=m.length:=by unfold oR;simp
def AZ{c:TJ}(h:fG K c d (n+1) vs H Q E):nr K c d n (eD9 Q) (start ["puzzle","masks","thought","now","place","inner","fault"] vs) H:=by
 obtain⟨P,L,G,A,T,h,w,g,rows,cl,Pb,xs,rfl,X,q⟩:=h;change nr K c d n _ [↑P,↑A,↑T,none,none,none,none] H;unfold nr;rcases X with ⟨rfl,M,t,r,z,s,ms,X,ht,J⟩ | ⟨rfl,n1,B,p,M,t,z,s,r2,Z,s2,ms,C,eA,nl,j,b,S,h0,hs,J⟩
 . rw[aB];show JG X ht J q
 . obtain⟨n,rfl⟩:∃ m,n=m+1:=(n-1,by lia);have o:=onB75_iff.mp S;have g6:=C.R.F.g1;have aa:=C.R.F.m;generalize hB:E7 K c d (n+1)=FB at*;rw[aB,aT];exists(T,B,ua,0,z,s,rfl,j,?_);rw[Po rfl];symm;rw[aT];exists(P,L,G,T,B,p,M,h,w,g,rows,cl,ua,z,s,t,r2,Z,s2,ms,rfl,C,j,b,S,λH1 y=>(true,rfl,?_));exists ixT (y _ _ j) (v:=V.int z) rfl ?_;exists ixT (y _ _ j) (v:=V.int s) rfl ?_;show(A,Pb,z,s,rfl,y _ _ eA,by lia,o.1.1,o.2.1,by lia,λN O I hN eN=>?_);have f:=y.trans I;have D:=b.same f;exists ixT (f _ _ j) (v:=V.ref B) rfl ?_;show(B,rfl,(_,Qm D.B),?_);show BU (xs:=[V.ref p]) (λi σ W=>i=0/\σ=[↑P,↑A,↑T,↑N,none,none,none]/\Same O W) (rfl,rfl,Pr O) (λi σ W _ ⟨_,_,s⟩=>Qm<|s _ _ D.B) ?_ ?_
   . rintro i x U σ u hx ⟨rfl,rfl,s3⟩ hU;obtain rfl:V.ref p=x:=by simpa using hx
     have s4:Same u (upd u U<|.tup [V.int ((0:Nat):Int),V.ref p]):=(Pr u).laid hU;show BQ ak rfl ?_;rw[wv];generalize upd u U (.tup [V.int ((0:Nat):Int),V.ref p])=H4 at*;have a:=s3.trans s4;subst hB;have b4:=D.same a;show JH (A:=A) (T:=T) (C.same<|f.trans a,b4.T,a _ _ eN,by rw[E8];show nl) b.k h0 hs J ?_;intro l Y s5 hl el;show q l Y ((f.trans a).trans s5) ((f.trans a).free hl) el
   . rintro σ u ⟨e,_⟩;cases e
def  FoE75(K:Frag)(E:XK)(H:Hp)(xs:∅):Prop:=∀(C l b:Addr) (a:Hp),Glb K "BadThought" C->Same H a->a l=↥(xs.map V.int)->a b=some (.xd [("at" ,.ref l)])->E (.ref C) (some b) a
variable{xs:∅}
def  FoE75.same{a:Hp}(h:FoE75 K E H xs)(s:Same H a):FoE75 K E a xs:=λC l c b g d e1 e2=>h C l c b g (s.trans d) e1 e2
def i5:f:=λvs H _ E=>∃(P L G A B T M:Addr) (h w g:Int) (rows:List RR) (f b xs:∅) (a:Str) (r z s:Int),vs=[.ref P,.ref A,.ref B]/\IsPz H c d P L G h w g rows f/\H A=↥(b.map V.int)/\b.length=(h*w).toNat/\H B=some (.lst [.ref T])/\H T=some (.tup [.str a,.int r,.int z,.int s,.ref M])/\(0:Int)∉b/\(i4 h w g z s&&stB (b.getD z.toNat 0) s)=true/\(∀(N:Addr) (e:Hp),Same H e->e N=↥(b.map V.int)->Ic 1 e c d P L G N T h w g rows f b xs)/\xs.length<=10/\FoE75 K E H (0::xs)
def wK{c:TJ}(h:i5 K c d vs H Q E):vs.length=3:=by
 obtain⟨_,_,_,_,_,_,_,_,_,_,_,_,_,_,_,_,_,_,rfl,_⟩:=h;rfl
def  Id(K:Frag)(c:TJ)(d:TL)(a:EA)(E:XK):TS:=#[":hrMw,~Gea3dGw,}qenpa0a3a5d'Bo~H~/aua4ddshq,'Aenp#2 a0a3a5dl#6 hrtc~-6bS'Bo~H~/acjua4d6dsqLl#3 "]
def  i6(K:Frag)(c:TJ)(d:TL)(a:EA)(E:XK):TS:=#[":hqv~oa1dl#3 h-~*ea2d~Ee#2 ~il#4 ~il#5 ~F}renpKok3"]
def  JI {c:TA} {C:Addr} {D:Ends} {σ:St} (d:Glb K "BadThought" C) (q:FoE75 K E H xs)
  (n:∀ Q:List V->Hp->Prop,(∀(l:Addr) (a:Hp),Same H a->a l=↥(xs.map V.int)->Q [.ref l] a)->c σ H Q):vg E C "at" c D σ H:=
 n _ λl a h g=>(l,_,rfl,g,λi f m e1 e2 p j k=>q C i f m d (λb o e=>k b o<|h b o e) p j)
def wL{c:TJ}{a:EA}(hG:Glb K "BadThought" a.BadThought)(h:i5 K c d vs H Q E):i6 K c d a E (eD9 Q) (start ["puzzle","masks","book","now","place","thought","fault"] vs) H:=by
 obtain⟨P,L,G,A,B,T,M,h,w,g,rows,v,k,xs,S,r,z,s,rfl,C,eA,nl,t,X,h0,hs,O,xl,q⟩:=h;change i6 K c d a E _ [↑P,↑A,↑B,none,none,none,none] H;have Y:=C.R.F.m;unfold i6;generalize J:Id K c d a E=FB at*;exists tF eA λN I=>?_;obtain⟨D,o,n,p⟩:=cP (.lst<|k.map V.int) I;rw[o];exists(B,rfl,(_,Qm<|n _ _ t),?_);show BU (xs:=[V.ref T]) (λi σ y=>i=0/\σ=[↑P,↑A,↑B,↑N,none,none,none]/\Same D y) (rfl,rfl,Pr D) (λi σ y _ ⟨_,_,s⟩=>Qm<|s _ _<|n _ _ t) ?_ ?_
 . rintro i x U σ f hx ⟨rfl,rfl,s3⟩ hU;obtain rfl:V.ref T=x:=by simpa using hx
   have s4:Same f (upd f U<|.tup [V.int ((0:Nat):Int),V.ref T]):=(Pr f).laid hU;show BQ ak rfl ?_;rw[wv];generalize upd f U (.tup [V.int ((0:Nat):Int),V.ref T])=H4 at*;have b:=s3.trans s4;have j:=n.trans b;subst J;unfold Id;rw[aB,aT];exists(N,k,rfl,b _ _ p,?_);rw[Pl h0];exists(P,L,G,N,T,M,h,w,g,rows,v,k,S,r,z,s,rfl,C.same j,b _ _ p,nl,j _ _ X,?_);rw[hs];show(true,rfl,?_);exists(P,L,G,N,T,h,w,g,rows,v,k,xs,rfl,O N H4 j<|b _ _ p,λl u s5 hl el=>?_);symm;rw[aT];exists iteT<|JI hG (q.same<|j.trans s5) λQ q=>?_;exists(lnR rfl,λZ W=>?_);obtain⟨H6,o,s6,eZ⟩:∃ z,upd u Z (.lst [V.int ((0:Nat):Int)])=z/\Same u z/\z Z=some (.lst [V.int 0]):=cP _ W;rw[o];show lC eZ (s6 _ _ el) (by rw[Pj];change 1+_<=1000;lia) λR hR=>?_;show q R _ (s6.laid hR) ak
 . rintro σ f ⟨e,_⟩;cases e
def  tGT(K:Frag)(a:List Str):TE:=λ_ H Q=>∀ q,SqT K H q (a.map V.str)->Q (.ref q) H
section
variable{X:Cx}{pos:Pos}{x:Str}{ws:List Str}
def LM(G:GTup X.K X.mg x ws)(d:Gl X x)(a:(x==("__debug__":Str))=false:=by decide):PE X (.Name x pos) (tGT X.K ws):=by
 obtain⟨q,o,c,n,h1,h2⟩:=G.ex;intro b s σ H Q I h;show aW (v:=V.ref q) d h1 rfl a b s σ H Q I (h q<|.inr (o,c,n,h2))
end
def  spF:Sp:=λ_ _ _ _=>False
abbrev j6(h w g:Int):∅:=List.replicate (h*w).toNat (2^g.toNat-1)
structure CD(H:Hp)(c:TJ)(d:TL)(P L G B:Addr)(h w g:Int)(rows:List RR)(cl xs:∅):Prop where
 ex:∃(T M:Addr) (a:Str) (r z s:Int),H B=some (.lst [.ref T])/\H T=some (.tup [.str a,.int r,.int z,.int s,.ref M])/\(0:Int)∉j6 h w g/\(i4 h w g z s&&stB ((j6 h w g).getD z.toNat 0) s)=true/\(∀(N:Addr) (H':Hp),Same H H'->H' N=↥((j6 h w g).map V.int)->Ic 1 H' c d P L G N T h w g rows cl (j6 h w g) xs)
 n:xs.length<=10
def mR:f:=λvs H _ E=>∃(P L G B:Addr) (h w g:Int) (rows:List RR) (a xs:∅),vs=[.ref P,.ref B]/\IsPz H c d P L G h w g rows a/\CD H c d P L G B h w g rows a xs/\FoE75 K E H (0::xs)
variable{K:Frag}{d:TL}{vs:List V}{H:Hp}{Q:VK}{E:XK}
def Dc{c:TJ}(h:mR K c d vs H Q E):vs.length=2:=by
 obtain⟨_,_,_,_,_,_,_,_,_,_,rfl,_⟩:=h;rfl
def  mS(K:Frag)(c:TJ)(d:TL)(E:XK):TS:=#[":ky}senp=oa0a,}teaJpO~c~denp0dda1d"]
def Dd{c:TJ}(h:mR K c d vs H Q E):mS K c d E (eD9 Q) (start ["puzzle","book"] vs) H:=by
 obtain⟨P,L,G,B,h,w,g,rows,i,xs,rfl,e,b,q⟩:=h;obtain⟨D,C,J,h1,h2,h3⟩:=e.ex;obtain⟨T,M,a,r,z,s,e1,e2,o,y,v⟩:=b.ex;change mS K c d E _ [↑P,↑B] H;unfold mS;exists methE (k:=.Puzzle) rfl e.ok h1 (by rfl) ?_;exists(P,L,G,h,w,g,rows,i,rfl,e,λp j=>?_);exists(p,h,w,g,rfl,j,e.R.F,λl A f I t=>?_);exists(P,L,G,l,B,T,M,h,w,g,rows,i,j6 h w g,xs,a,r,z,s,rfl,e.same f,t,by simp[j6],f _ _ e1,f _ _ e2,o,y,λN x m u=>v N x (f.trans m) u,b.n,q.same f)
structure TxtB(t:List Nat):Prop where
 n:t.length<=800
 a:Asc t
 g:∀ g∈((pcsOf t).foldl tt9 ([] ,[],0)).1,g.length<=400
def fJ:f:=λvs H _ E=>∃(P L G:Addr) (h w g:Int) (rows:List RR) (b:∅) (t:List Nat),vs=[.ref P,.str<|tx t]/\IsPz H c d P L G h w g rows b/\TxtB t/\(inM 16 t=none->bB K "NoText" H E)/\(∀ l,inM 16 t=some l->∃ xs,FoE75 K E H (0::xs)/\∀(U:Addr) (a:Hp),Same H a->IsT 15 (DF H) a U l->CD a c d P L G U h w g rows b xs)
def vz{c:TJ}(h:fJ K c d vs H Q E):vs.length=2:=by
 obtain⟨_,_,_,_,_,_,_,_,_,rfl,_⟩:=h;rfl
def  lX(K:Frag)(c:TJ)(d:TL)(E:XK):TS:=#[":hrw,~Gea2dkbfg`0shrwLkcjbfg`1,'jeaJpO~c~denp0daLdskcjbfg`2v'haLd",s!"none",s!"one ",s!"open "]
def  iz(K:Frag)(c:TJ)(d:TL)(E:XK):TS:=#[":hqy}uenp=oa0ay}ve=oa1ddl#2 }wenpo"]
def vA{c:TJ}(h:fJ K c d vs H Q E):iz K c d E (eD9 Q) (start ["puzzle","text","masks"] vs) H:=by
 obtain⟨P,L,G,h,w,g,rows,s,t,rfl,j,O,m,u⟩:=h;change iz K c d E _ [↑P,some<|.str<|tx t,none] H;unfold iz;generalize lX K c d E=V1;exists(t,rfl,O.n,O.a,O.g,λl e U o b r=>?_,λe C q i p=>m e C i q p);obtain⟨xs,f,k⟩:=u l e;exists(P,L,G,U,h,w,g,rows,s,xs,rfl,j.same b,k U o b r,f.same b)
def fe:f:=λvs H _ E=>∃(P L G:Addr) (h w g:Int) (rows:List RR) (a:∅) (t:List Nat),vs=[.ref P,.str<|tx t]/\IsPz H c d P L G h w g rows a/\t.length<=300/\¬ GoodL h.toNat w.toNat g t/\bB K "NoFilling" H E
def jE:f:=fe K c d
def qy{c:TJ}(h:fe K c d vs H Q E):vs.length=2:=by
 obtain⟨_,_,_,_,_,_,_,_,_,rfl,_⟩:=h;rfl
def  xX{c:TJ}(h:jE K c d vs H Q E):vs.length=2:=qy h
def  nM(K:Frag)(c:TJ)(d:TL)(E:XK):TS:=#[":k~btc~-2bSLbfg`0",s!"nothing"]
def  j7(K:Frag)(c:TJ)(d:TL)(E:XK):TS:=#[":hq,'Ca0ay~Xe=oaJpO~c~denp0da1ddl#2 }xenpo"]
def  mZ(K:Frag)(c:TJ)(d:TL)(E:XK):TS:=#[":hrtc~V2bSkbfg`0sk~btcIecm2bi#0 ud,'ieacm2bi#0 dbfg`1",s!"nothing",s!"clues"]
def  jF(K:Frag)(c:TJ)(d:TL)(E:XK):TS:=#[":hq,'Ca0ay~Xe=oaJpO~c~denp0da1da}ye~Rdl#2 }zenpo"]
def zq{c:TJ}(h:fe K c d vs H Q E):j7 K c d E (eD9 Q) (start ["puzzle","text","thought"] vs) H:=by
 obtain⟨P,L,G,h,w,g,rows,v,t,rfl,a,n,o,q⟩:=h;obtain⟨z,y,A,h1,h2,h3⟩:=a.ex;change j7 K c d E _ [↑P,some<|.str<|tx t,none] H;unfold j7;generalize nM K c d E=V1;exists methE (k:=.Puzzle) rfl a.ok h1 (by rfl) ?_;exists(P,L,G,h,w,g,rows,v,rfl,a,λp m=>?_);exists(p,h,w,g,_,rfl,m,a.R.F,.inl (t,rfl,n),λl r u x e f s i=>?_,λ_ C e j f=>q C j e f);have b:=gJ<|V.str.inj r;subst b;show absurd u o
def xY{c:TJ}(h:jE K c d vs H Q E):jF K c d E (eD9 Q) (start ["puzzle","text","told"] vs) H:=by
 obtain⟨P,L,G,h,w,g,rows,v,t,rfl,a,n,o,q⟩:=h;obtain⟨z,y,A,h1,h2,h3⟩:=a.ex;change jF K c d E _ [↑P,some<|.str<|tx t,none] H;unfold jF;generalize mZ K c d E=V1;exists methE (k:=.Puzzle) rfl a.ok h1 (by rfl) ?_;exists(P,L,G,h,w,g,rows,v,rfl,a,λp m=>?_);exists(p,h,w,g,_,rfl,m,a.R.F,.inl (t,rfl,n),λl r u x e f s i=>?_,λ_ C e j f=>q C j e f);have b:=gJ<|V.str.inj r;subst b;show absurd u o
def  chkC:List Nat:=s!"check"
def  hinC:List Nat:=s!"hint"
def  wroC:List Nat:=s!"wrong"
def  aliC:List Nat:=s!"alike"
def cQ:f:=λvs H Q E=>∃(P:Addr) (a t:List Nat),vs=[.ref P,.str<|tx a,.str<|tx t]/\((a=chkC/\fJ K c d [.ref P,.str<|tx t] H Q E)\/(a=hinC/\fe K c d [.ref P,.str<|tx t] H Q E)\/(a=wroC/\fe K c d [.ref P,.str<|tx t] H Q E))
def vC{c:TJ}(h:cQ K c d vs H Q E):vs.length=3:=by
 obtain⟨_,_,_,rfl,_⟩:=h;rfl
def  iA(K:Frag)(c:TJ)(d:TL)(E:XK):TS:=#[":hrtcxe1bfg`0ky}Aenp=oa0a2dshrtcxe1bfg`1ky}Benp=oa0a2dsky}Cenp=oa0a2d",s!"check",s!"hint"]
def vD{c:TJ}(h:cQ K c d vs H Q E):iA K c d E (eD9 Q) (start ["puzzle","word","text"] vs) H:=by
 obtain⟨P,a,t,rfl,h⟩:=h;change iA K c d E _ [↑P,some<|.str<|tx a,some<|.str<|tx t] H;unfold iA;rw[aB,aT];symm;rcases h with ⟨rfl,h⟩ | ⟨rfl,h⟩ | ⟨rfl,h⟩
 . rw[show decide (tx chkC=tx s!"check")=true from rfl];show iteT h
 . rw[show decide (tx hinC=tx s!"check")=false from rfl];show iteF ?_;rw[aT];symm;rw[show decide (tx hinC=tx s!"hint")=true from rfl];show iteT h
 . rw[show decide (tx wroC=tx s!"check")=false from rfl];show iteF ?_;rw[aT];symm;rw[show decide (tx wroC=tx s!"hint")=false from rfl];show iteF h
def cX:f:=λvs H Q E=>∃(P L G:Addr) (h w g:Int) (rows:List RR) (a:∅),vs=[.ref P]/\IsPz H c d P L G h w g rows a/\(4<g->bB K "TooMany" H E)/\(g<=4->Q .non H)
def p5{c:TJ}(h:cX K c d vs H Q E):vs.length=1:=by
 obtain⟨_,_,_,_,_,_,_,_,rfl,_⟩:=h;rfl
def  fk(K:Frag)(c:TJ)(d:TL)(a:EA)(E:XK):TS:=#[":rtc>cmJpO~c~denp0dbi#2 bi#4 Bo'Dabfg`0ds",s!"puzzles are likened on floors of at most 4 signs"]
def p6{o:List Addr}{c:TJ}{a:EA}(R:ag K a "TooMany" a.TooMany o)(h:cX K c d vs H Q E):fk K c d a E (eD9 Q) (start ["puzzle"] vs) H:=by
 obtain⟨P,L,G,h,w,g,rows,j,rfl,b,i,l⟩:=h;obtain⟨n,m,q,h1,h2,h3⟩:=b.ex;change fk K c d a E _ [↑P] H;unfold fk;rw[aT];exists methE (k:=.Puzzle) rfl b.ok h1 (by rfl) ?_;exists(P,L,G,h,w,g,rows,j,rfl,b,λp f=>?_);exists ixT f (v:=V.int g) rfl ?_;symm;by_cases e:4<g
 . rw[Po e];show iteT ?_;rw[bf];exists(lnR rfl,i e _ R.g _<|Pr H)
 . rw[Pl e];show iteF (l #[4])
def lY:f:=λvs H _ E=>∃(P L G f j k:Addr) (h w g h2 i e:Int) (rows a:List RR) (l b:∅),vs=[.ref P,.ref f]/\IsPz H c d P L G h w g rows l/\IsPz H c d f j k h2 i e a b/\(4<g\/4<e)/\bB K "TooMany" H E
def xZ{c:TJ}(h:lY K c d vs H Q E):vs.length=2:=by
 obtain⟨_,_,_,_,_,_,_,_,_,_,_,_,_,_,_,_,rfl,_⟩:=h;rfl
def  sD(K:Frag)(c:TJ)(d:TL)(E:XK):TS:=#[":hqLl#2 h-UeLl#3 rtcxeL2k3skbS"]
def  nZ(K:Frag)(c:TJ)(d:TL)(E:XK):TS:=#[":h:y'Eenp=oa0dh:y'Eenp=oa1d}Denpo"]
def E9{c:TJ}(h:lY K c d vs H Q E):nZ K c d E (eD9 Q) (start ["one","other","sought","move"] vs) H:=by
 obtain⟨P,L,G,f,m,n,h,w,g,h2,j,k,rows,a,o,b,rfl,i,e,r,q⟩:=h;change nZ K c d E _ [↑P,↑f,none,none] H;unfold nZ;generalize sD K c d E=V1;exists(P,L,G,h,w,g,rows,o,rfl,i,λ_=>q,λp=>?_);exists(f,m,n,h2,j,k,a,b,rfl,e,λ_=>q,λl=>by lia)
def dn:f:=lY K c d
def  ya{c:TJ}(h:dn K c d vs H Q E):vs.length=2:=xZ h
def  jG(K:Frag)(c:TJ)(d:TL)(E:XK):TS:=#[":k~btc~Vy}Eenp=oa0a1dbSbfg`0bfg`1",s!"no",s!"yes"]
def yb{c:TJ}(h:dn K c d vs H Q E):jG K c d E (eD9 Q) (start ["one","other"] vs) H:=by
 obtain⟨P,L,G,f,m,n,h,w,g,h2,k,l,rows,a,o,b,rfl,i,e,j,q⟩:=h;change jG K c d E _ [↑P,↑f] H;unfold jG;exists(P,L,G,f,m,n,h,w,g,h2,k,l,rows,a,o,b,rfl,i,e,j,q)
def  LN(K:Frag)(c:TJ)(d:TL)(e:RCl DkK)(H:Hp)(Q:VK)(E:XK)(D:Addr)(L:List En)(us:List (List Nat)):Prop:=
 (∃ w t,us=[puzC,w,t]/\rX K c d e .Desk [.ref D,.str<|tx w,.str<|tx t] H Q E)\/
 (∃ a w r,us=a::w::r/\a≠puzC/\lookE L w=none/\bB K "NoName" H E)\/
 (∃ w x,us=[shoC,w]/\lookE L w=some x/\∀ b,Same H b->Q (.str<|tx x.txt) b)\/
 (∃ a w t x,us=[a,w,t]/\a∈[chkC,hinC,wroC]/\lookE L w=some x/\cQ K c d [.ref x.P,.str<|tx a,.str<|tx t] H Q E)\/
 (∃ w u x,us=[aliC,w,u]/\lookE L w=some x/\(lookE L u=none->bB K "NoName" H E)/\∀ y,lookE L u=some y->dn K c d [.ref x.P,.ref y.P] H Q E)
def  i7(K:Frag)(c:TJ)(d:TL)(e:RCl DkK)(_:DkK):Sp:=λvs H Q E=>∃(D kd:Addr) (L:List En) (v:V),vs=[.ref D,v]/\IsDk H c d e D kd L/\((NoStr H v/\bB K "NoRow" H E)\/∃ a,v=.str (tx<|catL 32 a)/\RwOk a/\(wrdW a=none->bB K "NoRow" H E)/\∀ f,wrdW a=some f->∀ b,Same H b->LN K c d e b Q E D L f)
def  nv(K:Frag)(c:TJ)(d:TL)(e:RCl DkK):Sp:=i7 K c d e .Desk
variable{e:RCl DkK}
def A0{c:TJ}(h:nv K c d e vs H Q E):vs.length=2:=by
 obtain⟨_,_,_,_,rfl,_⟩:=h;rfl
def  i8(K:Frag)(c:TJ)(d:TL)(e:RCl DkK)(E:XK):TS:=#[":ky}Fenp=oa3a~mz~j'F'Genpzo0acm2bi#2 dd"]
def  i9(K:Frag)(c:TJ)(d:TL)(e:RCl DkK)(E:XK):TS:=#[":hrwX'yEcm2bi#0 ky}Genp=oa3acm2bi#0 acm2bi#2 ds}Henpzo"]
def  kS(K:Frag)(c:TJ)(d:TL)(e:RCl DkK)(E:XK):TS:=#[":hrwX'xEcm2bi#0 k,}Ienpa3acm2bi#0 ds}Jenpzo"]
def  ja(K:Frag)(c:TJ)(d:TL)(e:RCl DkK)(E:XK):TS:=#[":hrtcxecm2bi#0 bfg`0kJz~j}K}Lenpz0acm2bi#1 ds}Menpzo",s!"drop"]
def  kT(K:Frag)(c:TJ)(d:TL)(e:RCl DkK)(E:XK):TS:=#[":hq~mz~j'F'Genpzo0acm2bi#1 dl#3 }Nenpzo"]
def  kU(K:Frag)(c:TJ)(d:TL)(e:RCl DkK)(E:XK):TS:=#[":hrtcxecm2bi#0 bfg`0k~mz~j}O}Penpzo0acm2bi#1 acm2bi#2 ds}Qenpzo",s!"puzzle"]
def  kN(K:Frag)(c:TJ)(d:TL)(e:RCl DkK)(E:XK):TS:=#[":hqy}Re=oa1dl#2 }Senpzo"]
def wM {c:TJ} {D kd W:Addr} {L:List En} {w nm:List Nat} {r:List (List Nat)} {x:En} {C:Option V} (X:IsDk H c d e D kd L) (a:H W=↥(((nm::w::r).map tx).map V.str)) (A:lookE L w=some x)
  (h:(r=[]/\nm=shoC/\∀ m,Same H m->Q (.str<|tx x.txt) m)\/
   (∃ t,r=[t]/\nm∈[chkC,hinC,wroC]/\cQ K c d [.ref x.P,.str<|tx nm,.str<|tx t] H Q E)\/
   (∃ u,r=[u]/\nm=aliC/\(lookE L u=none->bB K "NoName" H E)/\∀ y,lookE L u=some y->dn K c d [.ref x.P,.ref y.P] H Q E)):
  ja K c d e E (eD9 Q) [↑D,C,↑W,↑x.P] H:=by
 obtain⟨z,h1⟩:=X.ex;have f:atI (((nm::w::r).map tx).map V.str) 0=some (V.str<|tx nm):=aJ (j:=0) rfl
 have n:decide (tx nm=tx s!"drop")=false:=by
  rcases h with ⟨_,rfl,_⟩ | ⟨t,_,b,_⟩ | ⟨u,_,rfl,_⟩
  . rfl
  . simp only[Pw,Qf,Ra]at b;rcases b with rfl | rfl | rfl <;> rfl
  . rfl
 unfold ja;generalize k:kS K c d e E=V4;rw[aB,aT];exists ixL a f ?_;symm;rw[n];show iteF ?_;subst k;unfold kS;generalize i:i9 K c d e E=V5;rw[aB,aT];exists ixL a f (_,rfl,?_);rcases h with ⟨rfl,rfl,q⟩ | ⟨t,rfl,b,q⟩ | ⟨u,rfl,rfl,o,p⟩
 . rw[show decide (tx shoC∈dm)=true from by decide];show iteT ?_;exists ixL a f ?_;have Y:=X.at_ x (GA A).1;show(x.P,x.L,x.G,x.h,x.wd,x.g,x.rows,x.cl,rfl,Y,q)
 . have s:decide (tx nm∈dm)=false:=by
    simp only[Pw,Qf,Ra]at b;rcases b with rfl | rfl | rfl <;> decide
   have B:decide (tx nm∈ft)=true:=by
    simp only[Pw,Qf,Ra]at b;rcases b with rfl | rfl | rfl <;> decide
   rw[s];show iteF ?_;subst i;unfold i9;generalize i8 K c d e E=V6;rw[aB,aT];exists ixL a f (_,rfl,?_);rw[B];show iteT ?_;exists ixL a f ?_;show ixL a (v:=V.str (tx t)) (aJ (j:=2) rfl) ?_;show q
 . rw[show decide (tx aliC∈dm)=false from by decide];show iteF ?_;subst i;unfold i9;generalize l:i8 K c d e E=V6;rw[aB,aT];exists ixL a f (_,rfl,?_);rw[show decide (tx aliC∈ft)=false from by decide];show iteF ?_;subst l;unfold i8;exists(D,.Desk,z,_,rfl,X.ok,h1,by rfl,?_);show ixL a (v:=V.str (tx u)) (aJ (j:=2) rfl) ?_;show(D,kd,L,u,rfl,X,o,λy F=>p y F)
def A1{c:TJ}(h:nv K c d e vs H Q E):kN K c d e E (eD9 Q) (start ["self","row","words","puzzle"] vs) H:=by
 obtain⟨D,kd,L,v,rfl,X,h⟩:=h;change kN K c d e E _ [↑D,some v,none,none] H;unfold kN;generalize s:kU K c d e E=V1;symm;rcases h with ⟨N,q⟩ | ⟨M,rfl,O,R,Z⟩
 . show(v,rfl,.inl (N,q))
 show(_,rfl,.inr (M,rfl,O,λC Y W l G i=>?_,R));have S:=Z C Y l G;have n:=X.same G;obtain⟨F,h1⟩:=n.ex;subst s;unfold kU;generalize B:kT K c d e E=V2;dsimp only;rw[aB,aT];symm
 have b:∀(a w:List Nat) (r:List (List Nat)),C=a::w::r->a≠puzC->(lookE L w=none->bB K "NoName" l E)->(∀ x,lookE L w=some x->(r=[]/\a=shoC/\∀ I,Same l I->Q (.str<|tx x.txt) I)\/
   (∃ t,r=[t]/\a∈[chkC,hinC,wroC]/\cQ K c d [.ref x.P,.str<|tx a,.str<|tx t] l Q E)\/
   (∃ u,r=[u]/\a=aliC/\(lookE L u=none->bB K "NoName" l E)/\∀ y,lookE L u=some y->dn K c d [.ref x.P,.ref y.P] l Q E))->V2 (eD9 Q) [↑D,some<|.str<|tx<|catL 32 M,↑W,none] l:=by
  intro a w r p m k1 k2;rw[p]at i;subst B;unfold kT;generalize o:ja K c d e E=V3;exists(D,.Desk,F,_,rfl,n.ok,h1,by rfl,?_);show ixL i (v:=V.str (tx w)) (aJ (j:=1) rfl) ?_;show(D,kd,L,w,rfl,n,k1,λx f=>?_);subst o;show wM n i f (k2 x f)
 have k:∀ a:List Nat,a≠puzC->decide (tx a=tx s!"puzzle")=false:=λa h=>Pl λz=>h<|gJ z;rcases S with ⟨w,t,rfl,S⟩ | ⟨a,w,r,rfl,m,g,q⟩ | ⟨w,x,rfl,g,q⟩ | ⟨a,w,t,x,rfl,A,g,q⟩ | ⟨w,u,x,rfl,g,T,U⟩
 . show ixL i (v:=V.str (tx puzC)) (aJ (j:=0) rfl) ?_;symm;rw[show decide (tx puzC=tx s!"puzzle")=true from rfl];show iteT ?_;exists(D,.Desk,F,_,rfl,n.ok,h1,by rfl,?_);show ixL i (v:=V.str (tx w)) (aJ (j:=1) rfl) ?_;show ixL i (v:=V.str (tx t)) (aJ (j:=2) rfl) ?_;show S
 . show ixL i (v:=V.str (tx a)) (aJ (j:=0) rfl) ?_;symm;rw[k a m];show iteF ?_;show b a w r rfl m (λ_=>q) λx f=>by rw[g]at f;cases f
 . show ixL i (v:=V.str (tx shoC)) (aJ (j:=0) rfl) ?_;symm;rw[k shoC #[1]];show iteF ?_;show b shoC w [] rfl #[1] (λz=>by rw[g]at z;cases z) λJ f=>?_;rw[g]at f;cases f;show .inl (rfl,rfl,q)
 . have m:a≠puzC:=by
    simp only[Pw,Qf,Ra]at A;rcases A with rfl | rfl | rfl <;> decide
   show ixL i (v:=V.str (tx a)) (aJ (j:=0) rfl) ?_;symm;rw[k a m];show iteF ?_;show b a w [t] rfl m (λz=>by rw[g]at z;cases z) λJ f=>?_;rw[g]at f;cases f;show .inr (.inl (t,rfl,A,q))
 . show ixL i (v:=V.str (tx aliC)) (aJ (j:=0) rfl) ?_;symm;rw[k aliC #[1]];show iteF ?_;show b aliC w [u] rfl #[1] (λz=>by rw[g]at z;cases z) λJ f=>?_;rw[g]at f;cases f;show .inr (.inr (u,rfl,rfl,T,U))
section
variable{ι:Type}{X:Cx}{c:RCl ι}{o e:Expr}{es:List Expr}{x m:Str}{p pos apos:Pos}{ta:TE}{t:TA}{okm:ι->Bool}{k n:Nat}{ps:List Str}{sp:ι->Sp}{sp1:Sp}{C:Addr}{E:XK}
def  GD(K:Frag)(c:RCl ι)(okm:ι->Bool)(m:Str)(sp:ι->Sp)(ta:TE)(t:TA)(b:Value)(i:Nat)(a:TS):TS:=λD σ H=>∃ E:XK,jM c okm m sp E ta t σ H (λ_ d=>D.nx σ d)/\DH true K b i E a D σ H
def  Ie {pl:Sem Bool} {i:Nat} {nm j:Str} {G:Value} {S d b g:Pos} {F:Stmt} {a:List Stmt} {C:TS} (q:∀ e s,X.xe e s->False) (M:rD X.prog X.w X.K X.mg X.base c okm k m ps sp) (hr:Room n X.A) (U:k<=n) (O:PE X o ta) (L:PA X (e::es) t)
  (J:X.N.Nodup) (W:X.N[i]? =some nm) (B:X.env.kindOf nm=some .local) (P:Gl X j) (T:X.mg j=some G)
  (u:X.stack=X.env::X.outer) (Q:X.env.frame=some X.env.locals) (hs:∀ x,PSs (X.caught x) (F::a) C) (r:(j==("__debug__":Str))=false:=by decide)
  (l:starEach (e::es) X.env=(false ,eval e X.env)::starEach es X.env:=by rfl) (z:(backTo pos<|starEach es X.env).any (·.1)=false:=by rfl) (p:swapsWith (.Call (.Attribute o m apos) (e::es) [] pos) none b.line X.env=pure false:=by rfl)
  (R:eval (.Call (.Attribute o m apos) (e::es) [] pos) X.env=(do
   let ov ← eval o X.env
   standAt apos.atName
   let (f ,first) ← holding [ov] (getMethod ov m pl)
   callWith pos f first (backTo pos<|starEach (e::es) X.env) (backToKw pos<|keywordEach [] X.env)):=by rfl):
  PS X (.Try [.Expr (.Call (.Attribute o m apos) (e::es) [] pos) b] [.ExceptHandler (some<|.Name j S) (some nm) (F::a) d] [] [] g) (GD X.K c okm m sp ta t G i C):=by
 intro Pc s σ H D I h;obtain⟨E,h1,h2⟩:=h;show wpAny_Try_except (S7<|wpAny_Expr_any (P7 (Jh (pl:=pl) E q M hr U O L I h1 l z R) (λv s1 ⟨y,Z,I1,r1,Y⟩=>?_) λe s' hc=>?_) I.quiet p)
 . show RI (RI (σ,Z,I1,Y))
 . show F4 J W B P T u Q hs hc h2 r
end
abbrev aV(a:EA):List Addr:=[a.NoName,a.NoText,a.NoFloor,a.NoRule,a.NoFilling,a.NoPuzzle,a.TooMany,a.BadThought,a.NoMove,a.NotOne]
abbrev aO(a:EA):List Addr:=[a.NoRow,a.NoText,a.NoFloor,a.NoRule,a.NoFilling,a.NoPuzzle,a.TooMany,a.BadThought,a.NoMove,a.NotOne]
abbrev aP(a:EA):List Addr:=[a.NoRow,a.NoName,a.NoFloor,a.NoRule,a.NoFilling,a.NoPuzzle,a.TooMany,a.BadThought,a.NoMove,a.NotOne]
abbrev aK(a:EA):List Addr:=[a.NoRow,a.NoName,a.NoText,a.NoRule,a.NoFilling,a.NoPuzzle,a.TooMany,a.BadThought,a.NoMove,a.NotOne]
abbrev aQ(a:EA):List Addr:=[a.NoRow,a.NoName,a.NoText,a.NoFloor,a.NoFilling,a.NoPuzzle,a.TooMany,a.BadThought,a.NoMove,a.NotOne]
abbrev aC(a:EA):List Addr:=[a.NoRow,a.NoName,a.NoText,a.NoFloor,a.NoRule,a.NoPuzzle,a.TooMany,a.BadThought,a.NoMove,a.NotOne]
abbrev aG(a:EA):List Addr:=[a.NoRow,a.NoName,a.NoText,a.NoFloor,a.NoRule,a.NoFilling,a.TooMany,a.BadThought,a.NoMove,a.NotOne]
abbrev aL(a:EA):List Addr:=[a.NoRow,a.NoName,a.NoText,a.NoFloor,a.NoRule,a.NoFilling,a.NoPuzzle,a.BadThought,a.NoMove,a.NotOne]
abbrev az(a:EA):List Addr:=[a.NoRow,a.NoName,a.NoText,a.NoFloor,a.NoRule,a.NoFilling,a.NoPuzzle,a.TooMany,a.NoMove,a.NotOne]
def  clsA(a:EA):List Addr:=[a.NoRow,a.NoName,a.NoText,a.NoFloor,a.NoRule,a.NoFilling,a.NoPuzzle,a.TooMany,a.BadThought]
def  kn75:List Str:=["NoRow","NoName","NoText","NoFloor","NoRule","NoFilling","NoPuzzle","TooMany","BadThought"]
structure cY(K:Frag)(a:EA)(x:Str)(C:Addr)(os:List Addr):Prop where
 g:Glb K x C
 xis:XIs K C
 xd:∃ D f,XD K C D f
 at_:findIn K (.ref C) "at"=some none
 ve:PySem.W.kitOne K (.ref C) (.type "ValueError")=some true
 ex:PySem.W.exmOne K (.ref C) (.ref a.ClueError)=some true
 no:∀ y∈os,PySem.W.kitOne K (.ref C) (.ref y)=some false
structure Knd(K:Frag)(a:EA)(C:Addr)(k:Nat):Prop where
 xis:XIs K C
 ve:PySem.W.kitOne K (.ref C) (.type "ValueError")=some true
 ex:PySem.W.exmOne K (.ref C) (.ref a.ClueError)=some true
 kt:∀ i,i<9->PySem.W.kitOne K (.ref C) (.ref<|(clsA a).getD i 0)=some (decide<|i=k)
 nm:∀ y∈[a.NoMove,a.NotOne],PySem.W.kitOne K (.ref C) (.ref y)=some false
section
variable{K:Frag}{a:EA}{C:Addr}(R0:ag K a "NoRow" a.NoRow (aV a))(R1:ag K a "NoName" a.NoName (aO a))(R2:ag K a "NoText" a.NoText (aP a))(R3:ag K a "NoFloor" a.NoFloor (aK a))(R4:ag K a "NoRule" a.NoRule (aQ a))(R5:ag K a "NoFilling" a.NoFilling (aC a))(R6:ag K a "NoPuzzle" a.NoPuzzle (aG a))(R7:ag K a "TooMany" a.TooMany (aL a))(R8:cY K a "BadThought" a.BadThought (az a))
include R0 R1 R2 R3 R4 R5 R6 R7 R8
def GE{k:Nat}(g:Glb K (kn75.getD k "") C)(d:k<9):Knd K a C k:=by
 have:k=0\/k=1\/k=2\/k=3\/k=4\/k=5\/k=6\/k=7\/k=8:=by lia
 rcases this with rfl | rfl | rfl | rfl | rfl | rfl | rfl | rfl | rfl
 . obtain rfl:C=a.NoRow:=Tl g R0.g;show(R0.xis,R0.ve,R0.ex,λi c=>?_,λy b=>R0.no y (by simp at b ⊢;rcases b with h | h <;> simp[h]));have:i=0\/i=1\/i=2\/i=3\/i=4\/i=5\/i=6\/i=7\/i=8:=by lia
   rcases this with rfl | rfl | rfl | rfl | rfl | rfl | rfl | rfl | rfl
   . show iP
   . show R0.no a.NoName (by simp)
   . show R0.no a.NoText (by simp)
   . show R0.no a.NoFloor (by simp)
   . show R0.no a.NoRule (by simp)
   . show R0.no a.NoFilling (by simp)
   . show R0.no a.NoPuzzle (by simp)
   . show R0.no a.TooMany (by simp)
   . show R0.no a.BadThought (by simp)
 . obtain rfl:C=a.NoName:=Tl g R1.g;show(R1.xis,R1.ve,R1.ex,λi c=>?_,λy b=>R1.no y (by simp at b ⊢;rcases b with h | h <;> simp[h]));have:i=0\/i=1\/i=2\/i=3\/i=4\/i=5\/i=6\/i=7\/i=8:=by lia
   rcases this with rfl | rfl | rfl | rfl | rfl | rfl | rfl | rfl | rfl
   . show R1.no a.NoRow (by simp)
   . show iP
   . show R1.no a.NoText (by simp)
   . show R1.no a.NoFloor (by simp)
   . show R1.no a.NoRule (by simp)
   . show R1.no a.NoFilling (by simp)
   . show R1.no a.NoPuzzle (by simp)
   . show R1.no a.TooMany (by simp)
   . show R1.no a.BadThought (by simp)
 . obtain rfl:C=a.NoText:=Tl g R2.g;show(R2.xis,R2.ve,R2.ex,λi c=>?_,λy b=>R2.no y (by simp at b ⊢;rcases b with h | h <;> simp[h]));have:i=0\/i=1\/i=2\/i=3\/i=4\/i=5\/i=6\/i=7\/i=8:=by lia
   rcases this with rfl | rfl | rfl | rfl | rfl | rfl | rfl | rfl | rfl
   . show R2.no a.NoRow (by simp)
   . show R2.no a.NoName (by simp)
   . show iP
   . show R2.no a.NoFloor (by simp)
   . show R2.no a.NoRule (by simp)
   . show R2.no a.NoFilling (by simp)
   . show R2.no a.NoPuzzle (by simp)
   . show R2.no a.TooMany (by simp)
   . show R2.no a.BadThought (by simp)
 . obtain rfl:C=a.NoFloor:=Tl g R3.g;show(R3.xis,R3.ve,R3.ex,λi c=>?_,λy b=>R3.no y (by simp at b ⊢;rcases b with h | h <;> simp[h]));have:i=0\/i=1\/i=2\/i=3\/i=4\/i=5\/i=6\/i=7\/i=8:=by lia
   rcases this with rfl | rfl | rfl | rfl | rfl | rfl | rfl | rfl | rfl
   . show R3.no a.NoRow (by simp)
   . show R3.no a.NoName (by simp)
   . show R3.no a.NoText (by simp)
   . show iP
   . show R3.no a.NoRule (by simp)
   . show R3.no a.NoFilling (by simp)
   . show R3.no a.NoPuzzle (by simp)
   . show R3.no a.TooMany (by simp)
   . show R3.no a.BadThought (by simp)
 . obtain rfl:C=a.NoRule:=Tl g R4.g;show(R4.xis,R4.ve,R4.ex,λi c=>?_,λy b=>R4.no y (by simp at b ⊢;rcases b with h | h <;> simp[h]));have:i=0\/i=1\/i=2\/i=3\/i=4\/i=5\/i=6\/i=7\/i=8:=by lia
   rcases this with rfl | rfl | rfl | rfl | rfl | rfl | rfl | rfl | rfl
   . show R4.no a.NoRow (by simp)
   . show R4.no a.NoName (by simp)
   . show R4.no a.NoText (by simp)
   . show R4.no a.NoFloor (by simp)
   . show iP
   . show R4.no a.NoFilling (by simp)
   . show R4.no a.NoPuzzle (by simp)
   . show R4.no a.TooMany (by simp)
   . show R4.no a.BadThought (by simp)
 . obtain rfl:C=a.NoFilling:=Tl g R5.g;show(R5.xis,R5.ve,R5.ex,λi c=>?_,λy b=>R5.no y (by simp at b ⊢;rcases b with h | h <;> simp[h]));have:i=0\/i=1\/i=2\/i=3\/i=4\/i=5\/i=6\/i=7\/i=8:=by lia
   rcases this with rfl | rfl | rfl | rfl | rfl | rfl | rfl | rfl | rfl
   . show R5.no a.NoRow (by simp)
   . show R5.no a.NoName (by simp)
   . show R5.no a.NoText (by simp)
   . show R5.no a.NoFloor (by simp)
   . show R5.no a.NoRule (by simp)
   . show iP
   . show R5.no a.NoPuzzle (by simp)
   . show R5.no a.TooMany (by simp)
   . show R5.no a.BadThought (by simp)
 . obtain rfl:C=a.NoPuzzle:=Tl g R6.g;show(R6.xis,R6.ve,R6.ex,λi c=>?_,λy b=>R6.no y (by simp at b ⊢;rcases b with h | h <;> simp[h]));have:i=0\/i=1\/i=2\/i=3\/i=4\/i=5\/i=6\/i=7\/i=8:=by lia
   rcases this with rfl | rfl | rfl | rfl | rfl | rfl | rfl | rfl | rfl
   . show R6.no a.NoRow (by simp)
   . show R6.no a.NoName (by simp)
   . show R6.no a.NoText (by simp)
   . show R6.no a.NoFloor (by simp)
   . show R6.no a.NoRule (by simp)
   . show R6.no a.NoFilling (by simp)
   . show iP
   . show R6.no a.TooMany (by simp)
   . show R6.no a.BadThought (by simp)
 . obtain rfl:C=a.TooMany:=Tl g R7.g;show(R7.xis,R7.ve,R7.ex,λi c=>?_,λy b=>R7.no y (by simp at b ⊢;rcases b with h | h <;> simp[h]));have:i=0\/i=1\/i=2\/i=3\/i=4\/i=5\/i=6\/i=7\/i=8:=by lia
   rcases this with rfl | rfl | rfl | rfl | rfl | rfl | rfl | rfl | rfl
   . show R7.no a.NoRow (by simp)
   . show R7.no a.NoName (by simp)
   . show R7.no a.NoText (by simp)
   . show R7.no a.NoFloor (by simp)
   . show R7.no a.NoRule (by simp)
   . show R7.no a.NoFilling (by simp)
   . show R7.no a.NoPuzzle (by simp)
   . show iP
   . show R7.no a.BadThought (by simp)
 . obtain rfl:C=a.BadThought:=Tl g R8.g;show(R8.xis,R8.ve,R8.ex,λi c=>?_,λy b=>R8.no y (by simp at b ⊢;rcases b with h | h <;> simp[h]));have:i=0\/i=1\/i=2\/i=3\/i=4\/i=5\/i=6\/i=7\/i=8:=by lia
   rcases this with rfl | rfl | rfl | rfl | rfl | rfl | rfl | rfl | rfl
   . show R8.no a.NoRow (by simp)
   . show R8.no a.NoName (by simp)
   . show R8.no a.NoText (by simp)
   . show R8.no a.NoFloor (by simp)
   . show R8.no a.NoRule (by simp)
   . show R8.no a.NoFilling (by simp)
   . show R8.no a.NoPuzzle (by simp)
   . show R8.no a.TooMany (by simp)
   . show iP
def  kndL(k:Nat):List V:=V.bl true::((List.range 9).map λi=>V.bl<|decide<|i=k)
end
def gS:d:=#[3,∃ x C D k,vs=[.ref x]/\H x=some (.ext<|XO x C D)/\Glb K (kn75.getD k "") C/\k<9/\
 ((k<8/\∀(p l:Addr) (a:Hp),Same H a->a l=some (.lst [])->a p=↥(kndL k++[.bl false,.ref l])->Q (.ref p) a)\/
  (k=8/\∃(b l:Addr),D=some b/\H b=some (.xd [("at" ,.ref l)])/\∀(p:Addr) (a:Hp),Same H a->a p=↥(kndL k++[.bl false,.ref l])->Q (.ref p) a))]
variable{K:Frag}{vs:List V}{H:Hp}{Q:VK}{E:XK}
def ub(h:gS K vs H Q E):vs.length=1:=by
 obtain⟨_,_,_,_,rfl,_⟩:=h;rfl
def  iI(K:Frag)(a:EA):TS:=#[":kcj1uav'Hea0aAabP'IabP'Jddaudd"]
def  dc(K:Frag)(a:EA):TS:=#[":hrwv+ea0abP~Hdkcj1uav'Hea0aAabP'IabP'Jdda}Te0~/ds}UeK"]
def  iJ(K:Frag)(a:EA):TS:=#[":hqcj1uav+ea0abP~Wdav+ea0abP'Ddav+ea0abP~Hddl#1 }VeK"]
def  iK(K:Frag)(a:EA):TS:=#[":hqcj1uav+ea0abP~vdav+ea0abP~fdav+ea0abP~wddl#1 }WeK"]
def  gU(K:Frag)(a:EA):TS:=#[":hquav+ea0abT`0dav+ea0abP~Ydav+ea0abP~Zdav+ea0abP^ddl#1 }XeK","ValueError"]
section
variable{K:Frag}{a:EA}{H:Hp}{Q:VK}{E:XK}{x C:Addr}{D:Option Addr}{k:Nat}
def GF(N:Knd K a C k)(j:H x=some (.ext<|XO x C D)){p:Addr}(y:H p=↥(kndL k))(n:k=8->∃ dx l,D=some dx/\H dx=some (.xd [("at" ,.ref l)])/\(∃ D g,XD K C D g)/\findIn K (.ref C) "at"=some none/\∀(p:Addr) (c:Hp),Same H c->c p=↥(kndL k++[.bl false,.ref l])->Q (.ref p) c)(q:k≠8->∀(p l:Addr) (c:Hp),Same H c->c l=some (.lst [])->c p=↥(kndL k++[.bl false,.ref l])->Q (.ref p) c):
  dc K a (eD9 Q) [↑x,↑p] H:=by
 have M:PySem.W.kitOne K (.ref C) (.ref a.BadThought)=some (decide<|8=k):=N.kt 8 #[1];have B:(kndL k).length=10:=by unfold kndL;simp
 unfold dc;generalize o:iI K a=V4;rw[aB,aT];exists mP N.xis j M (_,rfl,?_);by_cases h8:k=8
 . rw[Po h8.symm];show iteT ?_;obtain⟨dx,l,O,F,G,E,q⟩:=n h8;exists(lnR rfl,λt e=>?_);have d:Same H (upd H t<|.tup [V.ref a.NoMove,V.ref a.NotOne]):=(Pr H).laid e;have s:(upd H t<|.tup [V.ref a.NoMove,V.ref a.NotOne]) t=some (.tup<|[a.NoMove,a.NotOne].map V.ref):=ak;generalize upd H t (.tup [V.ref a.NoMove,V.ref a.NotOne])=H1 at*;show Gb N.xis (d _ _ j) s N.nm ?_;unfold tXat;exists(x,C,dx,_,l,rfl,by rw[← O];show d _ _ j,d _ _ F,by simp[List.lookup],G,E,?_);show(lnR rfl,λu m=>?_);obtain⟨h,f,i,v⟩:=cP (.lst [V.bl false,V.ref l]) m;rw[f];have b:=d.trans i;show lC (b _ _ y) v (by rw[B];change(12:Nat)<=1000;decide) λr w=>?_;show q r _ (b.laid w) ak
 . rw[Pl<|λz=>h8 z.symm];show iteF ?_;subst o;unfold iI;exists(lnR rfl,λt e=>?_);have d:Same H (upd H t<|.tup [V.ref a.NoMove,V.ref a.NotOne]):=(Pr H).laid e;have s:(upd H t<|.tup [V.ref a.NoMove,V.ref a.NotOne]) t=some (.tup<|[a.NoMove,a.NotOne].map V.ref):=ak;generalize upd H t (.tup [V.ref a.NoMove,V.ref a.NotOne])=H1 at*;show Gb N.xis (d _ _ j) s N.nm ?_;exists(bi #[1],λl I=>?_);obtain⟨P,f,J,L⟩:=cP (.lst []) I;rw[f];show(lnR rfl,λu m=>?_);obtain⟨h,f,i,v⟩:=cP (.lst [V.bl false,V.ref l]) m;rw[f];have b:=(d.trans J).trans i;show lC (b _ _ y) v (by rw[B];change(12:Nat)<=1000;decide) λr w=>?_;have A:Same h (upd h r<|.lst<|kndL k++[V.bl false,V.ref l]):=(Pr h).laid w;show q h8 r l _ (b.trans A) (A _ _<|i _ _ L) ak
def GG(N:Knd K a C k)(f:H x=some (.ext<|XO x C D))(F:∀(p:Addr) (j:Hp),Same H j->j p=↥(kndL k)->dc K a (eD9 Q) [↑x,↑p] j):
  gU K a (eD9 Q) [↑x,none] H:=by
 have b:∀ i:Nat,i<9->PySem.W.kitOne K (.ref C) (.ref<|(clsA a).getD i 0)=some (decide<|i=k):=N.kt;unfold gU;generalize h:iK K a=V1;exists Ks N.xis f N.ve ?_;show mP N.xis f (b 0 #[1]) ?_;show mP N.xis f (b 1 #[1]) ?_;show mP N.xis f (b 2 #[1]) ?_;show(lnR rfl,λu v=>?_);obtain⟨G,e,q,e1⟩:=cP (.lst [V.bl true,V.bl<|decide<|0=k,V.bl<|decide<|1=k,V.bl<|decide<|2=k]) v;rw[e];have c:=q _ _ f;subst h;unfold iK;generalize n:iJ K a=V2;exists mP N.xis c (b 3 #[1]) ?_;show mP N.xis c (b 4 #[1]) ?_;show mP N.xis c (b 5 #[1]) ?_;show(lnR rfl,λw B=>?_);obtain⟨o,e,l,e2⟩:=cP (.lst [V.bl<|decide<|3=k,V.bl<|decide<|4=k,V.bl<|decide<|5=k]) B;rw[e];show lC (l _ _ e1) e2 (by change(7:Nat)<=1000;decide) λy A=>?_;obtain⟨H3,e,s3,e3⟩:∃ z,upd o y (.lst ([V.bl true,V.bl (decide (0=k)),V.bl (decide (1=k)),V.bl (decide (2=k))]++[V.bl (decide (3=k)),V.bl (decide (4=k)),V.bl (decide (5=k))]))=z/\Same o z/\z y=some (.lst [V.bl true,V.bl (decide (0=k)),V.bl (decide (1=k)),V.bl (decide (2=k)),V.bl (decide (3=k)),V.bl (decide (4=k)),V.bl (decide (5=k))]):=cP _ A;rw[e];have d:=s3 _ _<|l _ _ c;subst n;unfold iJ;generalize s:dc K a=V3 at*;exists mP N.xis d (b 6 #[1]) ?_;show mP N.xis d (b 7 #[1]) ?_;show mP N.xis d (b 8 #[1]) ?_;show(lnR rfl,λg m=>?_);have r:Same H3 (upd H3 g<|.lst [V.bl<|decide<|6=k,V.bl<|decide<|7=k,V.bl<|decide<|8=k]):=(Pr H3).laid m;have E:(upd H3 g<|.lst [V.bl<|decide<|6=k,V.bl<|decide<|7=k,V.bl<|decide<|8=k]) g=some (.lst [V.bl<|decide<|6=k,V.bl<|decide<|7=k,V.bl<|decide<|8=k]):=ak;generalize upd H3 g (.lst [V.bl<|decide<|6=k,V.bl<|decide<|7=k,V.bl<|decide<|8=k])=H4 at*;show lC (r _ _ e3) E (by change(10:Nat)<=1000;decide) λz t=>?_;show F z _ ((((q.trans l).trans s3).trans r).laid t) ak
end
def uc{a:EA}(n:ag K a "NoRow" a.NoRow (aV a))(r:ag K a "NoName" a.NoName (aO a))(y:ag K a "NoText" a.NoText (aP a))(m:ag K a "NoFloor" a.NoFloor (aK a))(z:ag K a "NoRule" a.NoRule (aQ a))(s:ag K a "NoFilling" a.NoFilling (aC a))(j:ag K a "NoPuzzle" a.NoPuzzle (aG a))(A:ag K a "TooMany" a.TooMany (aL a))(b:cY K a "BadThought" a.BadThought (az a))(h:gS K vs H Q E):gU K a (eD9 Q) (start ["_law_e","_law_some"] vs) H:=by
 obtain⟨x,C,D,k,rfl,i,g,v,h⟩:=h;have N:=GE n r y m z s j A b g v;change gU K a _ [↑x,none] H;show GG N i λp F c u=>?_;show GF N (c _ _ i) u (λh8=>?_) λh8 p l d f w e=>?_
 . rcases h with ⟨h,_⟩ | ⟨_,t,l,B,o,q⟩
   . lia
   . subst h8;obtain rfl:C=a.BadThought:=Tl g b.g;show(t,l,B,c _ _ o,b.xd,b.at_,λp d f e=>q p d (c.trans f) e)
 . rcases h with ⟨_,q⟩ | ⟨h,_⟩
   . show q p l d (c.trans f) w e
   . show absurd h h8
def  zr(K:Frag)(c:TJ)(d:TL)(e:RCl DkK)(H:Hp)(D:Addr)(v:V)(k:Nat)(xs:∅):Prop:=
 ∀(a:Hp) (Q:VK) (E:XK),Same H a->(k<8->bB K (kn75.getD k "") a E)->(k=8->FoE75 K E a xs)->i7 K c d e .Desk [.ref D,v] a Q E
def  lZ(K:Frag)(c:TJ)(d:TL)(e:RCl DkK):Sp:=#[3,∃ D kd L v k xs,vs=[.ref D,v]/\IsDk H c d e D kd L/\k<9/\(k<8->xs=[])/\zr K c d e H D v k xs/\∀(p l:Addr) (a:Hp),Same H a->a l=↥(xs.map V.int)->a p=↥(kndL k++[.bl false,.ref l])->Q (.ref p) a]
def  l5(K:Frag)(c:TJ)(d:TL)(e:RCl DkK)(a:EA):TS:=#[":hqudl#2 h}Yez~j~I~Jenpz0a1dP}Z#3 q,}*ea3dl#2 k2"]
variable{d:TL}{e:RCl DkK}
def yc{c:TJ}{a:EA}(I:ag K a "NoRow" a.NoRow (aV a))(J:ag K a "NoName" a.NoName (aO a))(S:ag K a "NoText" a.NoText (aP a))(F:ag K a "NoFloor" a.NoFloor (aK a))(U:ag K a "NoRule" a.NoRule (aQ a))(M:ag K a "NoFilling" a.NoFilling (aC a))(B:ag K a "NoPuzzle" a.NoPuzzle (aG a))(Y:ag K a "TooMany" a.TooMany (aL a))(O:cY K a "BadThought" a.BadThought (az a))(h:lZ K c d e vs H Q E):l5 K c d e a (eD9 Q) (start ["_law_desk","_law_row","_law_marks_here","_law_e"] vs) H:=by
 obtain⟨D,kd,L,v,k,xs,rfl,X,A,u,Z,q⟩:=h;change l5 K c d e a _ [↑D,some v,none,none] H;unfold l5;exists(bi #[1],λm R=>?_);have r:Same H (upd H m<|.lst []):=(Pr H).laid R;generalize upd H m (.lst [])=H1 at*;obtain⟨f,h1⟩:=(X.same r).ex;show(λv D b=>∃ C,v=.ref C/\Glb K (kn75.getD k "") C/\Same H1 b/\((k<8/\D=none)\/(k=8/\∃(f l:Addr),D=some f/\b l=↥(xs.map V.int)/\b f=some (.xd [("at" ,.ref l)]))),?_,?_)
 . exists(D,.Desk,f,_,rfl,X.ok,h1,by rfl,?_);show Z H1 _ _ r (λk8 C w b i=>(C,rfl,w,i,.inl (k8,rfl))) λk8 C l f b w i n o=>?_;subst k8;show(C,rfl,w,i,.inr (rfl,f,l,rfl,n,o))
 . rintro C t y ⟨W,e1,g,P,G⟩;obtain rfl:C=W:=by injection e1
   have N:=GE I J S F U M B Y O g A;show(N.ex,λx T=>?_);obtain⟨H3,z9,s3,ex⟩:∃ z,upd y x (.ext (XO x C (bif true then t else none)))=z/\Same y z/\z x=some (.ext (XO x C t)):=cP _ T;rw[z9];have j:=(r.trans P).trans s3;exists(x,C,t,k,rfl,ex,g,A,?_);rcases G with ⟨k8,rfl⟩ | ⟨k8,f,l,rfl,n,o⟩
   . show .inl (k8,λp l b i n s=>?_);exists q p l b (j.trans i) (by rw[u k8];show n) s
   . show .inr (k8,f,l,rfl,s3 _ _ o,λp b i s=>?_);exists q p l b (j.trans i) ((s3.trans i) _ _ n) s
def  rZ(y:Int)(p k:Nat):Nat:=97+((y / ((p:Int)+2)+7*(k:Int))%26).toNat
variable{y:Int}
def wN{p i j:Nat}(a:i<3)(b:j<3)(h:i≠j):rZ y p i≠rZ y p j:=by
 unfold rZ;generalize y / ((p:Int)+2)=z;have:(i=0/\j=1)\/(i=0/\j=2)\/(i=1/\j=0)\/(i=1/\j=2)\/(i=2/\j=0)\/(i=2/\j=1):=by lia
 rcases this with ⟨rfl,rfl⟩ | ⟨rfl,rfl⟩ | ⟨rfl,rfl⟩ | ⟨rfl,rfl⟩ | ⟨rfl,rfl⟩ | ⟨rfl,rfl⟩ <;> lia
def  zt(y:Int)(j:Nat):Nat:=97+((y / ((j:Int)+2))%26).toNat
def  LO:((List.range 257).all λi=>(List.range 256).all λj=>!(decide ((256*i+j)/2%26=18)&&(decide ((256*i+j)/3%26=20)&&(decide ((256*i+j)/4%26=15)&&(decide ((256*i+j)/5%26=15)&&(decide ((256*i+j)/6%26=14)&&decide ((256*i+j)/7%26=18))))))
  &&!(decide ((256*i+j)/3%26=18)&&(decide ((256*i+j)/4%26=20)&&(decide ((256*i+j)/5%26=15)&&(decide ((256*i+j)/6%26=15)&&(decide ((256*i+j)/7%26=14)&&decide ((256*i+j)/8%26=18)))))))=true:=by decide+kernel
def K7{a:List Nat}(l:0<=y)(r:y<65537)(v:a.length<=8)(h:∀(j c:Nat),a[j]? =some c->c=zt y j):¬ supW <:+:a:=by
 rintro⟨s,t,e⟩;obtain⟨n,rfl⟩:=QQ l;have u:n<65537:=by lia
 have k:=congrArg List.length e;simp only[Pq,supW,PR,To]at k;have T:=PL.mp (PL.mp LO (n/256)<|Qk.mpr #[4]) (n%256)<|Qk.mpr #[4];rw[show 256*(n/256)+n%256=n by lia]at T;simp only[P3,S3,Bool.and_eq_false_imp,PP,Tb]at T
 have L:∀ j:Nat,zt (n:Int) j=97+n / (j+2)%26:=λj=>by
  unfold zt
  have:((n:Int) / ((j:Int)+2))%26=((n / (j+2)%26:Nat):Int):=by
   rw[Int.natCast_emod,Int.natCast_ediv];rfl
  rw[this,Rv]
 have:s.length=0\/s.length=1:=by lia
 rcases this with d | d
 . obtain rfl:s=[]:=List.length_eq_zero_iff.mp d
   have g:∀(j c:Nat),supW[j]? =some c->c=97+n / (j+2)%26:=λj c b=>by
    rw[← L];show h j c ?_;rw[← e,QX,PV (Ps.mp b).1];show b
   have q:=g 0 115 rfl;have f:=g 1 117 rfl;have m:=g 2 112 rfl;have i:=g 3 112 rfl;have o:=g 4 111 rfl;have p:=g 5 115 rfl;show T.1 #[4] #[4] #[4] #[4] #[4] #[4]
 . obtain⟨x,rfl⟩:∃ x,s=[x]:=by
    match s,d with
    | [x],_=>show(x,rfl)
   have g:∀(j c:Nat),supW[j]? =some c->c=97+n / (j+1+2)%26:=λj c b=>by
    rw[← L];show h (j+1) c ?_;rw[← e];change(supW++t)[j]? =some c;rw[PV (Ps.mp b).1];show b
   have q:=g 0 115 rfl;have f:=g 1 117 rfl;have m:=g 2 112 rfl;have i:=g 3 112 rfl;have o:=g 4 111 rfl;have p:=g 5 115 rfl;show T.2 #[4] #[4] #[4] #[4] #[4] #[4]
structure Nm3(a b u:List Nat):Prop where
 na:NmOk a
 nb:NmOk b
 nu:NmOk u
 ab:a≠b
 au:a≠u
 bu:b≠u
 ns:¬ supW <:+:a
def l6:d:=#[3,∃(A:Addr) (d:∅),vs=[.ref A]/\SqL K H A (d.map V.int)/\d.length<=63/\∀(l:Addr) (a b u:List Nat) (c:Hp),Same H c->H l=none->Nm3 a b u->c l=↥(([a,b,u].map tx).map V.str)->Q (.ref l) c]
def jP:a:=#[":h-~tabi#3 dl#6 hqbfg=l#7 h-~ta3dl#8 hqcjc~K2cj8bi#2 cZcZbi#7 6v'Kacxe84dl#9 qcj7cm1c?9bi#26 l#7 :Ce~k~T5a7dk5"]
def l7:a:=#[":hqbfg`0l#1 hqc?cZ,'Lea0abi#0 dbi#30011 bi#65537 l#2 hqcjbi#1 c?2bi#8 l#3 hqc?c~K2bi#8 3l#4 hqudl#5 }+e",s!"abcdefghijklmnopqrstuvwxyz"]
def ud {G:Hp} {L:Addr} {n:Int} {p:Nat} {M:Option V} (y0:0<=y) (y1:y<65537) (n0:1<=n) (n8:n<=8) (hp:(p:Int)<n) (hL:G L=none) (s0:Same G H) (v:H L=some (.lst []))
  (q:∀(a b u:List Nat) (g:Hp),Same G g->Nm3 a b u->g L=↥(([a,b,u].map tx).map V.str)->Q (.ref L) g):
  jP K (eD9 Q) [M,some<|.str<|tx abc,⇑y,⇑n,⇑(p:Int),↑L,none,none,none,none] H:=by
 unfold jP;exists(3,rfl,by decide,by decide,?_)
 show mT (λi σ g=>∃(d:List (List Nat)) (N O r h:Option V),σ=[M,some<|.str<|tx abc,⇑y,⇑n,⇑(p:Int),↑L,N,O,r,h]/\Same G g/\d.length=i/\(∀ w∈d,NmOk w)/\(∀(k:Nat) (w:List Nat),d[k]? =some w->w.getD p 0=rZ y p k/\(k=0->∀(j c:Nat),w[j]? =some c->c=zt y j))/\g L=↥((d.map tx).map V.str))
  ([],_,_,_,_,rfl,s0,rfl,λ_ z=>(nomatch z),λk w z=>by simp at z,v) ?_ ?_
 . rintro i σ S hi ⟨d,N,O,r,h,rfl,R,C,E,s,v⟩;have aa:i<3:=hi;rw[SJ];exists(n,rfl,by lia,by lia,?_)
   show mT (λj σ g=>∃(w:List Nat) (r h:Option V),σ=[M,some<|.str<|tx abc,⇑y,⇑n,⇑(p:Int),↑L,⇑(i:Int),some<|.str<|tx w,r,h]/\g=S/\w.length=j/\(∀ c∈w,97<=c/\c<=122)/\(p<j->w.getD p 0=rZ y p i)/\(i=0->∀(o c:Nat),w[o]? =some c->c=zt y o))
    ([],_,_,rfl,rfl,rfl,λ_ z=>(nomatch z),λz=>by lia,λ_ j c z=>by simp at z) ?_ ?_
   . rintro j σ Z hj ⟨w,r,h,rfl,rfl,l,m,P,W⟩;have ab:j<n.toNat:=hj;rw[SJ];symm;generalize J:y / ((j:Int)+2)+7*(i:Int)*(if decide ((j:Int)=(p:Int))=true then 1 else 0)=z at*;show((by lia,by lia),.inl (by decide,by decide),.inl (by lia,by lia),by decide,?_);have c0:=Ro z (show(26:Int)≠0 by decide);have c1:=Q5 z (show(0:Int)<26 by decide);rw[EC];show(by rw[aF];show bi #[1],bV (K1 c0 c1) ?_);show kB (a:=w) (b:=[97+(z%26).toNat]) (by simp;lia) ?_;show(w++[97+(z%26).toNat],⇑(j:Int),⇑z,rfl,rfl,by simp[l],?_,λad=>?_,λD o c A=>?_)
     . intro t B;rcases PN.mp B with B | B
       . show m t B
       . rw[PJ.mp B];lia
     . by_cases e:p=j
       . subst e;rw[List.getD,P4 #[4],l,Nat.sub_self];rw[PK<|Po rfl]at J;change 97+(z%26).toNat=rZ y p i;unfold rZ;rw[← J,Int.mul_one]
       . rw[List.getD,PV #[4]];show P #[4]
     . by_cases U:o<w.length
       . rw[PV U]at A;show W D o c A
       . rw[P4 #[4]]at A;have T:o-w.length=0:=by have:=(Ps.mp A).1;simp at this;lia
         rw[T]at A;cases A;have:o=j:=by lia
         subst this;unfold zt;rw[← J,D];simp
   . rintro σ Z ⟨w,r,h,rfl,rfl,l,m,P,W⟩;exists(rj v,?_);rw[wq v];show(by simp;show aZ #[4],d++[w],_,_,_,_,rfl,R.own hL,by simp[C],?_,?_,?_)
     . intro x f;rcases PN.mp f with f | f
       . show E x f
       . rw[PJ.mp f];show(by lia,by lia,m)
     . intro k x f;by_cases hk:k<d.length
       . rw[PV hk]at f;show s k x f
       . rw[P4 #[4]]at f;have T:k-d.length=0:=by have:=(Ps.mp f).1;simp at this;lia
         rw[T]at f;cases f;have:k=i:=by lia
         rw[this];show(P #[4],W)
     . rw[ak];simp
 . rintro σ S ⟨d,N,O,r,h,rfl,R,C,E,s,v⟩;have C:d.length=3:=C
   obtain⟨a,b,u,rfl⟩:∃ a b u,d=[a,b,u]:=by
    match d,C with
    | [a,b,u],_=>show(a,b,u,rfl)
   symm;have Y:=E a (by simp);have ns:=K7 y0 y1 Y.2.1<|(s 0 a rfl).2 rfl;have F:=(s 0 a rfl).1;have I:=(s 1 b rfl).1;have X:=(s 2 u rfl).1;show q a b u S R (Y,E b (by simp),E u (by simp),?_,?_,?_,ns) v
   . intro e;rw[e,I]at F;show wN #[1] #[1] #[1] F
   . intro e;rw[e,X]at F;show wN #[1] #[1] #[1] F
   . intro e;rw[e,X]at I;show wN #[1] #[1] #[1] I
def yd:R "'script 'letters 'cell 'size 'at 'names_here 'k 'word 'j 'turn" l6 l7 K:=by
 obtain⟨a,g,rfl,m,j,q⟩:=h;exists l7;show(a,g,0,rfl,m,j,by decide,λx=>?_);symm;have r:=Ro (x*30011) (show(65537:Int)≠0 by decide);have i:=Q5 (x*30011) (show(0:Int)<65537 by decide);have t:=Ro (x*30011%65537) (show(8:Int)≠0 by decide);have s:=Q5 (x*30011%65537) (show(0:Int)<8 by decide);generalize x*30011%65537=y at*;show(.inr (by decide,by decide),by decide,by decide,(by decide,by decide),by lia,bi #[1],λL c=>?_);have l:Same H (upd H L<|.lst []):=(Pr H).laid c;have k:=Ro (y/8) (show(1+y%8)≠0 by lia);have d:=Q5 (y/8) (show 0<1+y%8 by lia);obtain⟨p,f⟩:=QQ k;rw[f]at d ⊢;show ud r i #[4] #[4] d c l ak λa b u n o h4 e=>q L a b u n o c h4 e
def Ak:∀ a:List (List Nat),a.length<=(catL 32 a).length+1/\∀ w∈a,w.length<=(catL 32 a).length
 | []=>(by simp,λw h=>by simp at h)
 | [x]=>(by simp,λw h=>by rw[PJ.mp h];show Py _)
 | x::y::r=>by
  obtain⟨h1,h2⟩:=Ak (y::r);have e:catL 32 (x::y::r)=x++32::catL 32 (y::r):=jL (by simp);rw[e];simp only[Pq,PR]at h1 ⊢;show(by lia,λw h=>?_);rcases Pw.mp h with rfl | h
  . lia
  . have:=h2 w h;lia
def RwOk.of{a:List (List Nat)}(c:a≠[])(b:∀ w∈a,32∉w)(n:(catL 32 a).length<=800):RwOk a:=by
 obtain⟨h1,h2⟩:=Ak a;show(c,b,by lia,by lia,λw d=>by have:=h2 w d;lia)
abbrev TF:=@RwOk.of
structure Ev(t:TE)(σ:St)(s:List Nat)(n:Nat):Prop where
 n:s.length<=n
 r:∀(H:Hp) (Q:VK),(∀ H',Same H H'->Q (.str<|tx s) H')->t σ H Q
variable{σ:St}{s:List Nat}
def  ay:Ev (tC<|.str<|tx s) σ s s.length:=(Py _,λH Q q=>q H<|Pr H)
variable{n:Nat}
def  aX{i:Nat}(h:σ[i]? =some (some<|.str<|tx s))(a:s.length<=n):Ev (tVar i) σ s n:=(a,λH Q q=>lw h<|q H<|Pr H)
def ap{t u:TE}{r:List Nat}{m:Nat}(x:Ev t σ s n)(y:Ev u σ r m)(h:n+m<=900):Ev (tOp cAdd t u) σ (s++r) (n+m):=by
 have h1:=x.n;have h2:=y.n;show(by simp;lia,λH Q q=>?_);rw[fK];show x.r H _ λa d=>y.r a _ λc b=>?_;show kB #[4] (q c<|d.trans b)
def  El(P:V->Hp->Prop)(t:TE)(σ:St):Prop:=∀(H:Hp) (Q:VK),(∀ v b,Same H b->(∀ a,Same b a->P v a)->Q v b)->t σ H Q
def  Els(P:V->Hp->Prop)(ts:TA)(σ:St)(n:Nat):Prop:=∀(H:Hp) (Q:List V->Hp->Prop),(∀ vs b,Same H b->vs.length=n->(∀ a,Same b a->∀ v∈vs,P v a)->Q vs b)->ts σ H Q
variable{P:V->Hp->Prop}
def  bz:Els P tNil σ 0:=λH Q q=>q [] H (Pr H) rfl λ_ _ v a=>by simp at a
variable{ts:TA}
def  aq{t:TE}(x:El P t σ)(y:Els P ts σ n):Els P (tCons t ts) σ (n+1):=λH Q q=>by
 rw[bN];show x H _ λv e f k1=>y e _ λvs h b g k2=>?_;show q (v::vs) h (f.trans b) (by simp[g]) λd c u a=>?_;rcases Pw.mp a with rfl | a
 . show k1 d (b.trans c)
 . show k2 d c u a
def  bc{t:TE}(x:Ev t σ s n)(h:s.length<=n->∀ H,P (.str<|tx s) H):El P t σ:=λH Q q=>x.r H _ λa c=>q _ a c λb _=>h x.n b
def  Ig{v:V}(h:∀ H,P v H):El P (tC v) σ:=λH Q q=>q _ H (Pr H) λa _=>h a
def  JJ{t:TE}(x:Ev t σ s n)(h:∀(p:Addr) (H:Hp),H p=some (.lst [.str<|tx s])->P (.ref p) H):El P (tLst<|tCons t tNil) σ:=λH Q q=>by
 rw[df,bN];show x.r H _ λe b=>?_;rw[cZ];show(lnR rfl,λp a=>?_);show q _ _ (b.laid a) λc d=>h p c (d _ _ ak)
def  bq{t:TE}{r:List Nat}(x:Ev t σ s n)(h:s.length<=n->∀(p:Addr) (H:Hp),H p=some (.tup [.str<|tx r,.str<|tx s])->P (.ref p) H):El P (tTup<|tCons (tC<|.str<|tx r)<|tCons t tNil) σ:=λH Q q=>by
 rw[di,bN,w_c,bN];show x.r H _ λe b=>?_;rw[cZ];show(lnR rfl,λp a=>?_);show q _ _ (b.laid a) λc d=>h x.n p c (d _ _ ak)
def Fa(x:Els P ts σ n)(i:n<=900)(q:∀(r:Addr) (ys:List V) (b:Hp),Same H b->b r=↥ys->ys.length=n->(∀ a,Same b a->∀ v∈ys,P v a)->Q (.ref r) b):tLst ts σ H Q:=by
 rw[df];show x H _ λvs d f e k1=>(bi #[4],λp c=>?_);show q p vs _ (f.laid c) ak e λg h=>k1 g (((Pr d).laid c).trans h)
variable{p:Addr}{xs:List V}
def fN{i:Nat}(k:σ[i]? =some ↑p)(o:H p=↥xs)(s:∀ a,Same H a->∀ v∈xs,P v a)(x:Els P ts σ n)(t:xs.length+n<=900)(q:∀(r:Addr) (ys:List V) (a:Hp),Same H a->a r=↥ys->ys.length=xs.length+n->(∀ c,Same a c->∀ v∈ys,P v c)->Q (.ref r) a):tOp cAdd (tVar i) (tLst ts) σ H Q:=by
 rw[fK];show lw k ?_;show Fa x #[4] λr ys d e j m k1=>?_;show lC (e _ _ o) j #[4] λz l=>?_;have f:Same d (upd d z<|.lst<|xs++ys):=(Pr d).laid l;show q z (xs++ys) _ (e.trans f) ak (by simp[m]) λg h v b=>?_;rcases PN.mp b with b | b
 . show s g ((e.trans f).trans h) v b
 . show k1 g (f.trans h) v b
def  de(v:V)(H:Hp):Prop:=NoStr H v\/∃ a,v=.str (tx<|catL 32 a)/\RwOk a/\wrdW a=none
def  bI(a:List (List Nat)){s:List Nat}{H:Hp}(e:s=catL 32 a)(c:a≠[])(b:∀ w∈a,32∉w)(h:wrdW a=none)(n:s.length<=800):de (.str<|tx s) H:=.inr (a,by rw[e],TF c b (by rw[← e];show n),h)
def  NoNm(a b:List Nat)(us:List (List Nat)):Prop:=
 (∃ w t,us=[puzC,w,t]/\isNm w=false/\w.length<=900/\∀ c∈w,c<128)\/(∃ d w r,us=d::w::r/\d≠puzC/\w≠a/\w≠b)\/(∃ w x,us=[aliC,w,x]/\(w=a\/w=b)/\x≠a/\x≠b)
def  du(a b:List Nat)(v:V)(_:Hp):Prop:=∃ c d,v=.str (tx<|catL 32 c)/\RwOk c/\wrdW c=some d/\NoNm a b d
def  cO(c:List (List Nat)){us:List (List Nat)}{a b s:List Nat}{H:Hp}(e:s=catL 32 c)(f:c≠[])(d:∀ w∈c,32∉w)(h:wrdW c=some us)(k:NoNm a b us)(n:s.length<=800):du a b (.str<|tx s) H:=(c,us,by rw[e],TF f d (by rw[← e];show n),h,k)
def  nmNe{a w:List Nat}(n:NmOk a)(h:isNm w=false):w≠a:=λe=>by rw[e,n.is]at h;cases h
def kq:d:=#[3,∃ a b u:List Nat,vs=[.str<|tx a,.str<|tx b]/\Nm3 a b u/\∀(p:Addr) (xs:List V) (d:Hp),Same H d->d p=↥xs->xs.length=33->(∀ c,Same d c->∀ v∈xs,de v c)->Q (.ref p) d]
def fO:a:=#[":kcj2uacjbfg`00acjcjbfg`10bfg`2acjcjcjbfg`30bfg`40d",[115,104,111,119,9],s!"checks ",s!" x",s!"drop ",[32]]
def fP:a:=#[":hqcj2uabfg`0acjcjbfg`10bfg`2acjcjbfg`30bfg`4abfg`5acjcjbfg`60bfg`7acjbfg`80dl#2 }-e",s!"solve",s!"solve ",s!" 1",s!"book ",s!" x",s!"needs",s!"least ",[32],[115,104,111,119,10]]
def fQ:a:=#[":hqcj2uacjcjcjcjcjbfg`00bfg`11bfg`10abfg`2abfg`3acjbfg`40acjbfg`50acjbfg`60dl#2 }/e",s!"alike ",[32],s!"alike",s!"hint",s!"hint ",s!"wrong ",s!"solved "]
def fR:a:=#[":hqcj2uacjcjbfg`00bfg`1acjbfg`20acjbfg`30acjcjcjbfg`00bfg`11acjbfg`40acjbfg`50dl#2 }:e",s!"show ",[32],s!"show  ",s!" show ",s!"Show ",s!"alike "]
def kr:a:=#[":hquabSabi#3 abWEauacjbfg`00daAabfg`1a0dabfg=abfg`2abfg`1abfg`3abfg`4acjbfg`50acjbfg`60dl#2 };e",s!"show ",s!"show",[32],s!"drop",s!"puzzle",s!"puzzle ",s!"check "]
variable{u:List Nat}
def r8{a b:List Nat}(N:Nm3 a b u)(t:H p=↥xs)(k:xs.length=30)(w:∀ c,Same H c->∀ v∈xs,de v c)(q:∀(p:Addr) (xs:List V) (c:Hp),Same H c->c p=↥xs->xs.length=33->(∀ d,Same c d->∀ v∈xs,de v d)->Q (.ref p) c):
  fO K (eD9 Q) [some<|.str<|tx a,some<|.str<|tx b,↑p] H:=by
 have h:=N.na.free;have j:=N.nb.free;have g:=N.nu.free;have f:=N.na.2.1;have x:=N.nb.2.1;have y:=N.nu.2.1;unfold fO;rw[cp]
 show fN (i:=2) (P:=de) rfl t w ((aq (bc (ap ay (aX (i:=0) rfl f) #[1]) λe H=>bI [[115,104,111,119,9]++a] (by simp[catL]) (by simp) (by simp[h,j,g]) rfl<|Pk e #[1])
  (aq (bc (ap (ap ay (aX (i:=0) rfl f) #[1]) ay #[1]) λe H=>bI [s!"checks",a,[120]] (by simp[catL]) (by simp) (by simp[h,j,g]) rfl<|Pk e #[1])
  (aq (bc (ap (ap (ap ay (aX (i:=0) rfl f) #[1]) ay #[1]) (aX (i:=0) rfl f) #[1]) λe H=>bI [s!"drop",a,a] (by simp[catL]) (by simp) (by simp[h,j,g]) rfl<|Pk e #[1])
  bz)))) (by rw[k];decide) λr m n s l o k1=>?_
 show q r m n s l (by rw[o,k]) k1
def sd{a b:List Nat}(N:Nm3 a b u)(w:H p=↥xs)(n:xs.length=24)(y:∀ d,Same H d->∀ v∈xs,de v d)(q:∀(p:Addr) (xs:List V) (d:Hp),Same H d->d p=↥xs->xs.length=33->(∀ j,Same d j->∀ v∈xs,de v j)->Q (.ref p) d):
  fP K (eD9 Q) [some<|.str<|tx a,some<|.str<|tx b,↑p] H:=by
 have f:=N.na.free;have h:=N.nb.free;have g:=N.nu.free;have m:=N.na.2.1;have B:=N.nb.2.1;have C:=N.nu.2.1;unfold fP;generalize s:fO K=V;rw[aB,bg]
 show fN (i:=2) (P:=de) rfl w y ((aq (bc ay λc H=>bI [s!"solve"] (by simp[catL]) (by simp) (by simp[f,h,g]) rfl<|Pk c #[1])
  (aq (bc (ap (ap ay (aX (i:=0) rfl m) #[1]) ay #[1]) λc H=>bI [s!"solve",a,[49]] (by simp[catL]) (by simp) (by simp[f,h,g]) rfl<|Pk c #[1])
  (aq (bc (ap (ap ay (aX (i:=0) rfl m) #[1]) ay #[1]) λc H=>bI [s!"book",a,[120]] (by simp[catL]) (by simp) (by simp[f,h,g]) rfl<|Pk c #[1])
  (aq (bc ay λc H=>bI [s!"needs"] (by simp[catL]) (by simp) (by simp[f,h,g]) rfl<|Pk c #[1])
  (aq (bc (ap (ap ay (aX (i:=0) rfl m) #[1]) ay #[1]) λc H=>bI [s!"least",a,[]] (by simp[catL]) (by simp) (by simp[f,h,g]) rfl<|Pk c #[1])
  (aq (bc (ap ay (aX (i:=0) rfl m) #[1]) λc H=>bI [[115,104,111,119,10]++a] (by simp[catL]) (by simp) (by simp[f,h,g]) rfl<|Pk c #[1])
  bz))))))) (by rw[n];decide) λr A D t o z k1=>?_
 rw[aH];subst s;show r8 (K:=K) N o (by rw[z,n]) k1 λp xs d x e l k=>q p xs d (t.trans x) e l k
def se{a b:List Nat}(N:Nm3 a b u)(x:H p=↥xs)(n:xs.length=18)(z:∀ d,Same H d->∀ v∈xs,de v d)(q:∀(p:Addr) (xs:List V) (d:Hp),Same H d->d p=↥xs->xs.length=33->(∀ j,Same d j->∀ v∈xs,de v j)->Q (.ref p) d):
  fQ K (eD9 Q) [some<|.str<|tx a,some<|.str<|tx b,↑p] H:=by
 have f:=N.na.free;have h:=N.nb.free;have g:=N.nu.free;have m:=N.na.2.1;have t:=N.nb.2.1;have C:=N.nu.2.1;unfold fQ;generalize s:fP K=V;rw[aB,bg]
 show fN (i:=2) (P:=de) rfl x z ((aq (bc (ap (ap (ap (ap (ap ay (aX (i:=0) rfl m) #[1]) ay #[1]) (aX (i:=1) rfl t) #[1]) ay #[1]) (aX (i:=0) rfl m) #[1]) λc H=>bI [s!"alike",a,b,a] (by simp[catL]) (by simp) (by simp[f,h,g]) rfl<|Pk c #[1])
  (aq (bc ay λc H=>bI [s!"alike"] (by simp[catL]) (by simp) (by simp[f,h,g]) rfl<|Pk c #[1])
  (aq (bc ay λc H=>bI [s!"hint"] (by simp[catL]) (by simp) (by simp[f,h,g]) rfl<|Pk c #[1])
  (aq (bc (ap ay (aX (i:=0) rfl m) #[1]) λc H=>bI [s!"hint",a] (by simp[catL]) (by simp) (by simp[f,h,g]) rfl<|Pk c #[1])
  (aq (bc (ap ay (aX (i:=0) rfl m) #[1]) λc H=>bI [s!"wrong",a] (by simp[catL]) (by simp) (by simp[f,h,g]) rfl<|Pk c #[1])
  (aq (bc (ap ay (aX (i:=0) rfl m) #[1]) λc H=>bI [s!"solved",a] (by simp[catL]) (by simp) (by simp[f,h,g]) rfl<|Pk c #[1])
  bz))))))) (by rw[n];decide) λr B D w o A k1=>?_
 rw[aH];subst s;show sd (K:=K) N o (by rw[A,n]) k1 λp xs d y e l k=>q p xs d (w.trans y) e l k
def sf{a b:List Nat}(N:Nm3 a b u)(x:H p=↥xs)(n:xs.length=12)(z:∀ d,Same H d->∀ v∈xs,de v d)(q:∀(p:Addr) (xs:List V) (d:Hp),Same H d->d p=↥xs->xs.length=33->(∀ m,Same d m->∀ v∈xs,de v m)->Q (.ref p) d):
  fR K (eD9 Q) [some<|.str<|tx a,some<|.str<|tx b,↑p] H:=by
 have g:=N.na.free;have j:=N.nb.free;have h:=N.nu.free;have f:=N.na.2.1;have t:=N.nb.2.1;have C:=N.nu.2.1;unfold fR;generalize s:fQ K=V;rw[aB,bg]
 show fN (i:=2) (P:=de) rfl x z ((aq (bc (ap (ap ay (aX (i:=0) rfl f) #[1]) ay #[1]) λc H=>bI [s!"show",a,[]] (by simp[catL]) (by simp) (by simp[g,j,h]) rfl<|Pk c #[1])
  (aq (bc (ap ay (aX (i:=0) rfl f) #[1]) λc H=>bI [s!"show",[],a] (by simp[catL]) (by simp) (by simp[g,j,h]) rfl<|Pk c #[1])
  (aq (bc (ap ay (aX (i:=0) rfl f) #[1]) λc H=>bI [[],s!"show",a] (by simp[catL]) (by simp) (by simp[g,j,h]) rfl<|Pk c #[1])
  (aq (bc (ap (ap (ap ay (aX (i:=0) rfl f) #[1]) ay #[1]) (aX (i:=1) rfl t) #[1]) λc H=>bI [s!"show",a,b] (by simp[catL]) (by simp) (by simp[g,j,h]) rfl<|Pk c #[1])
  (aq (bc (ap ay (aX (i:=0) rfl f) #[1]) λc H=>bI [s!"Show",a] (by simp[catL]) (by simp) (by simp[g,j,h]) rfl<|Pk c #[1])
  (aq (bc (ap ay (aX (i:=0) rfl f) #[1]) λc H=>bI [s!"alike",a] (by simp[catL]) (by simp) (by simp[g,j,h]) rfl<|Pk c #[1])
  bz))))))) (by rw[n];decide) λr B D w o A k1=>?_
 rw[aH];subst s;show se (K:=K) N o (by rw[A,n]) k1 λp xs d y e l k=>q p xs d (w.trans y) e l k
def vE:R "'a 'b 'some" kq kr K:=by
 obtain⟨a,b,u,rfl,N,q⟩:=h;have f:=N.na.free;have g:=N.nb.free;have d:=N.nu.free;have j:=N.na.2.1;have w:=N.nb.2.1;have x:=N.nu.2.1;ac_nf;unfold kr;generalize v:fR K=V;rw[aB,bg]
 show Fa (P:=de) ((aq (Ig λH=>.inl<|.inl rfl)
  (aq (Ig λH=>.inl<|.inr<|.inl (_,rfl))
  (aq (Ig λH=>.inl<|.inr<|.inr<|.inl (_,rfl))
  (aq (JJ (ap ay (aX (i:=0) rfl j) #[1]) λp H e=>.inl<|.inr<|.inr<|.inr (p,_,rfl,.inl e))
  (aq (bq (aX (i:=0) rfl j) λ_ p H e=>.inl<|.inr<|.inr<|.inr (p,_,rfl,.inr e))
  (aq (bc ay λc H=>bI [[]] (by simp[catL]) (by simp) (by simp[f,g,d]) rfl<|Pk c #[1])
  (aq (bc ay λc H=>bI [[],[]] (by simp[catL]) (by simp) (by simp[f,g,d]) rfl<|Pk c #[1])
  (aq (bc ay λc H=>bI [s!"show"] (by simp[catL]) (by simp) (by simp[f,g,d]) rfl<|Pk c #[1])
  (aq (bc ay λc H=>bI [s!"drop"] (by simp[catL]) (by simp) (by simp[f,g,d]) rfl<|Pk c #[1])
  (aq (bc ay λc H=>bI [s!"puzzle"] (by simp[catL]) (by simp) (by simp[f,g,d]) rfl<|Pk c #[1])
  (aq (bc (ap ay (aX (i:=0) rfl j) #[1]) λc H=>bI [s!"puzzle",a] (by simp[catL]) (by simp) (by simp[f,g,d]) rfl<|Pk c #[1])
  (aq (bc (ap ay (aX (i:=0) rfl j) #[1]) λc H=>bI [s!"check",a] (by simp[catL]) (by simp) (by simp[f,g,d]) rfl<|Pk c #[1])
  bz))))))))))))) #[1] λr y z s m o k1=>?_
 rw[aH];subst v;show sf (K:=K) N m o k1 λp xs t n e l k=>q p xs t (s.trans n) e l k
def jQ:d:=#[3,∃ a b u:List Nat,vs=[.str<|tx a,.str<|tx u]/\Nm3 a b u/\∀(p:Addr) (xs:List V) (d:Hp),Same H d->d p=↥xs->xs.length=22->(∀ c,Same d c->∀ v∈xs,(du a b) v c)->Q (.ref p) d]
def fD:a:=#[":kcj2uabfg`0abfg`1abfg`2abfg`3abfg`4d",s!"puzzle  x",s!"puzzle abcdefghi x",s!"puzzle a1 x",s!"puzzle a- 1 1 1 |  | .",s!"check  x"]
def fE:a:=#[":hqcj2uacjcjbfg`01bfg`1acjcjbfg`21bfg`3acjcjbfg`41bfg`1abfg`5dl#2 }?e",s!"check ",s!" x",s!"hint ",s!" 1",s!"wrong ",s!"puzzle A 1 1 1 |  | ."]
def fF:a:=#[":hqcj2uacjbfg`01acjcjcjbfg`10bfg`21acjcjcjbfg`11bfg`20acjbfg`30acjcjbfg`41bfg`2dl#2 }[e",s!"least ",s!"alike ",[32],s!"alike  ",s!"check "]
def jR:a:=#[":hquacjbfg`01abfg`0abfg`1acjbfg`21abfg`3acjbfg`41acjbfg`51acjbfg`61dl#2 }]e",s!"show ",s!"show A",s!"drop ",s!"drop abcdefghi",s!"solve ",s!"book ",s!"needs "]
def qz{a b:List Nat}(N:Nm3 a b u)(s:H p=↥xs)(j:xs.length=17)(t:∀ d,Same H d->∀ v∈xs,(du a b) v d)(q:∀(p:Addr) (xs:List V) (d:Hp),Same H d->d p=↥xs->xs.length=22->(∀ e,Same d e->∀ v∈xs,(du a b) v e)->Q (.ref p) d):
  fD K (eD9 Q) [some<|.str<|tx a,some<|.str<|tx u,↑p] H:=by
 have g:=N.na.free;have h:=N.nb.free;have f:=N.nu.free;have y:=N.na.2.1;have w:=N.nb.2.1;have x:=N.nu.2.1;unfold fD;rw[cp]
 show fN (i:=2) (P:=(du a b)) rfl s t ((aq (bc ay λc H=>cO [s!"puzzle",[],[120]] (us:=[s!"puzzle",[],[120]]) (by simp[catL]) (by simp) (by simp[g,h,f]) rfl (.inl ([],_,rfl,by decide,by decide,by decide))<|Pk c #[1])
  (aq (bc ay λc H=>cO [s!"puzzle",s!"abcdefghi",[120]] (us:=[s!"puzzle",s!"abcdefghi",[120]]) (by simp[catL]) (by simp) (by simp[g,h,f]) rfl (.inl (s!"abcdefghi",_,rfl,by decide,by decide,by decide))<|Pk c #[1])
  (aq (bc ay λc H=>cO [s!"puzzle",s!"a1",[120]] (us:=[s!"puzzle",s!"a1",[120]]) (by simp[catL]) (by simp) (by simp[g,h,f]) rfl (.inl (s!"a1",_,rfl,by decide,by decide,by decide))<|Pk c #[1])
  (aq (bc ay λc H=>cO [s!"puzzle",s!"a-",[49],[49],[49],[124],[],[124],[46]] (us:=[s!"puzzle",s!"a-",s!"1 1 1 |  | ."]) (by simp[catL]) (by simp) (by simp[g,h,f]) rfl (.inl (s!"a-",_,rfl,by decide,by decide,by decide))<|Pk c #[1])
  (aq (bc ay λc H=>cO [s!"check",[],[120]] (us:=[s!"check",[],[120]]) (by simp[catL]) (by simp) (by simp[g,h,f]) rfl (.inr<|.inl (s!"check",[],_,rfl,by decide,nmNe N.na #[1],nmNe N.nb #[1]))<|Pk c #[1])
  bz)))))) (by rw[j];decide) λr l m o k n k1=>?_
 show q r l m o k (by rw[n,j]) k1
def qA{a b:List Nat}(N:Nm3 a b u)(w:H p=↥xs)(n:xs.length=13)(y:∀ c,Same H c->∀ v∈xs,(du a b) v c)(q:∀(p:Addr) (xs:List V) (c:Hp),Same H c->c p=↥xs->xs.length=22->(∀ f,Same c f->∀ v∈xs,(du a b) v f)->Q (.ref p) c):
  fE K (eD9 Q) [some<|.str<|tx a,some<|.str<|tx u,↑p] H:=by
 have g:=N.na.free;have j:=N.nb.free;have h:=N.nu.free;have B:=N.na.2.1;have C:=N.nb.2.1;have m:=N.nu.2.1;unfold fE;generalize s:fD K=V;rw[aB,bg]
 show fN (i:=2) (P:=(du a b)) rfl w y ((aq (bc (ap (ap ay (aX (i:=1) rfl m) #[1]) ay #[1]) λd H=>cO [s!"check",u,[120]] (us:=[s!"check",u,[120]]) (by simp[catL]) (by simp) (by simp[g,j,h]) rfl (.inr<|.inl (s!"check",_,_,rfl,by decide,N.au.symm,N.bu.symm))<|Pk d #[1])
  (aq (bc (ap (ap ay (aX (i:=1) rfl m) #[1]) ay #[1]) λd H=>cO [s!"hint",u,[49]] (us:=[s!"hint",u,[49]]) (by simp[catL]) (by simp) (by simp[g,j,h]) rfl (.inr<|.inl (s!"hint",_,_,rfl,by decide,N.au.symm,N.bu.symm))<|Pk d #[1])
  (aq (bc (ap (ap ay (aX (i:=1) rfl m) #[1]) ay #[1]) λd H=>cO [s!"wrong",u,[120]] (us:=[s!"wrong",u,[120]]) (by simp[catL]) (by simp) (by simp[g,j,h]) rfl (.inr<|.inl (s!"wrong",_,_,rfl,by decide,N.au.symm,N.bu.symm))<|Pk d #[1])
  (aq (bc ay λd H=>cO [s!"puzzle",[65],[49],[49],[49],[124],[],[124],[46]] (us:=[s!"puzzle",[65],s!"1 1 1 |  | ."]) (by simp[catL]) (by simp) (by simp[g,j,h]) rfl (.inl ([65],_,rfl,by decide,by decide,by decide))<|Pk d #[1])
  bz))))) (by rw[n];decide) λr A D t o z k1=>?_
 rw[aH];subst s;show qz (K:=K) N o (by rw[z,n]) k1 λp xs c x e l k=>q p xs c (t.trans x) e l k
def qB{a b:List Nat}(N:Nm3 a b u)(x:H p=↥xs)(o:xs.length=8)(z:∀ d,Same H d->∀ v∈xs,(du a b) v d)(q:∀(p:Addr) (xs:List V) (d:Hp),Same H d->d p=↥xs->xs.length=22->(∀ f,Same d f->∀ v∈xs,(du a b) v f)->Q (.ref p) d):
  fF K (eD9 Q) [some<|.str<|tx a,some<|.str<|tx u,↑p] H:=by
 have g:=N.na.free;have j:=N.nb.free;have h:=N.nu.free;have n:=N.na.2.1;have C:=N.nb.2.1;have m:=N.nu.2.1;unfold fF;generalize t:fE K=V;rw[aB,bg]
 show fN (i:=2) (P:=(du a b)) rfl x z ((aq (bc (ap ay (aX (i:=1) rfl m) #[1]) λc H=>cO [s!"least",u] (us:=[s!"least",u]) (by simp[catL]) (by simp) (by simp[g,j,h]) rfl (.inr<|.inl (s!"least",_,_,rfl,by decide,N.au.symm,N.bu.symm))<|Pk c #[1])
  (aq (bc (ap (ap (ap ay (aX (i:=0) rfl n) #[1]) ay #[1]) (aX (i:=1) rfl m) #[1]) λc H=>cO [s!"alike",a,u] (us:=[s!"alike",a,u]) (by simp[catL]) (by simp) (by simp[g,j,h]) rfl (.inr<|.inr (_,_,rfl,.inl rfl,N.au.symm,N.bu.symm))<|Pk c #[1])
  (aq (bc (ap (ap (ap ay (aX (i:=1) rfl m) #[1]) ay #[1]) (aX (i:=0) rfl n) #[1]) λc H=>cO [s!"alike",u,a] (us:=[s!"alike",u,a]) (by simp[catL]) (by simp) (by simp[g,j,h]) rfl (.inr<|.inl (s!"alike",_,_,rfl,by decide,N.au.symm,N.bu.symm))<|Pk c #[1])
  (aq (bc (ap ay (aX (i:=0) rfl n) #[1]) λc H=>cO [s!"alike",[],a] (us:=[s!"alike",[],a]) (by simp[catL]) (by simp) (by simp[g,j,h]) rfl (.inr<|.inl (s!"alike",[],_,rfl,by decide,nmNe N.na #[1],nmNe N.nb #[1]))<|Pk c #[1])
  (aq (bc (ap (ap ay (aX (i:=1) rfl m) #[1]) ay #[1]) λc H=>cO [s!"check",u,[]] (us:=[s!"check",u,[]]) (by simp[catL]) (by simp) (by simp[g,j,h]) rfl (.inr<|.inl (s!"check",_,_,rfl,by decide,N.au.symm,N.bu.symm))<|Pk c #[1])
  bz)))))) (by rw[o];decide) λr B D w s A k1=>?_
 rw[aH];subst t;show qA (K:=K) N s (by rw[A,o]) k1 λp xs d y e l k=>q p xs d (w.trans y) e l k
def ue:R "'a 'u 'some" jQ jR K:=by
 obtain⟨a,b,u,rfl,N,q⟩:=h;have f:=N.na.free;have g:=N.nb.free;have d:=N.nu.free;have z:=N.na.2.1;have w:=N.nb.2.1;have j:=N.nu.2.1;ac_nf;unfold jR;generalize v:fF K=V;rw[aB,bg]
 show Fa (P:=(du a b)) ((aq (bc (ap ay (aX (i:=1) rfl j) #[1]) λc H=>cO [s!"show",u] (us:=[s!"show",u]) (by simp[catL]) (by simp) (by simp[f,g,d]) rfl (.inr<|.inl (s!"show",_,_,rfl,by decide,N.au.symm,N.bu.symm))<|Pk c #[1])
  (aq (bc ay λc H=>cO [s!"show",[]] (us:=[s!"show",[]]) (by simp[catL]) (by simp) (by simp[f,g,d]) rfl (.inr<|.inl (s!"show",[],_,rfl,by decide,nmNe N.na #[1],nmNe N.nb #[1]))<|Pk c #[1])
  (aq (bc ay λc H=>cO [s!"show",[65]] (us:=[s!"show",[65]]) (by simp[catL]) (by simp) (by simp[f,g,d]) rfl (.inr<|.inl (s!"show",[65],_,rfl,by decide,nmNe N.na #[1],nmNe N.nb #[1]))<|Pk c #[1])
  (aq (bc (ap ay (aX (i:=1) rfl j) #[1]) λc H=>cO [s!"drop",u] (us:=[s!"drop",u]) (by simp[catL]) (by simp) (by simp[f,g,d]) rfl (.inr<|.inl (s!"drop",_,_,rfl,by decide,N.au.symm,N.bu.symm))<|Pk c #[1])
  (aq (bc ay λc H=>cO [s!"drop",s!"abcdefghi"] (us:=[s!"drop",s!"abcdefghi"]) (by simp[catL]) (by simp) (by simp[f,g,d]) rfl (.inr<|.inl (s!"drop",s!"abcdefghi",_,rfl,by decide,nmNe N.na #[1],nmNe N.nb #[1]))<|Pk c #[1])
  (aq (bc (ap ay (aX (i:=1) rfl j) #[1]) λc H=>cO [s!"solve",u] (us:=[s!"solve",u]) (by simp[catL]) (by simp) (by simp[f,g,d]) rfl (.inr<|.inl (s!"solve",_,_,rfl,by decide,N.au.symm,N.bu.symm))<|Pk c #[1])
  (aq (bc (ap ay (aX (i:=1) rfl j) #[1]) λc H=>cO [s!"book",u] (us:=[s!"book",u]) (by simp[catL]) (by simp) (by simp[f,g,d]) rfl (.inr<|.inl (s!"book",_,_,rfl,by decide,N.au.symm,N.bu.symm))<|Pk c #[1])
  (aq (bc (ap ay (aX (i:=1) rfl j) #[1]) λc H=>cO [s!"needs",u] (us:=[s!"needs",u]) (by simp[catL]) (by simp) (by simp[f,g,d]) rfl (.inr<|.inl (s!"needs",_,_,rfl,by decide,N.au.symm,N.bu.symm))<|Pk c #[1])
  bz))))))))) #[1] λr x y s m o k1=>?_
 rw[aH];subst v;show qB (K:=K) N m o k1 λp xs t n e l k=>q p xs t (s.trans n) e l k
def  BadPz(t:List Nat)(k:Nat):Prop:=∀(K:Frag) (c:TJ) (d:TL) (H:Hp) (Q:VK) (E:XK),d.ok .Puzzle=true->(∀ k,k≠.Rule->c.ok k=true)->bB K (kn75.getD k "") H E->bC K c d [.str<|tx t] H Q E
structure jS(t:List Nat)(ws:List (List Nat))(p1 p2:List Nat)(ls:List (List Nat)):Prop where
 n:t.length<=900
 s:Txt.split (tx t) (tx s!" | ")=[catL 32 ws,p1,p2].map tx
 L:LnOk ws
 P:KZ p1 ls
 a:p1.length<=900
 b:p2.length<=300
 c:ls.length<=100
def lnok{a:List (List Nat)}(d:a≠[])(l:a.length<=100)(h:(a.all λw=>decide (w.length<=400)&&w.all λc=>decide (c<128)&&!decide (c=32))=true):LnOk a:=by
 rw[PL]at h;show(d,l,λw b z=>?_,λw b=>(?_,λc e=>?_))
 . have:=h w b;simp only[P3,PL,PP]at this;have:=(this.2 32 z).2;simp at this
 . have:=h w b;simp only[P3,PP]at this;show this.1
 . have:=h w b;simp only[P3,PL,PP]at this;show(this.2 c e).1
variable{t:List Nat}
def  zu(a:List (List Nat))(n:t.length<=900)(s:Txt.split (tx t) (tx s!" | ")=a.map tx)(l:a.length<=900)(h:a.length≠3):BadPz t 2:=λK c d H Q E b e q=>(t,rfl,n,b,e,.inl (a,s,l,h,q))
variable{p1:List Nat}{ls:List (List Nat)}
def  DU{i:List (List Nat)}{j:List Nat}(P:jS t i p1 j ls)(f:flW i=none):BadPz t 2:=λK c d H Q E k l q=>(t,rfl,P.n,k,l,.inr (i,p1,j,ls,P.s,P.L,P.P,P.a,P.b,P.c,(λ_=>q),(λh w g e=>by rw[f]at e;cases e),(λh w g e=>by rw[f]at e;cases e)))
variable{g:Int}
def  zv{i:List (List Nat)}{j:List Nat}{h w:Int}(P:jS t i p1 j ls)(f:flW i=some (h ,w,g))(m:¬ FlOk h w g):BadPz t 3:=λK c d H Q E k l q=>(t,rfl,P.n,k,l,.inr (i,p1,j,ls,P.s,P.L,P.P,P.a,P.b,P.c,(λe=>by rw[f]at e;cases e),(λ_ _ _ _ _=>q),λo r p e F=>by rw[f]at e;cases e;show absurd F m))
def  n6 {j:List (List Nat)} {i:List Nat} {h w:Int} {k:Nat} (os:List (Option RR)) (P:jS t j p1 i ls) (f:flW j=some (h ,w,g)) (F:FlOk h w g) (L:∀ H,Lns H h w g (lsV ls) os)
  (x:(k=6/\12<ls.length)\/(k=4/\ls.length<=12/\none∈os)\/(k=5/\ls.length<=12/\none∉os/\¬ GoodL h.toNat w.toNat g i)):BadPz t k:=λK c d H Q E l o q=>(t,rfl,P.n,l,o,.inr (j,p1,i,ls,P.s,P.L,P.P,P.a,P.b,P.c,(λe=>by rw[f]at e;cases e),(λp u r e m=>by rw[f]at e;cases e;show absurd F m),λp u r e _=>by
  rw[f]at e;cases e;rcases x with ⟨rfl,x⟩ | ⟨rfl,x,y⟩ | ⟨rfl,x,y,z⟩
  . show(os,L,λ_=>q,λz=>by omega,λz=>by omega)
  . show(os,L,λz=>by omega,λ_ _=>q,λ_ rows e=>by rw[e]at y;simp at y)
  . show(os,L,λz=>by omega,λ_ z=>absurd z y,λ_ rows e=>(λ_=>q,λG=>absurd G z))))
def  DW {o:List (List Nat)} {m:List Nat} {h w:Int} {rows:List RR} (P:jS t o p1 m ls) (f:flW o=some (h ,w,g)) (F:FlOk h w g) (L:∀ H,Lns H h w g (lsV ls)<|rows.map some) (l:ls.length<=12) (G:GoodL h.toNat w.toNat g m)
  {K:Frag} {c:TJ} {d:TL} {H:Hp} {Q:VK} {E:XK} (p:d.ok .Puzzle=true) (u:∀ k,k≠.Rule->c.ok k=true) (q:∀ P L G j,Same H j->IsPz j c d P L G h w g rows (resL m)->Q (.ref P) j):bC K c d [.str<|tx t] H Q E:=
 (t,rfl,P.n,p,u,.inr (o,p1,m,ls,P.s,P.L,P.P,P.a,P.b,P.c,(λe=>by rw[f]at e;cases e),(λv A y e r=>by rw[f]at e;cases e;show absurd F r),λv A y e _=>by
  rw[f]at e;cases e;show(rows.map some,L,λz=>by omega,λ_ z=>by simp at z,λ_ i e=>(λn=>absurd G n,λ_ P L G j s x=>?_))
  have:rows=i:=by
   have:=congrArg (List.filterMap id) e
   simpa using this
  subst this;show q P L G j s x))
def  uf{h w:Int}:Lns H h w g (lsV []) []:=(rfl,λi v o h1 _=>by simp[lsV]at h1)
variable{l:List Nat}
def jb{h w:Int}{o:Option RR}{os:List (Option RR)}(x:LnO H h w g (.str<|tx l) o)(y:Lns H h w g (lsV ls) os):Lns H h w g (lsV (l::ls)) (o::os):=by
 show(by simpa [lsV] using y.len,λi v a h1 h2=>?_)
 cases i with
 | zero=>simp[lsV]at h1 h2;subst h1 h2;show x
 | succ i=>show y.at_ i v a (by simpa [lsV] using h1) (by simpa using h2)
def  DY{h w:Int}(a:List (List Nat))(e:l=catL 32 a)(L:LnOk a)(b:accR (h*w) g a=none):LnO H h w g (.str<|tx l) none:=.inr (a,by rw[e],L,b)
def  fv{h w:Int}(r:RR)(e:l=r.cod)(O:r.Ok h w g):LnO H h w g (.str<|tx l) (some r):=(by rw[e];rfl,O)
def  li{h w:Nat}(x:l.length+1≠h*(w+1)\/∃ i c,l[i]? =some c/\¬ (if i % (w+1)=w then c=47 else(c∈figs/\valc c<=g))):¬ GoodL h w g l:=λ⟨a,b⟩=>by
 rcases x with x | ⟨i,c,e,x⟩
 . show x a
 . show x (b i c e)
def  rwU:RR:=(.Unlike,0,0,[0,1],[0,1])
def  rwS:RR:=(.Sum,4,0,[2,3],[2,3])
def  rwJ:RR:=(.Joined,0,2,[],[0,1,2,3])
def  rwO:RR:=(.Unlike,0,0,[0],[0])
def  GH:rwU.Ok 2 2 3:=(by decide,by decide,by decide,by decide,by decide,(λ_=>(by decide,by decide,by decide,by decide,by decide),λz=>by cases z),by decide,by decide)
def  K8:rwS.Ok 2 2 3:=(by decide,by decide,by decide,by decide,by decide,(λ_=>(by decide,by decide,by decide,by decide,by decide),λz=>by cases z),by decide,by decide)
def  K9:rwJ.Ok 1 4 5:=(by decide,by decide,by decide,by decide,by decide,((λz=>by cases z),λ_=>(by decide,by decide)),by decide,by decide)
def  iL:rwO.Ok 1 1 1:=(by decide,by decide,by decide,by decide,by decide,(λ_=>(by decide,by decide,by decide,by decide,by decide),λz=>by cases z),by decide,by decide)
def  bp0:BadPz [] 2:=zu [[]] #[1] (by decide+kernel) #[1] #[1]
def  bp1:BadPz s!"2 2 3" 2:=zu [s!"2 2 3"] #[1] (by decide+kernel) #[1] #[1]
def  bp2:BadPz [120] 2:=zu [[120]] #[1] (by decide+kernel) #[1] #[1]
def  bp3:BadPz s!"2 2 |  | ./." 2:=DU ((by decide,by decide+kernel,lnok #[1] #[1] #[1],.inl (rfl,rfl),by decide,by decide,by decide):jS s!"2 2 |  | ./." [[50],[50]] [] s!"./." []) (by decide+kernel)
def  bp4:BadPz s!"2 02 3 |  | ../.." 2:=DU ((by decide,by decide+kernel,lnok #[1] #[1] #[1],.inl (rfl,rfl),by decide,by decide,by decide):jS s!"2 02 3 |  | ../.." [[50],s!"02",[51]] [] s!"../.." []) (by decide+kernel)
def  bp5:BadPz s!"0 2 3 |  | " 3:=zv (h:=0) (w:=2) (g:=3) ((by decide,by decide+kernel,lnok #[1] #[1] #[1],.inl (rfl,rfl),by decide,by decide,by decide):jS s!"0 2 3 |  | " [[48],[50],[51]] [] [] []) (by decide+kernel) (λF=>by have a:=F.h0;have b:=F.m;have c:=F.g1;revert a b c;decide)
def  bp6:BadPz s!"3 6 2 | x | y" 3:=zv (h:=3) (w:=6) (g:=2) ((by decide,by decide+kernel,lnok #[1] #[1] #[1],.inr (by decide,by decide,by decide+kernel,by decide+kernel),by decide,by decide,by decide):jS s!"3 6 2 | x | y" [[51],[54],[50]] [120] [121] [[120]]) (by decide+kernel) (λF=>by have a:=F.h0;have b:=F.m;have c:=F.g1;revert a b c;decide)
def  bp7:BadPz s!"2 2 7 |  | ../.." 3:=zv (h:=2) (w:=2) (g:=7) ((by decide,by decide+kernel,lnok #[1] #[1] #[1],.inl (rfl,rfl),by decide,by decide,by decide):jS s!"2 2 7 |  | ../.." [[50],[50],[55]] [] s!"../.." []) (by decide+kernel) (λF=>by have a:=F.h0;have b:=F.m;have c:=F.g1;revert a b c;decide)
def  bp8:BadPz s!"2 2 3 | sum 4 | x" 4:=n6 (h:=2) (w:=2) (g:=3) [none] ((by decide,by decide+kernel,lnok #[1] #[1] #[1],.inr (by decide,by decide,by decide+kernel,by decide+kernel),by decide,by decide,by decide):jS s!"2 2 3 | sum 4 | x" [[50],[50],[51]] s!"sum 4" [120] [s!"sum 4"]) (by decide+kernel) ((by decide,by decide,by decide,by decide,by decide,by decide,by decide)) (λH=>(jb (DY (h:=2) (w:=2) (g:=3) (l:=s!"sum 4") [s!"sum",[52]] #[1] (lnok #[1] #[1] #[1]) (by decide+kernel)) uf)) (.inr<|.inl (rfl,by decide,by simp))
def  bp9:BadPz s!"2 2 3 | unlike 0 0 | ../.." 4:=n6 (h:=2) (w:=2) (g:=3) [none] ((by decide,by decide+kernel,lnok #[1] #[1] #[1],.inr (by decide,by decide,by decide+kernel,by decide+kernel),by decide,by decide,by decide):jS s!"2 2 3 | unlike 0 0 | ../.." [[50],[50],[51]] s!"unlike 0 0" s!"../.." [s!"unlike 0 0"]) (by decide+kernel) ((by decide,by decide,by decide,by decide,by decide,by decide,by decide)) (λH=>(jb (DY (h:=2) (w:=2) (g:=3) (l:=s!"unlike 0 0") [s!"unlike",[48],[48]] #[1] (lnok #[1] #[1] #[1]) (by decide+kernel)) uf)) (.inr<|.inl (rfl,by decide,by simp))
def  L5:BadPz s!"2 2 3 |  | ../." 5:=n6 (h:=2) (w:=2) (g:=3) [] ((by decide,by decide+kernel,lnok #[1] #[1] #[1],.inl (rfl,rfl),by decide,by decide,by decide):jS s!"2 2 3 |  | ../." [[50],[50],[51]] [] s!"../." []) (by decide+kernel) ((by decide,by decide,by decide,by decide,by decide,by decide,by decide)) (λH=>uf) (.inr<|.inr (rfl,by decide,by simp,li<|.inl #[1]))
def  L6:BadPz s!"2 2 3 | unlike 0 1 | ../.4" 5:=n6 (h:=2) (w:=2) (g:=3) [some rwU] ((by decide,by decide+kernel,lnok #[1] #[1] #[1],.inr (by decide,by decide,by decide+kernel,by decide+kernel),by decide,by decide,by decide):jS s!"2 2 3 | unlike 0 1 | ../.4" [[50],[50],[51]] s!"unlike 0 1" s!"../.4" [s!"unlike 0 1"]) (by decide+kernel) ((by decide,by decide,by decide,by decide,by decide,by decide,by decide)) (λH=>(jb (fv rwU #[1] GH) uf)) (.inr<|.inr (rfl,by decide,by simp,li<|.inr (4,52,rfl,by decide)))
def  L7:BadPz s!"1 1 1 |  | " 5:=n6 (h:=1) (w:=1) (g:=1) [] ((by decide,by decide+kernel,lnok #[1] #[1] #[1],.inl (rfl,rfl),by decide,by decide,by decide):jS s!"1 1 1 |  | " [[49],[49],[49]] [] [] []) (by decide+kernel) ((by decide,by decide,by decide,by decide,by decide,by decide,by decide)) (λH=>uf) (.inr<|.inr (rfl,by decide,by simp,li<|.inl #[1]))
def  L8:BadPz s!"1 1 1 | unlike 0; unlike 0; unlike 0; unlike 0; unlike 0; unlike 0; unlike 0; unlike 0; unlike 0; unlike 0; unlike 0; unlike 0; unlike 0 | ." 6:=n6 (h:=1) (w:=1) (g:=1) [some rwO,some rwO,some rwO,some rwO,some rwO,some rwO,some rwO,some rwO,some rwO,some rwO,some rwO,some rwO,some rwO] ((by decide,by decide+kernel,lnok #[1] #[1] #[1],.inr (by decide,by decide,by decide+kernel,by decide+kernel),by decide,by decide,by decide):jS s!"1 1 1 | unlike 0; unlike 0; unlike 0; unlike 0; unlike 0; unlike 0; unlike 0; unlike 0; unlike 0; unlike 0; unlike 0; unlike 0; unlike 0 | ." [[49],[49],[49]] s!"unlike 0; unlike 0; unlike 0; unlike 0; unlike 0; unlike 0; unlike 0; unlike 0; unlike 0; unlike 0; unlike 0; unlike 0; unlike 0" [46] [s!"unlike 0",s!"unlike 0",s!"unlike 0",s!"unlike 0",s!"unlike 0",s!"unlike 0",s!"unlike 0",s!"unlike 0",s!"unlike 0",s!"unlike 0",s!"unlike 0",s!"unlike 0",s!"unlike 0"]) (by decide+kernel) ((by decide,by decide,by decide,by decide,by decide,by decide,by decide)) (λH=>(jb (fv rwO #[1] iL)<|jb (fv rwO #[1] iL)<|jb (fv rwO #[1] iL)<|jb (fv rwO #[1] iL)<|jb (fv rwO #[1] iL)<|jb (fv rwO #[1] iL)<|jb (fv rwO #[1] iL)<|jb (fv rwO #[1] iL)<|jb (fv rwO #[1] iL)<|jb (fv rwO #[1] iL)<|jb (fv rwO #[1] iL)<|jb (fv rwO #[1] iL)<|jb (fv rwO #[1] iL) uf)) (.inl (rfl,by decide))
def  tA75:List Nat:=s!"2 2 3 | unlike 0 1; sum 4 2 3 | ../.."
def  LP{c:TJ}(b:d.ok .Puzzle=true)(e:∀ k,k≠.Rule->c.ok k=true)(q:∀ P L G a,Same H a->IsPz a c d P L G 2 2 3 [rwU,rwS] [0,0,0,0]->Q (.ref P) a):bC K c d [.str<|tx tA75] H Q E:=
 DW (h:=2) (w:=2) (g:=3) (rows:=[rwU,rwS]) ((by decide,by decide+kernel,lnok #[1] #[1] #[1],.inr (by decide,by decide,by decide+kernel,by decide+kernel),by decide,by decide,by decide):jS s!"2 2 3 | unlike 0 1; sum 4 2 3 | ../.." [[50],[50],[51]] s!"unlike 0 1; sum 4 2 3" s!"../.." [s!"unlike 0 1",s!"sum 4 2 3"]) (by decide+kernel) ((by decide,by decide,by decide,by decide,by decide,by decide,by decide)) (λH=>(jb (fv rwU #[1] GH)<|jb (fv rwS #[1] K8) uf)) #[1] (lV (rows:=[s!"..",s!".."]) #[1] (by decide,by decide)) b e q
def  tB75:List Nat:=s!"1 4 5 | joined 2 | .2.."
def  LQ{c:TJ}(b:d.ok .Puzzle=true)(e:∀ k,k≠.Rule->c.ok k=true)(q:∀ P L G a,Same H a->IsPz a c d P L G 1 4 5 [rwJ] [0,2,0,0]->Q (.ref P) a):bC K c d [.str<|tx tB75] H Q E:=
 DW (h:=1) (w:=4) (g:=5) (rows:=[rwJ]) ((by decide,by decide+kernel,lnok #[1] #[1] #[1],.inr (by decide,by decide,by decide+kernel,by decide+kernel),by decide,by decide,by decide):jS s!"1 4 5 | joined 2 | .2.." [[49],[52],[53]] s!"joined 2" s!".2.." [s!"joined 2"]) (by decide+kernel) ((by decide,by decide,by decide,by decide,by decide,by decide,by decide)) (λH=>(jb (fv rwJ #[1] K9) uf)) #[1] (lV (rows:=[s!".2.."]) #[1] (by decide,by decide)) b e q
def JK:pzT 2 2 3 [rwU,rwS] [0,0,0,0]=tA75:=by decide+kernel
def JL:pzT 1 4 5 [rwJ] [0,2,0,0]=tB75:=by decide+kernel
variable{m:List Nat}
def in_tx:(!(Builtin.Str.occurrences (tx l) (tx m) 0 (tx l).length 1).isEmpty)=true↔m <:+:l:=by
 rw[StrLaws.found_iff];constructor
 . rintro⟨i,h1,h2⟩;have:=at_iff.mp (show StrLaws.At (tx l) (tx m) (tx l).length i from(h1,h2))
   show(l.take i,l.drop<|i+m.length,by
    have e:l.drop i=m++l.drop (i+m.length):=by
     rw[← this.2]
     conv=>lhs;rw[← Rs m.length (l.drop i)]
     rw[Ri,this.2]
    rw[Qj,← e,Rs])
 . rintro⟨s,t,rfl⟩;have:=at_iff (x:=s++m++t) (s:=m) (k:=s.length) |>.mpr (by simp,by rw[Qj,Q4,ST]);show(s.length,this.1,this.2)
def Fb{x y:List Nat}{c:Nat}(f:c∉m)(g:m≠[])(h:m <:+:x++c::y):m <:+:x\/m <:+:y:=by
 obtain⟨s,t,e⟩:=h;rw[Qj]at e;rcases S0.mp e with ⟨a,h1,h2⟩ | ⟨a,h1,h2⟩
 .
   rcases S0.mp h2 with ⟨b,h3,h4⟩ | ⟨b,h3,h4⟩
   . show .inl (s,b,by rw[h1,h3,Qj])
   . cases b with
     | nil=>show .inl (s,[],by rw[QI,h1];rw[QI]at h3;rw[h3])
     | cons d b=>
      rw[RB]at h4;injection h4 with h5 h6;show absurd (by rw[h3,← h5];simp) f
 . cases a with
   | nil=>
    rw[QX]at h2
    cases m with
    | nil=>show absurd rfl g
    | cons d m=>
     rw[RB]at h2;injection h2 with h5 h6;show absurd (by rw[h5];simp) f
   | cons d a=>
    rw[RB]at h2;injection h2 with h5 h6;show .inr (a,t,by rw[Qj];show h6.symm)
def Al{m:List Nat}(c:32∉m)(a:m≠[]):∀{b:List (List Nat)},m <:+:catL 32 b->∃ w∈b,m <:+:w
 | [],h=>by
  have:m=[]:=by
   have:=h.length_le
   simpa [catL] using this
  show absurd this a
 | [x],h=>(x,by simp,h)
 | x::y::r,h=>by
  rw[jL (by simp)]at h;rcases Fb c a h with h | h
  . show(x,by simp,h)
  . obtain⟨w,d,k⟩:=Al c a h;show(w,Pm _ d,k)
def  inS(s:List Nat):Bool:=!(Builtin.Str.occurrences (tx s) (tx supW) 0 (tx s).length 1).isEmpty
def GI{a:List Nat}{b:List (List Nat)}(d:¬ supW <:+:a)(h:∀ w∈b,w=a\/w.length<7):inS (catL 32 b)=false:=by
 cases e:inS (catL 32 b) with
 | false=>rfl
 | true=>
  obtain⟨w,c,k⟩:=Al #[1] #[1] (in_tx.mp e);rcases h w c with rfl | h
  . show absurd k d
  . have:=k.length_le;have:(7:Nat)<=w.length:=this;lia
def  JM(x y:List Nat)(e:s=x++supW++y):inS s=true:=in_tx.mpr (x,y,e.symm)
abbrev rowsA:List RR:=[rwU,rwS]
abbrev clA:∅:=[0,0,0,0]
variable{D:Addr->Prop}
def DZ{x:Th7}(h:IsT n D H p [x]):∃ r,H p=some (.lst [.ref r])/\IsJ n (λb=>D b/\b≠p) H r x:=by
 obtain⟨_,a,e,l,k⟩:=h
 obtain⟨r,rfl⟩:∃ r,a=[r]:=by
  match a,l with
  | [r],_=>show(r,rfl)
 show(r,e,k 0 r x rfl rfl)
def JN{x:Th7}(h:IsB (n+1) D H p [x]):∃ r,H p=some (.lst [.ref r])/\IsI D (IsB n D H) H r x:=by
 obtain⟨_,a,e,l,k⟩:=h
 obtain⟨r,rfl⟩:∃ r,a=[r]:=by
  match a,l with
  | [r],_=>show(r,rfl)
 show(r,e,k 0 r x rfl rfl)
def  sg(t:List Nat)(k:Nat)(xs:∅):Prop:=TxtB t/\((inM 16 t=none/\k=2/\xs=[])\/(k=8/\∃ l a,inM 16 t=some l/\xs=0::a/\∀(c:TJ) (d:TL) (P L G:Addr) (H:Hp),IsPz H c d P L G 2 2 3 rowsA clA->∀(U:Addr) (D:Addr->Prop),IsT 15 D H U l->CD H c d P L G U 2 2 3 rowsA clA a))
def  cluC:List Nat:=s!"clue"
def  onlC:List Nat:=s!"only"
def  l1B:List Th7:=[.pl cluC 0 0 1 []]
def  l2B:List Th7:=[.pl onlC 0 0 2 [1]]
def  l3B:List Th7:=[.su 0 0 1 [.pl cluC 0 1 1 []]]
def  LR:OkB 16 l1B:=(by decide,λx a=>by rw[PJ.mp a];show(by decide,by decide,by decide,by decide,by decide,by decide))
def  LS:OkB 16 l2B:=(by decide,λx a=>by rw[PJ.mp a];show(by decide,by decide,by decide,by decide,by decide,by decide))
def  LT:OkB 16 l3B:=(by decide,λx b=>by rw[PJ.mp b];show(by decide,by decide,by decide,(by decide,λy a=>by rw[PJ.mp a];show(by decide,by decide,by decide,by decide,by decide,by decide))))
def txtB(h:(decide (t.length<=800)&&(t.all λc=>decide<|c<128)&&(((pcsOf t).foldl tt9 ([] ,[],0)).1.all λg=>decide<|g.length<=400))=true):TxtB t:=by
 simp only[P3,PP,PL]at h;show(h.1.1,h.1.2,h.2)
def  Bl(b:TxtB t)(h:(inM 16 t).isNone=true):sg t 2 []:=(b,.inl (SX.mp h,rfl,rfl))
def Ir:(0:Int)∉j6 2 2 3:=by decide
def Iu {c:TJ} {P L G U:Addr} {t:TK} {r z s:Nat} (e:IsPz H c d P L G 2 2 3 rowsA clA) (h:IsT 15 D H U [.pl (tkC t) r z s m]) (j:t=.clue\/t=.only) (g:m.length<=100)
  (i:(i4 2 2 3 (z:Int) (s:Int)&&stB ((j6 2 2 3).getD ((z:Nat):Int).toNat 0) (s:Int))=true) (f:oG 2 2 3 rowsA clA (j6 2 2 3) t (r:Int) (z:Int) (s:Int) (m.map λ(k:Nat)=>(k:Int))=false):CD H c d P L G U 2 2 3 rowsA clA []:=by
 obtain⟨T,e1,_,q,_,e2,b⟩:=DZ h;have b:H q=↥(natV m):=b;show((T,q,_,_,_,_,e1,e2,Ir,i,λN n a l=>.inl (rfl,q,t,r,z,s,m.map λ(k:Nat)=>(k:Int),(e.same a,(a _ _ e2,?_,by rw[Pj];show g),l,by decide),j,f)),by decide);rw[P8];show a _ _ b
def LU{c:TJ}{P L G U:Addr}(g:IsPz H c d P L G 2 2 3 rowsA clA)(h:IsT 15 D H U l3B):CD H c d P L G U 2 2 3 rowsA clA [0]:=by
 obtain⟨T,e1,_,q,_,e2,m⟩:=DZ h;obtain⟨i,k,_,f,_,l,e⟩:=JN (n:=14) (D:=λb=>D b/\b≠U) (H:=H) (p:=q) (x:=.pl cluC 0 1 1 []) m;have e:H f=some (.lst []):=e;show((T,q,_,_,_,_,e1,e2,Ir,by decide,λN o a j=>.inr (rfl,by decide,q,i,f,.clue,0,1,0,1,1,[],g.same a,j,by decide,a _ _ e2,(a _ _ k,(a _ _ l,a _ _ e,by decide),.inl rfl),by decide,by decide,by decide,by decide+kernel)),by decide)
def  ck1:sg s!"clue 0 0 1" 8 [0]:=(txtB (by decide+kernel),.inr (rfl,l1B,[],(show txB 16 l1B=s!"clue 0 0 1" by decide+kernel) ▸ xF LR,rfl,λc d P L G H a U D h=>Iu (t:=.clue) (r:=0) (z:=0) (s:=1) (m:=[]) a h (.inl rfl) #[1] #[1] (by decide+kernel)))
def  ck2:sg s!"only 0 0 2 1" 8 [0]:=(txtB (by decide+kernel),.inr (rfl,l2B,[],(show txB 16 l2B=s!"only 0 0 2 1" by decide+kernel) ▸ xF LS,rfl,λc d P L G H a U D h=>Iu (t:=.only) (r:=0) (z:=0) (s:=2) (m:=[1]) a h (.inr rfl) #[1] #[1] (by decide+kernel)))
def  ck3:sg s!"suppose 0 0 1 (clue 0 1 1)" 8 [0,0]:=(txtB (by decide+kernel),.inr (rfl,l3B,[0],(show txB 16 l3B=s!"suppose 0 0 1 (clue 0 1 1)" by decide+kernel) ▸ xF LT,rfl,λc d P L G H a U D h=>LU a h))
def  ckx:sg [120] 2 []:=Bl (txtB (by decide+kernel)) (by decide+kernel)
def  cks:sg [32] 2 []:=Bl (txtB (by decide+kernel)) (by decide+kernel)
def  ckc:sg s!"clue 0 0" 2 []:=Bl (txtB (by decide+kernel)) (by decide+kernel)
def  cku:sg s!"suppose 0 0 1" 2 []:=Bl (txtB (by decide+kernel)) (by decide+kernel)
def  TxN(a b u:List Nat)(us:List (List Nat))(k:Nat)(xs:∅):Prop:=
 (∃ w t,us=[puzC,w,t]/\(w=a\/w=u)/\BadPz t k/\k<8/\xs=[])\/(∃ t,us=[chkC,a,t]/\sg t k xs)\/(∃ c t,us=[c,a,t]/\c∈[hinC,wroC]/\t.length<=300/\¬ GoodL 2 2 3 t/\k=5/\xs=[])\/((us=[aliC,a,b]\/us=[aliC,b,a])/\k=7/\xs=[])
def  knC:List (List Nat):=[s!"NoRow",s!"NoName",s!"NoText",s!"NoFloor",s!"NoRule",s!"NoFilling",s!"NoPuzzle",s!"TooMany",s!"BadThought"]
def  aR(a b u:List Nat)(v:V)(H:Hp):Prop:=∃(T:Addr) (k:Nat) (c d:List (List Nat)) (xs:∅),v=.ref T/\k<9/\H T=some (.tup [.str<|tx<|knC.getD k [],.str<|tx<|catL 32 c])/\RwOk c/\wrdW c=some d/\TxN a b u d k xs/\(k<8->xs=[])/\(k=8->xs=List.replicate (1+(if inS (catL 32 c)=true then 1 else 0)) 0)
def  bJ(k:Nat)(c us:List (List Nat)){a b u s:List Nat}{xs:∅}{p:Addr}{H:Hp}(h:H p=some (.tup [.str<|tx<|knC.getD k [],.str<|tx s]))(e:s=catL 32 c)(l:k<9)(i:c≠[])(d:∀ w∈c,32∉w)(f:wrdW c=some us)(t:TxN a b u us k xs)(j:k<8->xs=[])(g:k=8->xs=List.replicate (1+(if inS (catL 32 c)=true then 1 else 0)) 0)(n:s.length<=800):aR a b u (.ref p) H:=(p,k,c,us,xs,rfl,l,by rw[← e];show h,TF i d (by rw[← e];show n),f,t,j,g)
def La:Ev (tBM K "str" iD (tC<|.str<|tx s!"; ") (tCons (tOp cRepL (tLst<|tCons (tC<|.str<|tx s!"unlike 0") tNil)<|tC<|.int 13) tNil)) σ s!"unlike 0; unlike 0; unlike 0; unlike 0; unlike 0; unlike 0; unlike 0; unlike 0; unlike 0; unlike 0; unlike 0; unlike 0; unlike 0" 128:=by
 show(by decide,λH Q q=>?_);exists(dg,lnR rfl,λp c=>?_);have e:Same H (upd H p<|.lst [V.str<|tx s!"unlike 0"]):=(Pr H).laid c;show xk ak #[1] #[1] #[1] λr d=>?_;have b:∀ a,(upd a r<|.lst<|(List.replicate (13:Int).toNat [V.str<|tx s!"unlike 0"]).flatten) r=↥((List.replicate 13<|tx s!"unlike 0").map V.str):=λa=>ak;show qr (b _) (by decide+kernel) ?_;rw[show Txt.join (tx s!"; ") (List.replicate 13<|tx s!"unlike 0")=tx s!"unlike 0; unlike 0; unlike 0; unlike 0; unlike 0; unlike 0; unlike 0; unlike 0; unlike 0; unlike 0; unlike 0; unlike 0; unlike 0" from by decide+kernel];show q _ (e.laid d)
def l8:d:=#[3,∃ a b u:List Nat,vs=[.str<|tx a,.str<|tx b,.str<|tx u]/\Nm3 a b u/\∀(p:Addr) (xs:List V) (d:Hp),Same H d->d p=↥xs->xs.length=28->(∀ c,Same d c->∀ v∈xs,(aR a b u) v c)->Q (.ref p) d]
def gs:a:=#[":kcj3uaAabfg`0acjcjbfg`10bfg`2dd",s!"NoFilling",s!"hint ",s!" .. /.."]
def gt:a:=#[":hqcj3uaAabfg`0acjcjcjbfg`10bfg`21daAabfg`0acjcjcjbfg`11bfg`20ddl#3 }^e",s!"TooMany",s!"alike ",[32]]
def gu:a:=#[":hqcj3uaAabfg`0acjcjbfg`10bfg`2daAabfg`0acjcjbfg`10bfg`3ddl#3 _ae",s!"NoFilling",s!"wrong ",s!" x",s!" ../../.."]
def gw:a:=#[":hqcj3uaAabfg`0acjcjbfg`10bfg`2daAabfg`0acjcjbfg`10bfg`3ddl#3 _be",s!"NoFilling",s!"hint ",[32],s!" ../.4"]
def gy:a:=#[":hqcj3uaAabfg`0acjcjbfg`10bfg`2ddl#3 _ce",s!"BadThought",s!"check ",s!" suppose 0 0 1 (clue 0 1 1)"]
def gz:a:=#[":hqcj3uaAabfg`0acjcjbfg`10bfg`2ddl#3 _de",s!"BadThought",s!"check ",s!" only 0 0 2 1"]
def gA:a:=#[":hqcj3uaAabfg`0acjcjbfg`10bfg`2daAabfg`3acjcjbfg`10bfg`4ddl#3 _ee",s!"NoText",s!"check ",s!" suppose 0 0 1",s!"BadThought",s!" clue 0 0 1"]
def gB:a:=#[":hqcj3uaAabfg`0acjcjbfg`10bfg`2ddl#3 _fe",s!"NoText",s!"check ",s!"  "]
def gW:a:=#[":hqcj3uaAabfg`0acjcjbfg`10bfg`2daAabfg`0acjcjbfg`10bfg`3ddl#3 _ge",s!"NoText",s!"check ",s!" x",s!" clue 0 0"]
def gX:a:=#[":hqcj3uaAabfg`0acjcjcjcjbfg`12bfg`2CeD~pbfg`3ac~Duabfg`4dbi#13 dbfg`5ddl#3 _he",s!"NoPuzzle",s!"puzzle ",s!" 1 1 1 | ",s!"; ",s!"unlike 0",s!" | ."]
def gY:a:=#[":hqcj3uaAabfg`0acjcjbfg`12bfg`2ddl#3 _ie",s!"NoFilling",s!"puzzle ",s!" 1 1 1 |  | "]
def gZ:a:=#[":hqcj3uaAabfg`0acjcjbfg`10bfg`2ddl#3 _je",s!"NoFilling",s!"puzzle ",s!" 2 2 3 | unlike 0 1 | ../.4"]
def g7:a:=#[":hqcj3uaAabfg`0acjcjbfg`12bfg`2ddl#3 _ke",s!"NoFilling",s!"puzzle ",s!" 2 2 3 |  | ../."]
def g8:a:=#[":hqcj3uaAabfg`0acjcjbfg`12bfg`2ddl#3 _le",s!"NoRule",s!"puzzle ",s!" 2 2 3 | unlike 0 0 | ../.."]
def g9:a:=#[":hqcj3uaAabfg`0acjcjbfg`12bfg`2daAabfg`3acjcjbfg`10bfg`4ddl#3 _me",s!"NoFloor",s!"puzzle ",s!" 2 2 7 |  | ../..",s!"NoRule",s!" 2 2 3 | sum 4 | x"]
def hJ:a:=#[":hqcj3uaAabfg`0acjcjbfg`12bfg`2daAabfg`0acjcjbfg`12bfg`3ddl#3 _ne",s!"NoFloor",s!"puzzle ",s!" 0 2 3 |  | ",s!" 3 6 2 | x | y"]
def hX:a:=#[":hqcj3uaAabfg`0acjcjbfg`12bfg`2daAabfg`0acjcjbfg`12bfg`3ddl#3 _oe",s!"NoText",s!"puzzle ",s!" 2 2 |  | ./.",s!" 2 02 3 |  | ../.."]
def l9:a:=#[":hquaAabfg`0acjcjbfg`12bfg`2daAabfg`0acjcjbfg`12bfg`3daAabfg`0acjcjbfg`10bfg`4ddl#3 _pe",s!"NoText",s!"puzzle ",[32],s!" 2 2 3",s!" x"]
def sQ{a b:List Nat}(N:Nm3 a b u)(s:H p=↥xs)(f:xs.length=27)(t:∀ c,Same H c->∀ v∈xs,(aR a b u) v c)(q:∀(p:Addr) (xs:List V) (c:Hp),Same H c->c p=↥xs->xs.length=28->(∀ d,Same c d->∀ v∈xs,(aR a b u) v d)->Q (.ref p) c):
  gs K (eD9 Q) [some<|.str<|tx a,some<|.str<|tx b,some<|.str<|tx u,↑p] H:=by
 have m:=N.na.free;have w:=N.nb.free;have l:=N.nu.free;have x:=N.na.2.1;have y:=N.nb.2.1;have A:=N.nu.2.1;unfold gs;rw[cp]
 show fN (i:=3) (P:=(aR a b u)) rfl s t ((aq (bq (r:=s!"NoFilling") (ap (ap ay (aX (i:=0) rfl x) #[1]) ay #[1]) λk p H e=>bJ 5 [s!"hint",a,s!"..",s!"/.."] [s!"hint",a,s!".. /.."] e (by simp[catL]) #[1] (by simp) (by simp[m,w,l]) rfl (.inr<|.inr<|.inl (_,_,rfl,by decide,by decide,li<|.inl #[1],rfl,rfl)) (λ_=>rfl) (λz=>by cases z) (Pk k #[1]))
  bz)) (by rw[f];decide) λr h j o g n k1=>?_
 show q r h j o g (by rw[n,f]) k1
def sR{a b:List Nat}(N:Nm3 a b u)(x:H p=↥xs)(o:xs.length=25)(A:∀ c,Same H c->∀ v∈xs,(aR a b u) v c)(q:∀(p:Addr) (xs:List V) (c:Hp),Same H c->c p=↥xs->xs.length=28->(∀ d,Same c d->∀ v∈xs,(aR a b u) v d)->Q (.ref p) c):
  gt K (eD9 Q) [some<|.str<|tx a,some<|.str<|tx b,some<|.str<|tx u,↑p] H:=by
 have j:=N.na.free;have n:=N.nb.free;have m:=N.nu.free;have g:=N.na.2.1;have h:=N.nb.2.1;have D:=N.nu.2.1;unfold gt;generalize t:gs K=V;rw[aB,bg]
 show fN (i:=3) (P:=(aR a b u)) rfl x A ((aq (bq (r:=s!"TooMany") (ap (ap (ap ay (aX (i:=0) rfl g) #[1]) ay #[1]) (aX (i:=1) rfl h) #[1]) λf p H e=>bJ 7 [s!"alike",a,b] [s!"alike",a,b] e (by simp[catL]) #[1] (by simp) (by simp[j,n,m]) rfl (.inr<|.inr<|.inr (.inl rfl,rfl,rfl)) (λ_=>rfl) (λz=>by cases z) (Pk f #[1]))
  (aq (bq (r:=s!"TooMany") (ap (ap (ap ay (aX (i:=1) rfl h) #[1]) ay #[1]) (aX (i:=0) rfl g) #[1]) λf p H e=>bJ 7 [s!"alike",b,a] [s!"alike",b,a] e (by simp[catL]) #[1] (by simp) (by simp[j,n,m]) rfl (.inr<|.inr<|.inr (.inr rfl,rfl,rfl)) (λ_=>rfl) (λz=>by cases z) (Pk f #[1]))
  bz))) (by rw[o];decide) λr C E w s B k1=>?_
 rw[aH];subst t;show sQ (K:=K) N s (by rw[B,o]) k1 λp xs c y e l k=>q p xs c (w.trans y) e l k
def sS{a b:List Nat}(N:Nm3 a b u)(w:H p=↥xs)(n:xs.length=23)(y:∀ c,Same H c->∀ v∈xs,(aR a b u) v c)(q:∀(p:Addr) (xs:List V) (c:Hp),Same H c->c p=↥xs->xs.length=28->(∀ d,Same c d->∀ v∈xs,(aR a b u) v d)->Q (.ref p) c):
  gu K (eD9 Q) [some<|.str<|tx a,some<|.str<|tx b,some<|.str<|tx u,↑p] H:=by
 have h:=N.na.free;have m:=N.nb.free;have j:=N.nu.free;have g:=N.na.2.1;have C:=N.nb.2.1;have D:=N.nu.2.1;unfold gu;generalize s:gt K=V;rw[aB,bg]
 show fN (i:=3) (P:=(aR a b u)) rfl w y ((aq (bq (r:=s!"NoFilling") (ap (ap ay (aX (i:=0) rfl g) #[1]) ay #[1]) λf p H e=>bJ 5 [s!"wrong",a,[120]] [s!"wrong",a,[120]] e (by simp[catL]) #[1] (by simp) (by simp[h,m,j]) rfl (.inr<|.inr<|.inl (_,_,rfl,by decide,by decide,li<|.inl #[1],rfl,rfl)) (λ_=>rfl) (λz=>by cases z) (Pk f #[1]))
  (aq (bq (r:=s!"NoFilling") (ap (ap ay (aX (i:=0) rfl g) #[1]) ay #[1]) λf p H e=>bJ 5 [s!"wrong",a,s!"../../.."] [s!"wrong",a,s!"../../.."] e (by simp[catL]) #[1] (by simp) (by simp[h,m,j]) rfl (.inr<|.inr<|.inl (_,_,rfl,by decide,by decide,li<|.inl #[1],rfl,rfl)) (λ_=>rfl) (λz=>by cases z) (Pk f #[1]))
  bz))) (by rw[n];decide) λr B E t o A k1=>?_
 rw[aH];subst s;show sR (K:=K) N o (by rw[A,n]) k1 λp xs c x e l k=>q p xs c (t.trans x) e l k
def sU{a b:List Nat}(N:Nm3 a b u)(w:H p=↥xs)(n:xs.length=21)(y:∀ c,Same H c->∀ v∈xs,(aR a b u) v c)(q:∀(p:Addr) (xs:List V) (c:Hp),Same H c->c p=↥xs->xs.length=28->(∀ d,Same c d->∀ v∈xs,(aR a b u) v d)->Q (.ref p) c):
  gw K (eD9 Q) [some<|.str<|tx a,some<|.str<|tx b,some<|.str<|tx u,↑p] H:=by
 have h:=N.na.free;have m:=N.nb.free;have j:=N.nu.free;have g:=N.na.2.1;have C:=N.nb.2.1;have D:=N.nu.2.1;unfold gw;generalize s:gu K=V;rw[aB,bg]
 show fN (i:=3) (P:=(aR a b u)) rfl w y ((aq (bq (r:=s!"NoFilling") (ap (ap ay (aX (i:=0) rfl g) #[1]) ay #[1]) λf p H e=>bJ 5 [s!"hint",a,[]] [s!"hint",a,[]] e (by simp[catL]) #[1] (by simp) (by simp[h,m,j]) rfl (.inr<|.inr<|.inl (_,_,rfl,by decide,by decide,li<|.inl #[1],rfl,rfl)) (λ_=>rfl) (λz=>by cases z) (Pk f #[1]))
  (aq (bq (r:=s!"NoFilling") (ap (ap ay (aX (i:=0) rfl g) #[1]) ay #[1]) λf p H e=>bJ 5 [s!"hint",a,s!"../.4"] [s!"hint",a,s!"../.4"] e (by simp[catL]) #[1] (by simp) (by simp[h,m,j]) rfl (.inr<|.inr<|.inl (_,_,rfl,by decide,by decide,li (.inr (4,52,rfl,by decide)),rfl,rfl)) (λ_=>rfl) (λz=>by cases z) (Pk f #[1]))
  bz))) (by rw[n];decide) λr B E t o A k1=>?_
 rw[aH];subst s;show sS (K:=K) N o (by rw[A,n]) k1 λp xs c x e l k=>q p xs c (t.trans x) e l k
def sV{a b:List Nat}(N:Nm3 a b u)(s:H p=↥xs)(f:xs.length=20)(x:∀ c,Same H c->∀ v∈xs,(aR a b u) v c)(q:∀(p:Addr) (xs:List V) (c:Hp),Same H c->c p=↥xs->xs.length=28->(∀ d,Same c d->∀ v∈xs,(aR a b u) v d)->Q (.ref p) c):
  gy K (eD9 Q) [some<|.str<|tx a,some<|.str<|tx b,some<|.str<|tx u,↑p] H:=by
 have n:=N.na.free;have y:=N.nb.free;have w:=N.nu.free;have h:=N.na.2.1;have C:=N.nb.2.1;have D:=N.nu.2.1;unfold gy;generalize j:gw K=V;rw[aB,bg]
 show fN (i:=3) (P:=(aR a b u)) rfl s x ((aq (bq (r:=s!"BadThought") (ap (ap ay (aX (i:=0) rfl h) #[1]) ay #[1]) λm p H e=>bJ 8 [s!"check",a,s!"suppose",[48],[48],[49],s!"(clue",[48],[49],s!"1)"] [s!"check",a,s!"suppose 0 0 1 (clue 0 1 1)"] e (by simp[catL]) #[1] (by simp) (by simp[n,y,w]) rfl (.inr<|.inl (_,rfl,ck3)) (λz=>by cases QM _ z) (λ_=>by rw[JM (s!"check "++a++[32]) s!" 0 0 1 (clue 0 1 1)" (by simp[catL,supW])];rfl) (Pk m #[1]))
  bz)) (by rw[f];decide) λr B E o g A k1=>?_
 rw[aH];subst j;show sU (K:=K) N g (by rw[A,f]) k1 λp xs c t e l k=>q p xs c (o.trans t) e l k
def sW{a b:List Nat}(N:Nm3 a b u)(s:H p=↥xs)(f:xs.length=19)(x:∀ c,Same H c->∀ v∈xs,(aR a b u) v c)(q:∀(p:Addr) (xs:List V) (c:Hp),Same H c->c p=↥xs->xs.length=28->(∀ d,Same c d->∀ v∈xs,(aR a b u) v d)->Q (.ref p) c):
  gz K (eD9 Q) [some<|.str<|tx a,some<|.str<|tx b,some<|.str<|tx u,↑p] H:=by
 have n:=N.na.free;have y:=N.nb.free;have w:=N.nu.free;have h:=N.na.2.1;have C:=N.nb.2.1;have D:=N.nu.2.1;unfold gz;generalize j:gy K=V;rw[aB,bg]
 show fN (i:=3) (P:=(aR a b u)) rfl s x ((aq (bq (r:=s!"BadThought") (ap (ap ay (aX (i:=0) rfl h) #[1]) ay #[1]) λm p H e=>bJ 8 [s!"check",a,s!"only",[48],[48],[50],[49]] [s!"check",a,s!"only 0 0 2 1"] e (by simp[catL]) #[1] (by simp) (by simp[n,y,w]) rfl (.inr<|.inl (_,rfl,ck2)) (λz=>by cases QM _ z) (λ_=>by rw[GI N.ns (by simp)];rfl) (Pk m #[1]))
  bz)) (by rw[f];decide) λr B E o g A k1=>?_
 rw[aH];subst j;show sV (K:=K) N g (by rw[A,f]) k1 λp xs c t e l k=>q p xs c (o.trans t) e l k
def sX{a b:List Nat}(N:Nm3 a b u)(w:H p=↥xs)(n:xs.length=17)(y:∀ c,Same H c->∀ v∈xs,(aR a b u) v c)(q:∀(p:Addr) (xs:List V) (c:Hp),Same H c->c p=↥xs->xs.length=28->(∀ d,Same c d->∀ v∈xs,(aR a b u) v d)->Q (.ref p) c):
  gA K (eD9 Q) [some<|.str<|tx a,some<|.str<|tx b,some<|.str<|tx u,↑p] H:=by
 have h:=N.na.free;have m:=N.nb.free;have j:=N.nu.free;have g:=N.na.2.1;have C:=N.nb.2.1;have D:=N.nu.2.1;unfold gA;generalize s:gz K=V;rw[aB,bg]
 show fN (i:=3) (P:=(aR a b u)) rfl w y ((aq (bq (r:=s!"NoText") (ap (ap ay (aX (i:=0) rfl g) #[1]) ay #[1]) λf p H e=>bJ 2 [s!"check",a,s!"suppose",[48],[48],[49]] [s!"check",a,s!"suppose 0 0 1"] e (by simp[catL]) #[1] (by simp) (by simp[h,m,j]) rfl (.inr<|.inl (_,rfl,cku)) (λ_=>rfl) (λz=>by cases z) (Pk f #[1]))
  (aq (bq (r:=s!"BadThought") (ap (ap ay (aX (i:=0) rfl g) #[1]) ay #[1]) λf p H e=>bJ 8 [s!"check",a,s!"clue",[48],[48],[49]] [s!"check",a,s!"clue 0 0 1"] e (by simp[catL]) #[1] (by simp) (by simp[h,m,j]) rfl (.inr<|.inl (_,rfl,ck1)) (λz=>by cases QM _ z) (λ_=>by rw[GI N.ns (by simp)];rfl) (Pk f #[1]))
  bz))) (by rw[n];decide) λr B E t o A k1=>?_
 rw[aH];subst s;show sW (K:=K) N o (by rw[A,n]) k1 λp xs c x e l k=>q p xs c (t.trans x) e l k
def sY{a b:List Nat}(N:Nm3 a b u)(s:H p=↥xs)(f:xs.length=16)(x:∀ c,Same H c->∀ v∈xs,(aR a b u) v c)(q:∀(p:Addr) (xs:List V) (c:Hp),Same H c->c p=↥xs->xs.length=28->(∀ d,Same c d->∀ v∈xs,(aR a b u) v d)->Q (.ref p) c):
  gB K (eD9 Q) [some<|.str<|tx a,some<|.str<|tx b,some<|.str<|tx u,↑p] H:=by
 have n:=N.na.free;have y:=N.nb.free;have w:=N.nu.free;have h:=N.na.2.1;have C:=N.nb.2.1;have D:=N.nu.2.1;unfold gB;generalize j:gA K=V;rw[aB,bg]
 show fN (i:=3) (P:=(aR a b u)) rfl s x ((aq (bq (r:=s!"NoText") (ap (ap ay (aX (i:=0) rfl h) #[1]) ay #[1]) λm p H e=>bJ 2 [s!"check",a,[],[]] [s!"check",a,[32]] e (by simp[catL]) #[1] (by simp) (by simp[n,y,w]) rfl (.inr<|.inl (_,rfl,cks)) (λ_=>rfl) (λz=>by cases z) (Pk m #[1]))
  bz)) (by rw[f];decide) λr B E o g A k1=>?_
 rw[aH];subst j;show sX (K:=K) N g (by rw[A,f]) k1 λp xs c t e l k=>q p xs c (o.trans t) e l k
def ug{a b:List Nat}(N:Nm3 a b u)(w:H p=↥xs)(n:xs.length=14)(y:∀ c,Same H c->∀ v∈xs,(aR a b u) v c)(q:∀(p:Addr) (xs:List V) (c:Hp),Same H c->c p=↥xs->xs.length=28->(∀ d,Same c d->∀ v∈xs,(aR a b u) v d)->Q (.ref p) c):
  gW K (eD9 Q) [some<|.str<|tx a,some<|.str<|tx b,some<|.str<|tx u,↑p] H:=by
 have h:=N.na.free;have m:=N.nb.free;have j:=N.nu.free;have g:=N.na.2.1;have C:=N.nb.2.1;have D:=N.nu.2.1;unfold gW;generalize s:gB K=V;rw[aB,bg]
 show fN (i:=3) (P:=(aR a b u)) rfl w y ((aq (bq (r:=s!"NoText") (ap (ap ay (aX (i:=0) rfl g) #[1]) ay #[1]) λf p H e=>bJ 2 [s!"check",a,[120]] [s!"check",a,[120]] e (by simp[catL]) #[1] (by simp) (by simp[h,m,j]) rfl (.inr<|.inl (_,rfl,ckx)) (λ_=>rfl) (λz=>by cases z) (Pk f #[1]))
  (aq (bq (r:=s!"NoText") (ap (ap ay (aX (i:=0) rfl g) #[1]) ay #[1]) λf p H e=>bJ 2 [s!"check",a,s!"clue",[48],[48]] [s!"check",a,s!"clue 0 0"] e (by simp[catL]) #[1] (by simp) (by simp[h,m,j]) rfl (.inr<|.inl (_,rfl,ckc)) (λ_=>rfl) (λz=>by cases z) (Pk f #[1]))
  bz))) (by rw[n];decide) λr B E t o A k1=>?_
 rw[aH];subst s;show sY (K:=K) N o (by rw[A,n]) k1 λp xs c x e l k=>q p xs c (t.trans x) e l k
def uh{a b:List Nat}(N:Nm3 a b u)(o:H p=↥xs)(f:xs.length=13)(x:∀ c,Same H c->∀ v∈xs,(aR a b u) v c)(q:∀(p:Addr) (xs:List V) (c:Hp),Same H c->c p=↥xs->xs.length=28->(∀ d,Same c d->∀ v∈xs,(aR a b u) v d)->Q (.ref p) c):
  gX K (eD9 Q) [some<|.str<|tx a,some<|.str<|tx b,some<|.str<|tx u,↑p] H:=by
 have m:=N.na.free;have y:=N.nb.free;have w:=N.nu.free;have C:=N.na.2.1;have D:=N.nb.2.1;have s:=N.nu.2.1;unfold gX;generalize h:gW K=V;rw[aB,bg]
 show fN (i:=3) (P:=(aR a b u)) rfl o x ((aq (bq (r:=s!"NoPuzzle") (ap (ap (ap (ap ay (aX (i:=2) rfl s) #[1]) ay #[1]) La #[1]) ay #[1]) λj p H e=>bJ 6 [s!"puzzle",u,[49],[49],[49],[124],s!"unlike",s!"0;",s!"unlike",s!"0;",s!"unlike",s!"0;",s!"unlike",s!"0;",s!"unlike",s!"0;",s!"unlike",s!"0;",s!"unlike",s!"0;",s!"unlike",s!"0;",s!"unlike",s!"0;",s!"unlike",s!"0;",s!"unlike",s!"0;",s!"unlike",s!"0;",s!"unlike",[48],[124],[46]] [s!"puzzle",u,s!"1 1 1 | "++s!"unlike 0; unlike 0; unlike 0; unlike 0; unlike 0; unlike 0; unlike 0; unlike 0; unlike 0; unlike 0; unlike 0; unlike 0; unlike 0"++s!" | ."] e (by simp[catL]) #[1] (by simp) (by simp[m,y,w]) rfl (.inl (_,_,rfl,.inr rfl,L8,by decide,rfl)) (λ_=>rfl) (λz=>by cases z) (Pk j #[1]))
  bz)) (by rw[f];decide) λr B E n g A k1=>?_
 rw[aH];subst h;show ug (K:=K) N g (by rw[A,f]) k1 λp xs c t e l k=>q p xs c (n.trans t) e l k
def ui{a b:List Nat}(N:Nm3 a b u)(o:H p=↥xs)(f:xs.length=12)(x:∀ c,Same H c->∀ v∈xs,(aR a b u) v c)(q:∀(p:Addr) (xs:List V) (c:Hp),Same H c->c p=↥xs->xs.length=28->(∀ d,Same c d->∀ v∈xs,(aR a b u) v d)->Q (.ref p) c):
  gY K (eD9 Q) [some<|.str<|tx a,some<|.str<|tx b,some<|.str<|tx u,↑p] H:=by
 have m:=N.na.free;have y:=N.nb.free;have w:=N.nu.free;have C:=N.na.2.1;have D:=N.nb.2.1;have s:=N.nu.2.1;unfold gY;generalize h:gX K=V;rw[aB,bg]
 show fN (i:=3) (P:=(aR a b u)) rfl o x ((aq (bq (r:=s!"NoFilling") (ap (ap ay (aX (i:=2) rfl s) #[1]) ay #[1]) λj p H e=>bJ 5 [s!"puzzle",u,[49],[49],[49],[124],[],[124],[]] [s!"puzzle",u,s!"1 1 1 |  | "] e (by simp[catL]) #[1] (by simp) (by simp[m,y,w]) rfl (.inl (_,_,rfl,.inr rfl,L7,by decide,rfl)) (λ_=>rfl) (λz=>by cases z) (Pk j #[1]))
  bz)) (by rw[f];decide) λr B E n g A k1=>?_
 rw[aH];subst h;show uh (K:=K) N g (by rw[A,f]) k1 λp xs c t e l k=>q p xs c (n.trans t) e l k
def uj{a b:List Nat}(N:Nm3 a b u)(s:H p=↥xs)(f:xs.length=11)(x:∀ c,Same H c->∀ v∈xs,(aR a b u) v c)(q:∀(p:Addr) (xs:List V) (c:Hp),Same H c->c p=↥xs->xs.length=28->(∀ d,Same c d->∀ v∈xs,(aR a b u) v d)->Q (.ref p) c):
  gZ K (eD9 Q) [some<|.str<|tx a,some<|.str<|tx b,some<|.str<|tx u,↑p] H:=by
 have n:=N.na.free;have y:=N.nb.free;have w:=N.nu.free;have h:=N.na.2.1;have C:=N.nb.2.1;have D:=N.nu.2.1;unfold gZ;generalize j:gY K=V;rw[aB,bg]
 show fN (i:=3) (P:=(aR a b u)) rfl s x ((aq (bq (r:=s!"NoFilling") (ap (ap ay (aX (i:=0) rfl h) #[1]) ay #[1]) λm p H e=>bJ 5 [s!"puzzle",a,[50],[50],[51],[124],s!"unlike",[48],[49],[124],s!"../.4"] [s!"puzzle",a,s!"2 2 3 | unlike 0 1 | ../.4"] e (by simp[catL]) #[1] (by simp) (by simp[n,y,w]) rfl (.inl (_,_,rfl,.inl rfl,L6,by decide,rfl)) (λ_=>rfl) (λz=>by cases z) (Pk m #[1]))
  bz)) (by rw[f];decide) λr B E o g A k1=>?_
 rw[aH];subst j;show ui (K:=K) N g (by rw[A,f]) k1 λp xs c t e l k=>q p xs c (o.trans t) e l k
def uk{a b:List Nat}(N:Nm3 a b u)(o:H p=↥xs)(f:xs.length=10)(x:∀ c,Same H c->∀ v∈xs,(aR a b u) v c)(q:∀(p:Addr) (xs:List V) (c:Hp),Same H c->c p=↥xs->xs.length=28->(∀ d,Same c d->∀ v∈xs,(aR a b u) v d)->Q (.ref p) c):
  g7 K (eD9 Q) [some<|.str<|tx a,some<|.str<|tx b,some<|.str<|tx u,↑p] H:=by
 have m:=N.na.free;have y:=N.nb.free;have w:=N.nu.free;have C:=N.na.2.1;have D:=N.nb.2.1;have s:=N.nu.2.1;unfold g7;generalize h:gZ K=V;rw[aB,bg]
 show fN (i:=3) (P:=(aR a b u)) rfl o x ((aq (bq (r:=s!"NoFilling") (ap (ap ay (aX (i:=2) rfl s) #[1]) ay #[1]) λj p H e=>bJ 5 [s!"puzzle",u,[50],[50],[51],[124],[],[124],s!"../."] [s!"puzzle",u,s!"2 2 3 |  | ../."] e (by simp[catL]) #[1] (by simp) (by simp[m,y,w]) rfl (.inl (_,_,rfl,.inr rfl,L5,by decide,rfl)) (λ_=>rfl) (λz=>by cases z) (Pk j #[1]))
  bz)) (by rw[f];decide) λr B E n g A k1=>?_
 rw[aH];subst h;show uj (K:=K) N g (by rw[A,f]) k1 λp xs c t e l k=>q p xs c (n.trans t) e l k
def ul{a b:List Nat}(N:Nm3 a b u)(o:H p=↥xs)(f:xs.length=9)(x:∀ c,Same H c->∀ v∈xs,(aR a b u) v c)(q:∀(p:Addr) (xs:List V) (c:Hp),Same H c->c p=↥xs->xs.length=28->(∀ d,Same c d->∀ v∈xs,(aR a b u) v d)->Q (.ref p) c):
  g8 K (eD9 Q) [some<|.str<|tx a,some<|.str<|tx b,some<|.str<|tx u,↑p] H:=by
 have m:=N.na.free;have y:=N.nb.free;have w:=N.nu.free;have C:=N.na.2.1;have D:=N.nb.2.1;have s:=N.nu.2.1;unfold g8;generalize h:g7 K=V;rw[aB,bg]
 show fN (i:=3) (P:=(aR a b u)) rfl o x ((aq (bq (r:=s!"NoRule") (ap (ap ay (aX (i:=2) rfl s) #[1]) ay #[1]) λj p H e=>bJ 4 [s!"puzzle",u,[50],[50],[51],[124],s!"unlike",[48],[48],[124],s!"../.."] [s!"puzzle",u,s!"2 2 3 | unlike 0 0 | ../.."] e (by simp[catL]) #[1] (by simp) (by simp[m,y,w]) rfl (.inl (_,_,rfl,.inr rfl,bp9,by decide,rfl)) (λ_=>rfl) (λz=>by cases z) (Pk j #[1]))
  bz)) (by rw[f];decide) λr B E n g A k1=>?_
 rw[aH];subst h;show uk (K:=K) N g (by rw[A,f]) k1 λp xs c t e l k=>q p xs c (n.trans t) e l k
def um{a b:List Nat}(N:Nm3 a b u)(w:H p=↥xs)(m:xs.length=7)(A:∀ c,Same H c->∀ v∈xs,(aR a b u) v c)(q:∀(p:Addr) (xs:List V) (c:Hp),Same H c->c p=↥xs->xs.length=28->(∀ d,Same c d->∀ v∈xs,(aR a b u) v d)->Q (.ref p) c):
  g9 K (eD9 Q) [some<|.str<|tx a,some<|.str<|tx b,some<|.str<|tx u,↑p] H:=by
 have g:=N.na.free;have j:=N.nb.free;have h:=N.nu.free;have o:=N.na.2.1;have D:=N.nb.2.1;have x:=N.nu.2.1;unfold g9;generalize s:g8 K=V;rw[aB,bg]
 show fN (i:=3) (P:=(aR a b u)) rfl w A ((aq (bq (r:=s!"NoFloor") (ap (ap ay (aX (i:=2) rfl x) #[1]) ay #[1]) λf p H e=>bJ 3 [s!"puzzle",u,[50],[50],[55],[124],[],[124],s!"../.."] [s!"puzzle",u,s!"2 2 7 |  | ../.."] e (by simp[catL]) #[1] (by simp) (by simp[g,j,h]) rfl (.inl (_,_,rfl,.inr rfl,bp7,by decide,rfl)) (λ_=>rfl) (λz=>by cases z) (Pk f #[1]))
  (aq (bq (r:=s!"NoRule") (ap (ap ay (aX (i:=0) rfl o) #[1]) ay #[1]) λf p H e=>bJ 4 [s!"puzzle",a,[50],[50],[51],[124],s!"sum",[52],[124],[120]] [s!"puzzle",a,s!"2 2 3 | sum 4 | x"] e (by simp[catL]) #[1] (by simp) (by simp[g,j,h]) rfl (.inl (_,_,rfl,.inl rfl,bp8,by decide,rfl)) (λ_=>rfl) (λz=>by cases z) (Pk f #[1]))
  bz))) (by rw[m];decide) λr C E t n B k1=>?_
 rw[aH];subst s;show ul (K:=K) N n (by rw[B,m]) k1 λp xs c y e l k=>q p xs c (t.trans y) e l k
def uo{a b:List Nat}(N:Nm3 a b u)(w:H p=↥xs)(n:xs.length=5)(y:∀ c,Same H c->∀ v∈xs,(aR a b u) v c)(q:∀(p:Addr) (xs:List V) (c:Hp),Same H c->c p=↥xs->xs.length=28->(∀ d,Same c d->∀ v∈xs,(aR a b u) v d)->Q (.ref p) c):
  hJ K (eD9 Q) [some<|.str<|tx a,some<|.str<|tx b,some<|.str<|tx u,↑p] H:=by
 have g:=N.na.free;have m:=N.nb.free;have j:=N.nu.free;have C:=N.na.2.1;have D:=N.nb.2.1;have h:=N.nu.2.1;unfold hJ;generalize s:g9 K=V;rw[aB,bg]
 show fN (i:=3) (P:=(aR a b u)) rfl w y ((aq (bq (r:=s!"NoFloor") (ap (ap ay (aX (i:=2) rfl h) #[1]) ay #[1]) λf p H e=>bJ 3 [s!"puzzle",u,[48],[50],[51],[124],[],[124],[]] [s!"puzzle",u,s!"0 2 3 |  | "] e (by simp[catL]) #[1] (by simp) (by simp[g,m,j]) rfl (.inl (_,_,rfl,.inr rfl,bp5,by decide,rfl)) (λ_=>rfl) (λz=>by cases z) (Pk f #[1]))
  (aq (bq (r:=s!"NoFloor") (ap (ap ay (aX (i:=2) rfl h) #[1]) ay #[1]) λf p H e=>bJ 3 [s!"puzzle",u,[51],[54],[50],[124],[120],[124],[121]] [s!"puzzle",u,s!"3 6 2 | x | y"] e (by simp[catL]) #[1] (by simp) (by simp[g,m,j]) rfl (.inl (_,_,rfl,.inr rfl,bp6,by decide,rfl)) (λ_=>rfl) (λz=>by cases z) (Pk f #[1]))
  bz))) (by rw[n];decide) λr B E t o A k1=>?_
 rw[aH];subst s;show um (K:=K) N o (by rw[A,n]) k1 λp xs c x e l k=>q p xs c (t.trans x) e l k
def uq{a b:List Nat}(N:Nm3 a b u)(w:H p=↥xs)(n:xs.length=3)(y:∀ c,Same H c->∀ v∈xs,(aR a b u) v c)(q:∀(p:Addr) (xs:List V) (c:Hp),Same H c->c p=↥xs->xs.length=28->(∀ d,Same c d->∀ v∈xs,(aR a b u) v d)->Q (.ref p) c):
  hX K (eD9 Q) [some<|.str<|tx a,some<|.str<|tx b,some<|.str<|tx u,↑p] H:=by
 have g:=N.na.free;have m:=N.nb.free;have j:=N.nu.free;have C:=N.na.2.1;have D:=N.nb.2.1;have h:=N.nu.2.1;unfold hX;generalize s:hJ K=V;rw[aB,bg]
 show fN (i:=3) (P:=(aR a b u)) rfl w y ((aq (bq (r:=s!"NoText") (ap (ap ay (aX (i:=2) rfl h) #[1]) ay #[1]) λf p H e=>bJ 2 [s!"puzzle",u,[50],[50],[124],[],[124],s!"./."] [s!"puzzle",u,s!"2 2 |  | ./."] e (by simp[catL]) #[1] (by simp) (by simp[g,m,j]) rfl (.inl (_,_,rfl,.inr rfl,bp3,by decide,rfl)) (λ_=>rfl) (λz=>by cases z) (Pk f #[1]))
  (aq (bq (r:=s!"NoText") (ap (ap ay (aX (i:=2) rfl h) #[1]) ay #[1]) λf p H e=>bJ 2 [s!"puzzle",u,[50],s!"02",[51],[124],[],[124],s!"../.."] [s!"puzzle",u,s!"2 02 3 |  | ../.."] e (by simp[catL]) #[1] (by simp) (by simp[g,m,j]) rfl (.inl (_,_,rfl,.inr rfl,bp4,by decide,rfl)) (λ_=>rfl) (λz=>by cases z) (Pk f #[1]))
  bz))) (by rw[n];decide) λr B E t o A k1=>?_
 rw[aH];subst s;show uo (K:=K) N o (by rw[A,n]) k1 λp xs c x e l k=>q p xs c (t.trans x) e l k
def ye:R "'a 'b 'u 'some" l8 l9 K:=by
 obtain⟨a,b,u,rfl,N,q⟩:=h;have f:=N.na.free;have g:=N.nb.free;have d:=N.nu.free;have v:=N.na.2.1;have x:=N.nb.2.1;have j:=N.nu.2.1;ac_nf;unfold l9;generalize w:hX K=V;rw[aB,bg]
 show Fa (P:=(aR a b u)) ((aq (bq (r:=s!"NoText") (ap (ap ay (aX (i:=2) rfl j) #[1]) ay #[1]) λc p H e=>bJ 2 [s!"puzzle",u,[]] [s!"puzzle",u,[]] e (by simp[catL]) #[1] (by simp) (by simp[f,g,d]) rfl (.inl (_,_,rfl,.inr rfl,bp0,by decide,rfl)) (λ_=>rfl) (λz=>by cases z) (Pk c #[1]))
  (aq (bq (r:=s!"NoText") (ap (ap ay (aX (i:=2) rfl j) #[1]) ay #[1]) λc p H e=>bJ 2 [s!"puzzle",u,[50],[50],[51]] [s!"puzzle",u,s!"2 2 3"] e (by simp[catL]) #[1] (by simp) (by simp[f,g,d]) rfl (.inl (_,_,rfl,.inr rfl,bp1,by decide,rfl)) (λ_=>rfl) (λz=>by cases z) (Pk c #[1]))
  (aq (bq (r:=s!"NoText") (ap (ap ay (aX (i:=0) rfl v) #[1]) ay #[1]) λc p H e=>bJ 2 [s!"puzzle",a,[120]] [s!"puzzle",a,[120]] e (by simp[catL]) #[1] (by simp) (by simp[f,g,d]) rfl (.inl (_,_,rfl,.inl rfl,bp2,by decide,rfl)) (λ_=>rfl) (λz=>by cases z) (Pk c #[1]))
  bz)))) #[1] λr y A s m o k1=>?_
 rw[aH];subst w;show uq (K:=K) N m o k1 λp xs t n e l k=>q p xs t (s.trans n) e l k
abbrev eA(a:List Nat)(P L G:Addr):En:=(a,P,L,G,2,2,3,rowsA,clA)
abbrev eB(b:List Nat)(P L G:Addr):En:=(b,P,L,G,1,4,5,[rwJ],[0,2,0,0])
section
variable{K:Frag}{c:TJ}{d:TL}{e:RCl DkK}{H:Hp}{D kd P L G P2 L2 G2:Addr}{a b u:List Nat}{v:V}
def Fc{w:List Nat}:lookE [eA a P L G,eB b P2 L2 G2] w=if a=w then some (eA a P L G) else if b=w then some (eB b P2 L2 G2) else none:=by
 unfold lookE;by_cases h1:a=w
 . rw[PK h1,Sf (by simpa using h1)]
 . rw[PF h1,Sg (by simpa using h1)];by_cases h2:b=w
   . rw[PK h2,Sf (by simpa using h2)]
   . rw[PF h2,Sg (by simpa using h2)];rfl
def zw{w:List Nat}(h1:w≠a)(h2:w≠b):lookE [eA a P L G,eB b P2 L2 G2] w=none:=by
 rw[Fc,PF<|λz=>h1 z.symm,PF<|λz=>h2 z.symm]
def oV:lookE [eA a P L G,eB b P2 L2 G2] a=some (eA a P L G):=by rw[Fc,PK rfl]
def ur(n:a≠b):lookE [eA a P L G,eB b P2 L2 G2] b=some (eB b P2 L2 G2):=by rw[Fc,PF n,PK rfl]
def  Lb(X:IsDk H c d e D kd [eA a P L G,eB b P2 L2 G2])(h:∀ f,Same H f->de v f):zr K c d e H D v 0 []:=λg Q E s q _=>by
 have q:=q #[1];rcases h g s with h | ⟨i,rfl,O,w⟩
 . show(D,kd,_,v,rfl,X.same s,.inl (h,q))
 . show(D,kd,_,_,rfl,X.same s,.inr (i,rfl,O,λ_=>q,λj e=>by rw[w]at e;cases e))
def  JO(n:a≠b)(X:IsDk H c d e D kd [eA a P L G,eB b P2 L2 G2])(h:du a b v H):zr K c d e H D v 1 []:=λT Q E s q _=>by
 have q:=q #[1];obtain⟨M,S,rfl,O,w,k⟩:=h;show(D,kd,_,_,rfl,X.same s,.inr (M,rfl,O,(λi=>by rw[w]at i;cases i),λp i o l=>?_));rw[w]at i;cases i;have j:bB K "NoName" o E:=λC R B J=>q C R B<|l.trans J;rcases k with ⟨f,t,rfl,N,A,m⟩ | ⟨I,f,r,rfl,F,h1,h2⟩ | ⟨f,x,rfl,u,h1,h2⟩
 . show .inl (f,t,rfl,D,kd,_,f,t,rfl,X.same<|s.trans l,(by change(2:Nat)<=50;decide),A,m,λ_=>j,λz=>by rw[N]at z;cases z)
 . show .inr (.inl (I,f,r,rfl,F,zw h1 h2,j))
 . rcases u with rfl | rfl
   . show .inr (.inr<|.inr<|.inr (f,x,_,rfl,oV,λ_=>j,λy g=>by rw[zw h1 h2]at g;cases g))
   . show .inr (.inr<|.inr<|.inr (f,x,_,rfl,ur n,λ_=>j,λy g=>by rw[zw h1 h2]at g;cases g))
def  JP{k:Nat}{r us:List (List Nat)}{xs:∅}(N:Nm3 a b u)(ok:d.ok .Puzzle=true)(J:∀ k,k≠.Rule->c.ok k=true)(X:IsDk H c d e D kd [eA a P L G,eB b P2 L2 G2])(O:RwOk r)(w:wrdW r=some us)(h:TxN a b u us k xs):zr K c d e H D (.str<|tx<|catL 32 r) k xs:=λH1 Q E s q qb=>by
 show(D,kd,_,_,rfl,X.same s,.inr (r,rfl,O,(λn=>by rw[w]at n;cases n),λaa n S j=>?_));rw[w]at n;cases n;have A:=X.same<|s.trans j;have Y:=A.at_ _<|Pn;have Z:=A.at_ _<|Pm _ Pn;rcases h with ⟨M,t,rfl,hw,bp,k8,rfl⟩ | ⟨t,rfl,tb,W⟩ | ⟨x,t,rfl,B,tl,T,rfl,rfl⟩ | ⟨h,rfl,rfl⟩
 . have v:NmOk M:=by rcases hw with rfl | rfl;show N.na;show N.nu
   have wl:=v.2.1;show .inl (M,t,rfl,D,kd,_,M,t,rfl,A,(by change(2:Nat)<=50;decide),by omega,(λc J=>by have:=v.2.2 c J;omega),(λz=>by rw[v.is]at z;cases z),λ_ H3 s3=>?_);show bp K c d H3 _ E ok J λC i f g=>q k8 C i f (j.trans<|s3.trans g)
 . show .inr (.inr<|.inr<|.inl (chkC,a,t,eA a P L G,rfl,by simp,oV,P,chkC,t,rfl,.inl (rfl,P,L,G,2,2,3,rowsA,clA,t,rfl,Y,tb,λz C i f g=>?_,λl p=>?_)))
   . rcases W with ⟨_,rfl,_⟩ | ⟨_,l,R,F,_⟩
     . show q #[1] C i f (j.trans g)
     . rw[F]at z;cases z
   . rcases W with ⟨z,_⟩ | ⟨k8,l',R,F,rfl,kk⟩
     . rw[z]at p;cases p
     . rw[F]at p;cases p;show(R,(qb k8).same j,λU f g hU=>kk c d P L G f (Y.same g) U _ hU)
 . have o:bB K "NoFilling" S E:=λC i f g=>q #[1] C i f (j.trans g);have I:x∈[chkC,hinC,wroC]:=Pm _ B;simp only[Pw,Qf,Ra]at B;show .inr<|.inr<|.inr<|.inl (x,a,t,eA a P L G,rfl,I,oV,P,x,t,rfl,.inr ?_);rcases B with rfl | rfl
   . show .inl (rfl,P,L,G,2,2,3,rowsA,clA,t,rfl,Y,tl,T,o)
   . show .inr (rfl,P,L,G,2,2,3,rowsA,clA,t,rfl,Y,tl,T,o)
 . have o:bB K "TooMany" S E:=λC i f g=>q #[1] C i f (j.trans g);rcases h with rfl | rfl
   . show .inr (.inr<|.inr<|.inr (a,b,_,rfl,oV,(λz=>by rw[ur N.ab]at z;cases z),λy m=>?_));rw[ur N.ab]at m;cases m;show(P,L,G,P2,L2,G2,2,2,3,1,4,5,rowsA,[rwJ],clA,[0,2,0,0],rfl,Y,Z,.inr #[1],o)
   . show .inr (.inr<|.inr<|.inr (b,a,_,rfl,ur N.ab,(λz=>by rw[oV]at z;cases z),λy m=>?_));rw[oV]at m;cases m;show(P2,L2,G2,P,L,G,1,4,5,2,2,3,[rwJ],rowsA,[0,2,0,0],clA,rfl,Z,Y,.inl #[1],o)
end
def  GJ(K:Frag)(c:TJ)(d:TL)(e:RCl DkK):Sp:=#[3,∃(a:Addr) (b:∅),vs=[.ref a]/\SqL K H a (b.map V.int)/\b.length<=63/\(∀ k,k≠.Rule->c.ok k=true)/\d.ok .Puzzle=true/\e.ok .Desk=true/\∀ f,Q (.bl true) f]
def zx:d:=#[3,∃(a:Addr) (b:∅),vs=[.ref a]/\SqL K H a (b.map V.int)/\b.length<=63/\∀ c,Q (.bl true) c]
def  Fd(K:Frag)(c:TJ)(d:TL)(e:RCl DkK):TS:=#[":rtcIe,_qenpza3a|bdcjcjuabW~CdR`0Ue5l#1 Ncxe12uabWEa|cdkbWEs",[none,none,some 10]]
def  Fe(K:Frag)(c:TJ)(d:TL)(e:RCl DkK):TS:=#[":hqudl#12 hrtcxe|abfg`0qc~Duabi#0 dcjbi#1 v'Kac~leEbfg`1|bdl#12 s_renpz",s!"BadThought",s!"suppose"]
def  Ff(K:Frag)(c:TJ)(d:TL)(e:RCl DkK):TS:=#[":hrtcxe7bi#2 hq,_seacm1bi#0 acm1bi#1 acm1bi#2 dl#9 qcm9c?c~K6bi#3 vHa9d~Ee#2 ~il#10 ~il#11 ~Fhqcm57l#10 qcm8c?c~K6bi#3 vHa8dl#11 _tenpz"]
def  Fg(K:Frag)(c:TJ)(d:TL)(e:RCl DkK):TS:=#[":hqc?cZcj,'Lea0acjbi#1 4dcZcZbi#13 44bi#48271 bi#65521 l#6 hqc?6bi#3 l#7 hqcmua,_ueacm1bi#0 acm1bi#1 da,_veacm1bi#0 acm1bi#2 daudd7l#8 _wenpz"]
def  pD(K:Frag)(c:TJ)(d:TL)(e:RCl DkK):TS:=#[":kFcxe~mz~j~I~JenpzY3acjbfg`0cm1bi#0 dcm2bi#0 cxe~mz~j~I~JenpzY3acjbfg`0cm1bi#1 dcm2bi#1 ",s!"show "]
def  pE(K:Frag)(c:TJ)(d:TL)(e:RCl DkK):TS:=#[":h-~tabi#8 dl#4 _xenpz_yenpz"]
def  pF(K:Frag)(c:TJ)(d:TL)(e:RCl DkK):TS:=#[":hquabfg`0abfg`1abfg`2abfg`3abfg`4abfg`5abfg`6abfg`7abfg`8dl#5 _zenpz",s!"NoRow",s!"NoName",s!"NoText",s!"NoFloor",s!"NoRule",s!"NoFilling",s!"NoPuzzle",s!"TooMany",s!"BadThought"]
def  pG(K:Frag)(c:TJ)(d:TL)(e:RCl DkK):TS:=#[":h-~tabi#2 dl#4 rtcIe~mz~j~I~JenpzY3acjcjcjbfg`0cm14bfg`1cm24dbfg`2kbWEs_Aenpz",s!"puzzle ",[32],s!"ok"]
def  ut(K:Frag)(c:TJ)(d:TL)(e:RCl DkK):TS:=#[":hq*_B_C_Denpz=Ydl#3 _Eenpz"]
def  uu(K:Frag)(c:TJ)(d:TL)(e:RCl DkK):TS:=#[":hquabfg`0abfg`1dl#2 _Fenpz",s!"2 2 3 | unlike 0 1; sum 4 2 3 | ../..",s!"1 4 5 | joined 2 | .2.."]
def  CF(K:Frag)(c:TJ)(d:TL)(e:RCl DkK):TS:=#[":hq,_Gea0dl#1 _Henpz"]
def GK:∀ i k:Nat,i<9->k<9->decide (tx (knC.getD i [])=tx (knC.getD k []))=decide (i=k):=by
 have t:((List.range 9).all λi=>(List.range 9).all λk=>decide<|decide (tx (knC.getD i [])=tx (knC.getD k []))=decide (i=k))=true:=by decide+kernel
 intro i k b a;show Qx (PL.mp (PL.mp t i<|Qk.mpr b) k<|Qk.mpr a)
def Iv{K:Frag}{H:Hp}:∀{m:List Bool},DVs K H (m.map V.bl) (m.map PyData.bool)
 | []=>.nil
 | k::r=>.cons (.bl _) Iv
def Ea{K:Frag}{H:Hp}{ys:List V}{b:List PyData}(y:DVs K H ys b):∀{xs:List V} {a:List PyData},DVs K H xs a->DVs K H (xs++ys) (a++b)
 | _,_,.nil=>y
 | _,_,.cons x xs=>.cons x (Ea y xs)
def  GoodD.bool{k:Nat}{b:Bool}:GoodD k (.bool b):=(by cases b <;> simp[PyData.eqv],rfl,by simp[PyData.depth])
def  kndB(k:Nat):List Bool:=true::((List.range 9).map λi=>decide<|i=k)
def JQ(k:Nat):kndL k=(kndB k).map V.bl:=by unfold kndL kndB;simp
def Ih{r l m:Addr}{k:Nat}{xs:∅}(f:H p=↥(kndL k++[.bl false,.ref l]))(c:H r=↥(kndL k++[.bl false,.ref m]))(e:H l=↥(xs.map V.int))(d:H m=↥(xs.map V.int))(q:Q (.bl false) H):cNe K (.ref p) (.ref r) H Q:=by
 have g:GoodD 2 (.list<|(kndB k).map PyData.bool++[.bool false,.list<|xs.map PyData.int]):=Tk λx a=>by
  rcases PN.mp a with a | a
  . obtain⟨_,_,rfl⟩:=PM.mp a;show .bool
  . rcases Pw.mp a with rfl | a
    . show .bool
    . rw[PJ.mp a];show Tk λx a=>by obtain⟨_,_,rfl⟩:=PM.mp a;show .int
 have b:∀ p l,H p=↥(kndL k++[.bl false,.ref l])->H l=↥(xs.map V.int)->DV K H (.ref p) (.list<|(kndB k).map PyData.bool++[.bool false,.list<|xs.map PyData.int]):=λp l h1 h2=>.lst (Qm h1) (by rw[JQ];show Ea (.cons (.bl _)<|.cons (.lst (Qm h2) CB) .nil) Iv);change rNeD K (.ref p) (.ref r) H Q;show(_,_,b p l f e,b r m c d,g.shaped #[1],g.shaped #[1],?_);rw[g.q];show q
abbrev LAB(a b:List Nat)(P L G c L2 d:Addr):List En:=[eA a P L G,eB b c L2 d]
section
variable{K:Frag}{c:TJ}{d:TL}{e:RCl DkK}{H:Hp}{Q:VK}{De:Ends}{S N T D kd W P L G P2 L2 G2:Addr}{a b u:List Nat}
def Eb {C O J Y E I Q F:Option V} {k:Nat} {xs:∅} {v:V} {m:Addr} (X:IsDk H c d e D kd (LAB a b P L G P2 L2 G2)) (U:H W=↥((knC.map tx).map V.str)) (S:k<9) (x8:k<8->xs=[]) (rf:zr K c d e H D v k xs) (em:H m=↥(xs.map V.int))
  (q:∀ M,Same H M->De.nx [C,O,J,↑D,Y,↑W,E,I,Q,F,some<|.str<|tx<|knC.getD k [],some v,↑m] M):
  Fd K c d e De [C,O,J,↑D,Y,↑W,E,I,Q,F,some<|.str<|tx<|knC.getD k [],some v,↑m] H:=by
 unfold Fd;rw[aT];exists(D,kd,_,v,k,xs,rfl,X,S,x8,rf,λp l H1 B el ep=>?_);exists(lnR rfl,λt ht=>?_);obtain⟨H2,o,N,et⟩:=cP (.lst [V.bl true]) ht;rw[o];have u:=B.trans N;show((_,Qm<|u _ _ U),?_);show iN (xs:=(knC.map tx).map V.str) (λ_=>true) (λi=>.bl<|decide<|i=k) #[1] (Qm<|u _ _ U) ?_ ?_ ?_
 . intro i x n R s A k1;show k1 _ (Pr _)
 . intro i x n Q1 s hb A k1;have hi:i<9:=by have:=(Ps.mp s).1;simpa [knC] using this
   have ex:x=V.str (tx<|knC.getD i []):=by
    rw[Pp,Pp]at s
    cases h:knC[i]? with
    | none=>rw[h]at s;cases s
    | some y=>rw[h]at s;cases s;rw[List.getD,h];rfl
   subst ex;change tOp (cEq K) _ _ [none,some<|.str<|tx<|knC.getD i [],some<|.str<|tx<|knC.getD k []] n Q1;symm;rw[GK i k hi S];show k1 _ (Pr n)
 . intro f n hf A w;rw[fm]at w;have w:n f=↥((List.range 9).map λi=>V.bl<|decide<|i=k):=w;show lC (A _ _ et) w (by simp) λg hg=>?_;obtain⟨H4,o,s4,eg⟩:∃ z,upd n g (.lst ([V.bl true]++(List.range 9).map λi=>V.bl (decide (i=k))))=z/\Same n z/\z g=↥(kndL k):=cP _ hg;rw[o];exists(lnR rfl,λy hy=>?_);obtain⟨H5,o,T,ey⟩:=cP (.lst [V.bl false,V.ref m]) hy;rw[o];show lC (T _ _ eg) ey (by unfold kndL;simp) λr hr=>?_;obtain⟨H6,o,s6,Z⟩:=cP (.lst<|kndL k++[V.bl false,V.ref m]) hr;rw[o];have j:=N.trans<|A.trans<|s4.trans<|T.trans s6;show Ih (j _ _ ep) Z (j _ _ el) ((B.trans j) _ _ em) ?_;exists q H6 (B.trans j)
end
structure Rw75(K:Frag)(c:TJ)(d:TL)(e:RCl DkK)(H:Hp)(D:Addr)(v:V)(k:Nat)(xs:∅):Prop where
 k9:k<9
 x8:k<8->xs=[]
 x9:k=8->∃ s:List Nat,v=.str (tx s)/\s.length<=900/\xs=List.replicate (1+(if inS s=true then 1 else 0)) 0
 rf:zr K c d e H D v k xs
variable{H':Hp}
def  Rw75.same{c:TJ}{D:Addr}{v:V}{k:Nat}{xs:∅}(x:Rw75 K c d e H D v k xs)(s:Same H H'):Rw75 K c d e H' D v k xs:=(x.k9,x.x8,x.x9,λa Q E b=>x.rf a Q E<|s.trans b)
section
variable{K:Frag}{c:TJ}{d:TL}{e:RCl DkK}{H:Hp}{Q:VK}{De:Ends}{S N T D kd W P L G P2 L2 G2:Addr}{a b u:List Nat}
def zy {p C B M t A I u y:Option V} {k:Nat} {xs:∅} {v:V} (X:IsDk H c d e D kd (LAB a b P L G P2 L2 G2)) (O:H W=↥((knC.map tx).map V.str)) (R:Rw75 K c d e H D v k xs)
  (q:∀(w:Option V) (H':Hp),Same H H'->De.nx [p,C,B,↑D,M,↑W,t,A,I,u,some<|.str<|tx<|knC.getD k [],some v,w] H'):
  Fe K c d e De [p,C,B,↑D,M,↑W,t,A,I,u,some<|.str<|tx<|knC.getD k [],some v,y] H:=by
 unfold Fe;generalize N:Fd K c d e=VD;exists(bi #[1],λm hm=>?_);obtain⟨H1,l,j,em⟩:=cP (.lst []) hm;rw[l];rw[aT];symm;have Y:decide (tx (knC.getD k [])=tx s!"BadThought")=decide (k=8):=GK k 8 R.k9 #[1];rw[Y];by_cases h8:k=8
 . rw[Po h8];obtain⟨s,rfl,sl,hx⟩:=R.x9 h8;show iteT ?_;exists(lnR rfl,λz T=>?_);obtain⟨n,l,s2,U⟩:=cP (.lst [V.int 0]) T;rw[l];have J:=j.trans s2
   have g:∀ i:Int,i=((1+(if inS s=true then 1 else 0):Nat):Int)->cRepL (.ref z) (.int i) n (λx H'=>VD De [p,C,B,↑D,M,↑W,t,A,I,u,some<|.str<|tx<|knC.getD k [],some<|.str<|tx s,some x] H'):=by
    rintro i rfl;have i2:(1+(if inS s=true then 1 else 0):Nat)<=2:=by split <;> lia
    show xk U #[4] #[4] (by change(1:Nat)<=1;decide) λr hr=>?_;rw[Rv,Iq];obtain⟨H3,l,s3,S⟩:=cP (.lst<|(List.replicate (1+(if inS s=true then 1 else 0)) (0:Int)).map V.int) hr;rw[l];have f:=J.trans s3;subst N;show Eb (X.same f) (f _ _ O) R.k9 R.x8 (R.same f).rf (by rw[hx];show S) λH' F=>q _ H' (f.trans F)
   have E:(!(Builtin.Str.occurrences (tx s) (tx s!"suppose") 0 (tx s).length 1).isEmpty)=inS s:=rfl
   have wi:∀ o:VK,o (.bl<|inS s) n->cIn K false (.str<|tx s!"suppose") (.str<|tx s) n o:=λo h=>by
    change o (.bl (if false=true then _ else !(Builtin.Str.occurrences (tx s) (tx s!"suppose") 0 (tx s).length 1).isEmpty)) n;rw[PF Pt,E];show h
   show wi _ ?_
   cases Q:inS s with
   | true=>rw[Q]at g;exists g _ rfl
   | false=>rw[Q]at g;exists g _ rfl
 . rw[Pl h8];show iteF ?_;subst N;have Z:=R.x8 (by have:=R.k9;lia);show Eb (X.same j) (j _ _ O) R.k9 R.x8 (R.same j).rf (by rw[Z];show em) λH' F=>q _ H' (j.trans F)
def zA {S Y v4 v9 x F A:Option V} {y:Int} {f:Nat} {sm:Addr} {xs:List V} (Q:Nm3 a b u) (ok:d.ok .Puzzle=true) (hc:∀ k,k≠.Rule->c.ok k=true) (X:IsDk H c d e D kd (LAB a b P L G P2 L2 G2)) (M:H N=↥(([a,b,u].map tx).map V.str)) (w:H W=↥((knC.map tx).map V.str))
  (s:(f=2)\/(H sm=↥xs/\((f=0/\xs.length=33/\∀ H',Same H H'->∀ v∈xs,de v H')\/(f=1/\xs.length=22/\∀ H',Same H H'->∀ v∈xs,du a b v H'))))
  (q:∀(w9 B E g:Option V) (H':Hp),Same H H'->De.nx [S,↑N,Y,↑D,v4,↑W,⇑y,⇑(f:Int),↑sm,w9,B,E,g] H'):
  Ff K c d e De [S,↑N,Y,↑D,v4,↑W,⇑y,⇑(f:Int),↑sm,v9,x,F,A] H:=by
 unfold Ff;generalize T:Fe K c d e=VC;have U:atI (([a,b,u].map tx).map V.str) 0=some (V.str<|tx a):=aJ (j:=0) rfl;have n1:atI (([a,b,u].map tx).map V.str) 1=some (V.str<|tx b):=aJ (j:=1) rfl;have n2:atI (([a,b,u].map tx).map V.str) 2=some (V.str<|tx u):=aJ (j:=2) rfl
 have i:∀(n:Nat) (l:List V),0<n->l.length=n->∃ v,v∈l/\atI l (y/3 % (n:Int))=some v:=λn l U R=>by
  have a0:=Ro (y/3) (show((n:Nat):Int)≠0 by lia);have a1:=Q5 (y/3) (show(0:Int) < ((n:Nat):Int) by lia);obtain⟨j,hj⟩:=QQ a0;rw[hj];have hl:j<l.length:=by lia
  show(l[j],Ta hl,aJ<|Px hl)
 rw[aB,aT];symm;rcases s with rfl | ⟨I,s⟩
 . rw[show decide (((2:Nat):Int)=2)=true from rfl];show iteT ?_;exists ixL M U<|ixL M n1<|ixL M n2 ?_;show(a,b,u,rfl,Q,λp l H1 C Z R hy=>?_);obtain⟨v,o,r⟩:=i 28 l #[1] R;symm;rw[ij Z,R];exists((by decide,by decide),by decide,?_);show ixL Z r ?_;obtain⟨T',k,ws,us,aa,rfl,k9,eT,O,hw,tn,x8,x9⟩:=hy H1 (Pr _) v o;show BQ eT rfl ?_;rw[wv];subst T;have X1:=X.same C;show zy X1 (C _ _ w) (k9,x8,λk8=>(_,rfl,O.len,x9 k8),JP Q ok hc X1 O hw tn) λg H' m=>q _ _ _ g H' (C.trans m)
 . have kn:¬ ((f:Nat):Int)=2:=by rcases s with ⟨h,_⟩ | ⟨h,_⟩ <;> lia
   rw[Pl kn];show iteF ?_;symm;have ew:atI ((knC.map tx).map V.str) (f:Int)=some (V.str<|tx<|knC.getD f []):=by rcases s with ⟨rfl,_⟩ | ⟨rfl,_⟩ <;> show aJ rfl
   show ixL w ew ?_;symm;rw[ij I];symm;subst T;rcases s with ⟨rfl,t,J⟩ | ⟨rfl,t,J⟩
   . obtain⟨v,o,r⟩:=i 33 xs #[1] t;rw[t];show((by decide,by decide),by decide,?_);show ixL I r ?_;exists zy X w (by decide,λ_=>rfl,(λz=>by cases z),Lb X λH' m=>J H' m v o) λg H' m=>q _ _ _ g H' m
   . obtain⟨v,o,r⟩:=i 22 xs #[1] t;rw[t];show((by decide,by decide),by decide,?_);show ixL I r ?_;exists zy X w (by decide,λ_=>rfl,(λz=>by cases z),JO Q.ab X<|J H (Pr H) v o) λg H' m=>q _ _ _ g H' m
def JR {Y Z v7 v8 v9 z O I:Option V} {i:Nat} {ns:∅} (t:Nm3 a b u) (A:d.ok .Puzzle=true) (R:∀ k,k≠.Rule->c.ok k=true) (hi:i<8) (hS:SqL K H S (ns.map V.int)) (hn:ns.length<=63) (X:IsDk H c d e D kd (LAB a b P L G P2 L2 G2)) (p:H N=↥(([a,b,u].map tx).map V.str)) (T:H W=↥((knC.map tx).map V.str))
  (q:∀(w6 w7 w8 o g h f:Option V) (H':Hp),Same H H'->De.nx [↑S,↑N,Y,↑D,⇑(i:Int),↑W,w6,w7,w8,o,g,h,f] H'):
  Fg K c d e De [↑S,↑N,Y,↑D,⇑(i:Int),↑W,Z,v7,v8,v9,z,O,I] H:=by
 unfold Fg;generalize hV:Ff K c d e=VE;have U:atI (([a,b,u].map tx).map V.str) 0=some (V.str<|tx a):=aJ (j:=0) rfl;have n1:atI (([a,b,u].map tx).map V.str) 1=some (V.str<|tx b):=aJ (j:=1) rfl;have n2:atI (([a,b,u].map tx).map V.str) 2=some (V.str<|tx u):=aJ (j:=2) rfl;exists(S,ns,_,rfl,hS,hn,by lia,λx=>?_);exists(.inl (by decide,by decide),.inr (by lia,by lia),.inr (by decide,by decide),by decide,by decide,?_);generalize (x+13*(i:Int)*(i:Int))*48271%65521=y at*;have a0:=Ro y (show(3:Int)≠0 by decide);have a1:=Q5 y (show(0:Int)<3 by decide);obtain⟨j,hj⟩:=QQ a0;rw[hj]at a1 ⊢;show ixL p U<|ixL p n1 ?_;show(a,b,u,rfl,t,λp1 C H1 J e1 l1 k1=>?_);show ixL (J _ _ p) U<|ixL (J _ _ p) n2 ?_;show(a,b,u,rfl,t,λQ F w s2 e2 l2 k2=>?_);exists(bi #[1],λs E=>?_);have s3:Same w (upd w s<|.lst []):=(Pr w).laid E;generalize upd w s (.lst [])=H3 at*;show(lnR rfl,λp4 B=>?_);obtain⟨H4,z9,s4,M⟩:=cP (.lst [V.ref p1,V.ref Q,V.ref s]) B;rw[z9];have n:=s3.trans s4;have r:=s2.trans n;have l:=J.trans r;subst hV;have:j=0\/j=1\/j=2:=by lia
 rcases this with rfl | rfl | rfl
 . show ixL M (v:=V.ref p1) (aJ rfl) ?_;show zA (sm:=p1) (xs:=C) t A R (X.same l) (l _ _ p) (l _ _ T) (.inr (r _ _ e1,.inl (rfl,l1,λH' m=>k1 H'<|r.trans m))) λo g h f H' m=>q _ _ _ o g h f H' (l.trans m)
 . show ixL M (v:=V.ref Q) (aJ rfl) ?_;show zA (sm:=Q) (xs:=F) t A R (X.same l) (l _ _ p) (l _ _ T) (.inr (n _ _ e2,.inr (rfl,l2,λH' m=>k2 H'<|n.trans m))) λo g h f H' m=>q _ _ _ o g h f H' (l.trans m)
 . show ixL M (v:=V.ref s) (aJ rfl) ?_;show zA (sm:=s) (xs:=[]) t A R (X.same l) (l _ _ p) (l _ _ T) (.inl rfl) λo g h f H' m=>q _ _ _ o g h f H' (l.trans m)
end
structure B75(K:Frag)(H:Hp)(c:TJ)(d:TL)(e:RCl DkK)(S N T D kd:Addr)(ns:∅)(a b u:List Nat)(Ls:List En):Prop where
 X:IsDk H c d e D kd Ls
 sc:SqL K H S (ns.map V.int)
 nl:H N=↥(([a,b,u].map tx).map V.str)
 tl:H T=↥(([tA75,tB75].map tx).map V.str)
variable{ns:∅}
def  B75.same{c:TJ}{S N T D kd:Addr}{a b:List Nat}{f:List En}(x:B75 K H c d e S N T D kd ns a b u f)(s:Same H H'):B75 K H' c d e S N T D kd ns a b u f:=(x.X.same s,s.seq x.sc,s _ _ x.nl,s _ _ x.tl)
def JS{a kd:Addr}{k1:List (Key × V)}(x:SqL K H a xs)(h1:H kd=some (.dK k1))(f:Fr74 H H' kd):SqL K H' a xs:=by
 rcases x with (x | ⟨o,x⟩) | x
 . show .inl (.inl<|f _ _ x (λz=>by rw[z,h1]at x;cases x))
 . show .inl (.inr (o,f _ _ x (λz=>by rw[z,h1]at x;cases x)))
 . show .inr x
def  B75.put{c:TJ}{S N T D kd:Addr}{a b:List Nat}{g L2:List En}(x:B75 K H c d e S N T D kd ns a b u g)(f:Fr74 H H' kd)(X:IsDk H' c d e D kd L2):B75 K H' c d e S N T D kd ns a b u L2:=
 (X,JS x.sc x.X.kd f,f _ _ x.nl (λz=>by have:=x.nl;rw[z,x.X.kd]at this;cases this),f _ _ x.tl (λz=>by have:=x.tl;rw[z,x.X.kd]at this;cases this))
section
variable{K:Frag}{c:TJ}{d:TL}{e:RCl DkK}{H:Hp}{Q:VK}{E:XK}{S N T D kd W P L G P2 L2 G2:Addr}{ns:∅}{a b u:List Nat}
def CG{w:List Nat}{x:En}{a:List En}(n:NmOk w)(X:IsDk H c d e D kd a)(h:lookE a w=some x)(q:∀ H',Same H H'->Q (.str<|tx x.txt) H'):i7 K c d e .Desk [.ref D,.str<|tx<|s!"show "++w] H Q E:=by
 have j:=n.free;have l:=n.2.1;show(D,kd,a,_,rfl,X,.inr ([shoC,w],by rw[jL (by simp)];rfl,TF (by simp) (by simp[j,shoC]) ?_,(λz=>by cases z),λb f k i=>?_))
 . rw[jL (by simp)];change(shoC++32::w).length<=800;simp[shoC];lia
 . have:b=[shoC,w]:=by
    have:some [shoC,w]=some b:=f;show(QN this).symm
   subst this;show .inr (.inr<|.inl (w,x,rfl,h,λH' g=>q H'<|i.trans g))
def Ec{w t:List Nat}(ts:List (List Nat)){b:List En}(n:NmOk w)(X:IsDk H c d e D kd b)(O:b.length<=50)(o:t=catL 32 ts)(j:ts≠[])(u:∀ x∈ts,32∉x)(U:t.length<=300)(q:Bk K c d e H Q E D kd b w t):i7 K c d e .Desk [.ref D,.str<|tx<|s!"puzzle "++w++[32]++t] H Q E:=by
 have C:=n.free;have S:=n.2.1
 have m:s!"puzzle "++w++[32]++t=catL 32 (puzC::w::ts):=by
  rw[jL (by simp),jL j,← o];simp[puzC]
 obtain⟨z,a,rfl⟩:∃ z a,ts=z::a:=by
  cases ts with
  | nil=>show absurd rfl j
  | cons z a=>show(z,a,rfl)
 have l:wrdW (puzC::w::z::a)=some [puzC,w,catL 32 (z::a)]:=by
  unfold wrdW;rw[PK (by rw[show decide ((puzC::w::z::a).headD []∈WTc)=true from(by decide:decide (puzC∈WTc)=true),Qb];show Po (by simp))];rfl
 show(D,kd,b,_,rfl,X,.inr (puzC::w::z::a,by rw[m],TF (by simp) ?_ ?_,(λy=>by rw[l]at y;cases y),λR p T i=>?_))
 . intro y f;rcases Pw.mp f with rfl | f
   . decide
   . rcases Pw.mp f with rfl | f
     . show C
     . show u y f
 . rw[← m];simp;lia
 . rw[l]at p;cases p;rw[← o];show .inl (w,t,rfl,D,kd,b,w,t,rfl,X.same i,O,by lia,(λc M=>by have:=n.2.2 c M;lia),(λy=>by rw[n.is]at y;cases y),λ_ r F=>xW (q r<|i.trans F) λv W ⟨P,N,G,h,L,g,rows,s,e1,e2,I,k⟩=>(P,N,G,h,L,g,rows,s,e1,e2,I,λJ A B=>k J ((i.fr74 kd).trans A) B))
def GL{A z o t y r h k i:Option V}(f:Nm3 a b u)(B:B75 K H c d e S N T D kd ns a b u (LAB a b P L G P2 L2 G2))(q:∀ H',Q (.bl true) H'):
  pD K c d e (eD9 Q) [↑S,↑N,↑T,↑D,A,z,o,t,y,r,h,k,i] H:=by
 have s:atI (([a,b,u].map tx).map V.str) 0=some (V.str<|tx a):=aJ (j:=0) rfl;have x:atI (([a,b,u].map tx).map V.str) 1=some (V.str<|tx b):=aJ (j:=1) rfl;have C:=f.na.2.1;have E:=f.nb.2.1;obtain⟨l,h1⟩:=B.X.ex;unfold pD;exists(D,.Desk,l,_,rfl,B.X.ok,h1,by rfl,?_);show ixL B.nl s ?_;show kB (a:=s!"show ") (b:=a) (by simp;lia) ?_;show CG f.na B.X oV λF m=>?_;have g:=B.same m;show ixL g.tl (v:=V.str (tx tA75)) (aJ (j:=0) rfl) ?_;symm;rw[show En.txt (eA a P L G)=tA75 from JK,Po rfl];show iteT ?_;exists(D,.Desk,l,_,rfl,B.X.ok,m _ _ h1,by rfl,?_);show ixL g.nl x ?_;show kB (a:=s!"show ") (b:=b) (by simp;lia) ?_;show CG f.nb g.X (ur f.ab) λp w=>?_;have n:=g.same w;show ixL n.tl (v:=V.str (tx tB75)) (aJ (j:=1) rfl) ?_;symm;rw[show En.txt (eB b P2 L2 G2)=tB75 from JL,Po rfl];show q p
def GM{p j m o l f h g:Option V}(y:Nm3 a b u)(z:d.ok .Puzzle=true)(U:∀ k,k≠.Rule->c.ok k=true)(F:ns.length<=63)(B:B75 K H c d e S N T D kd ns a b u (LAB a b P L G P2 L2 G2))(Y:H W=↥((knC.map tx).map V.str))(q:∀ H',Q (.bl true) H'):
  pE K c d e (eD9 Q) [↑S,↑N,↑T,↑D,p,↑W,j,m,o,l,f,h,g] H:=by
 unfold pE;generalize x:pD K c d e=V6;generalize A:Fg K c d e=LB;exists(8,rfl,by decide,by decide,?_);show mT (λi σ H'=>∃(p j m o l f h g:Option V),σ=[↑S,↑N,↑T,↑D,p,↑W,j,m,o,l,f,h,g]/\Same H H') (_,_,_,_,_,_,_,_,rfl,Pr H) ?_ ?_
 . rintro i σ O J ⟨p,j,m,o,l,f,h,g,rfl,n⟩;have s:i<8:=J;rw[SJ];symm;subst A;have w:=B.same n;show JR y z U s w.sc F w.X w.nl (n _ _ Y) λC E R I t v r H' M=>(_,C,E,R,I,t,v,r,rfl,n.trans M)
 . rintro σ O ⟨p,j,m,o,l,f,h,g,rfl,n⟩;subst x;show GL y (B.same n) q
def GN{v s l r t f h i:Option V}(p:Nm3 a b u)(j:d.ok .Puzzle=true)(n:∀ k,k≠.Rule->c.ok k=true)(o:ns.length<=63)(B:B75 K H c d e S N T D kd ns a b u (LAB a b P L G P2 L2 G2))(q:∀ H',Q (.bl true) H'):
  pF K c d e (eD9 Q) [↑S,↑N,↑T,↑D,v,none,s,l,r,t,f,h,i] H:=by
 unfold pF;generalize g:pE K c d e=V5;exists(lnR rfl,λW m=>?_);subst g;show GM (W:=W) p j n o (B.same<|(Pr H).laid m) ak q
end
section
variable{K:Frag}{c:TJ}{d:TL}{e:RCl DkK}{H:Hp}{Q:VK}{E:XK}{S N T D kd W:Addr}{ns:∅}{a b u:List Nat}
def  putA(b:d.ok .Puzzle=true)(g:∀ k,k≠.Rule->c.ok k=true)(q:∀ P L G H',Fr74 H H' kd->IsDk H' c d e D kd (putE []<|eA a P L G)->Q (.str<|tx okC) H'):Bk K c d e H Q E D kd [] a tA75:=λj l=>LP b g λP L G m h Y=>(P,L,G,2,2,3,rowsA,clA,rfl,h,Y,λi f X=>q P L G i f X)
def  putB{P L G:Addr}(i:d.ok .Puzzle=true)(j:∀ k,k≠.Rule->c.ok k=true)(q:∀ g L2 h H',Fr74 H H' kd->IsDk H' c d e D kd (putE [eA a P L G]<|eB b g L2 h)->Q (.str<|tx okC) H'):Bk K c d e H Q E D kd [eA a P L G] b tB75:=λn o=>LQ i j λg L2 h p l Y=>(g,L2,h,1,4,5,[rwJ],[0,2,0,0],rfl,l,Y,λm f X=>q g L2 h m f X)
def JT{P L G c L2 d:Addr}(n:a≠b):putE [eA a P L G] (eB b c L2 d)=LAB a b P L G c L2 d:=by
 unfold putE;rw[PF (by simp[n])];rfl
def GO{r F J M I n p o:Option V}(m:Nm3 a b u)(x:d.ok .Puzzle=true)(E:∀ k,k≠.Rule->c.ok k=true)(U:ns.length<=63)(B:B75 K H c d e S N T D kd ns a b u [])(q:∀ H',Q (.bl true) H'):
  pG K c d e (eD9 Q) [↑S,↑N,↑T,↑D,r,none,F,J,M,I,n,p,o] H:=by
 have la:=m.na.2.1;have lb:=m.nb.2.1;have C:tA75.length=37:=rfl;have y:tB75.length=23:=rfl;unfold pG;generalize z:pF K c d e=V4;exists(2,rfl,by decide,by decide,?_);show mT (λi σ H'=>∃(r:Option V) (l:List En),σ=[↑S,↑N,↑T,↑D,r,none,F,J,M,I,n,p,o]/\B75 K H' c d e S N T D kd ns a b u l/\((i=0/\l=[])\/(i=1/\∃ P L G,l=[eA a P L G])\/(i=2/\∃ P L G t s w,l=LAB a b P L G t s w))) (_,[],rfl,B,.inl (rfl,rfl)) ?_ ?_
 . rintro i σ Z Y ⟨r,l,rfl,g,A⟩;have R:i<2:=Y;rw[SJ];obtain⟨W,h1⟩:=g.X.ex;symm;rw[aT];exists(D,.Desk,W,_,rfl,g.X.ok,h1,by rfl,?_);rcases A with ⟨rfl,rfl⟩ | ⟨rfl,P,L,G,rfl⟩ | ⟨rfl,_⟩
   . show ixL g.nl (v:=V.str (tx a)) (aJ (j:=0) rfl) ?_;show kB (a:=s!"puzzle ") (b:=a) (by simp;lia) ?_;show kB (a:=s!"puzzle "++a) (b:=[32]) (by simp;lia) ?_;show ixL g.tl (v:=V.str (tx tA75)) (aJ (j:=0) rfl) ?_;show kB (a:=s!"puzzle "++a++[32]) (b:=tA75) (by simp;lia) ?_;show Ec [[50],[50],[51],[124],s!"unlike",[48],s!"1;",s!"sum",[52],[50],[51],[124],s!"../.."] m.na g.X (by change(0:Nat)<=50;decide) #[1] #[1] #[1] (by rw[C];decide) (putA x E λP L G O f X=>?_);symm;rw[show decide (tx okC=tx s!"ok")=true from rfl];show(_,_,rfl,g.put f X,.inr<|.inl (by trivial,P,L,G,rfl))
   . show ixL g.nl (v:=V.str (tx b)) (aJ (j:=1) rfl) ?_;show kB (a:=s!"puzzle ") (b:=b) (by simp;lia) ?_;show kB (a:=s!"puzzle "++b) (b:=[32]) (by simp;lia) ?_;show ixL g.tl (v:=V.str (tx tB75)) (aJ (j:=1) rfl) ?_;show kB (a:=s!"puzzle "++b++[32]) (b:=tB75) (by simp;lia) ?_;show Ec [[49],[52],[53],[124],s!"joined",[50],[124],s!".2.."] m.nb g.X (by change(1:Nat)<=50;decide) #[1] #[1] #[1] (by rw[y];decide) (putB x E λt s w O f X=>?_);rw[JT m.ab]at X;symm;rw[show decide (tx okC=tx s!"ok")=true from rfl];show(_,_,rfl,g.put f X,.inr<|.inr (by trivial,P,L,G,t,s,w,rfl))
   . lia
 . rintro σ Z ⟨r,l,rfl,g,A⟩;rcases A with ⟨h,_⟩ | ⟨h,_⟩ | ⟨_,P,L,G,t,s,w,rfl⟩
   . show absurd h #[1]
   . show absurd h #[1]
   . subst z;show GN m x E U g q
end
def JU{c:TJ}{D dx kd:Addr}(j:e.ok .Desk=true)(l:H D=none)(m:H dx=none)(n:dx≠D)(f:(upd (upd H dx<|.own D) D<|.ins (e.A .Desk) dx []) kd=none):
  Same H (upd (upd (upd (upd H dx<|.own D) D<|.ins (e.A .Desk) dx []) kd<|.dK []) D<|.ins (e.A .Desk) dx [("kept" ,.ref kd)])/\IsDk (upd (upd (upd (upd H dx<|.own D) D<|.ins (e.A .Desk) dx []) kd<|.dK []) D<|.ins (e.A .Desk) dx [("kept" ,.ref kd)]) c d e D kd []/\H kd=none:=by
 have h:kd≠D:=λz=>by rw[z,ak]at f;cases f
 have nx:kd≠dx:=λz=>by rw[z,ao n,ak]at f;cases f
 have g:H kd=none:=by rw[ao h,ao nx]at f;show f
 show(λb o a=>?_,(j,(dx,ak),?_,λy p=>(nomatch p),by simp),g)
 . have i:b≠D:=λz=>by rw[z,l]at a;cases a
   have k:b≠dx:=λz=>by rw[z,m]at a;cases a
   have q:b≠kd:=λz=>by rw[z,g]at a;cases a
   rw[ao i,ao q,ao i,ao k];show a
 . rw[ao h,ak];rfl
def Lc{c:TJ}:R "'script 'names_here 'texts_here 'desk 'k 'words 'cell 'kind 'some 'texts_told 'due 'row 'at" GJ CF K c d e:=by
 obtain⟨S,ns,rfl,p,n,C,r,g,q⟩:=h;change CF K c d e _ [↑S,none,none,none,none,none,none,none,none,none,none,none,none] H;unfold CF;generalize k:uu K c d e=V1;exists(S,ns,rfl,p,n,λN a b u f t I F B=>?_);subst k;unfold uu;generalize m:ut K c d e=V2;exists(lnR rfl,λT y=>?_);have o:Same f (upd f T<|.lst<|([tA75,tB75].map tx).map V.str):=(Pr f).laid y;have s:(upd f T<|.lst<|([tA75,tB75].map tx).map V.str) T=↥(([tA75,tB75].map tx).map V.str):=ak;change V2 _ _ (upd f T<|.lst<|([tA75,tB75].map tx).map V.str);generalize upd f T (.lst<|([tA75,tB75].map tx).map V.str)=H2 at*;subst m;unfold ut;generalize j:pG K c d e=V3;symm;intro D i G z w;show(D,i,rfl,g,ak,λkd x=>(rfl,?_));obtain⟨l,v,k0⟩:=JU (c:=c) (d:=d) g G z w x;generalize upd (upd (upd (upd H2 i<|.own D) D<|.ins (e.A .Desk) i []) kd<|.dK []) D (.ins (e.A .Desk) i [("kept" ,.ref kd)])=H3 at*;subst j;show GO F r C n (v,((t.trans o).trans l).seq p,(o.trans l) _ _ B,l _ _ s) q
section
variable{M:Model}{A:Around}{E:Value->Shared->Prop}{s:Shared}
def GP {base:Heap} {env:Env} {a:List Env} {L x:Addr} {c a0 fl:Value} {Q:Unit->Shared->Prop} (y:A.frames=some (env::a)) (i:env.frame=some L)
  (w:base.StaysIn s.heap) (j:base.get? x=none) (u:s.heap.FunFrames base (env::a)) (l:s.heap.TracedAtW base x c a0 fl)
  (k:∀ h',Heap.FlyingW base a x c a0 h'->s.heap.UpToSlots h'->Q () {s with heap:=h'}):wpAny M A («leaving» env<|.ref x) Q E s:=by
 by_cases q:(fl==rawInt L)=true
 . have N:fl=rawInt L:=eq_of_beq q;subst N;unfold «leaving»;show PB<|wpAny_noteFrame_againW i l<|wpAny_landsW (L:=L) (w,j,u,l) λh' F B=>?_;show k h' (F.1,F.2.1,F.2.2.1.2.2,F.2.2.2) B
 . obtain⟨O,P,T,R,v,e1,⟨e2,G⟩,t,p,C,I,n,m,g⟩:=l;subst e2;have h:3<v.size:=(RA.mp g).1;have f:∀ b,b≠T->(s.heap.update T<|Obj.mapFields (·.setIfInBounds 3 Value.none)).get? b=s.heap.get? b:=λb e=>QY _ _ λz=>e z.symm
   have r:∀ b o,s.heap.get? b=some o->(∀ vs,o.data≠.fields vs)->b≠T:=λb o e d z=>by
    subst z;rw[n]at e;cases e;show d v m
   unfold «leaving» noteFrame;simp only[i];show PB<|PB<|Tx e1 t p ?_;rw[PK (by simp)];show PB<|Tx n m g ?_;rw[PF q];show PB<|wpAny_setField n m h ?_;show wpAny_newEntryW y (u.of_keeps λb o e d=>(o,(f b<|r b o e d).trans e,rfl)) i ((f x λz=>I z.symm).trans e1) (λb o e=>(f b λz=>?_).trans<|w b o e) j t (RA.mp p).1 G λh' W=>?_
   . rw[z,C]at e;cases e
   . obtain⟨D,J,K,H⟩:=W;show k h' (D,j,J.2.2,K) λb o e d=>H b o ((f b<|r b o e d).trans e) d
end
variable{env:Env}
def JV {P:Program} {w:World} {c:List Env} {H H':Hp} {g s':Shared} {x r C L:Addr} {h':Heap} {fx ex:List Addr}
  (t:s'.os=g.os) (i:AllBare s'.gens) (F:env.frame=some L) (O:g.heap.get? L=none)
  (U:Un (frs (env::c)) fx H H' g.heap s'.heap) (D:∀ b∈fx,g.heap.get? b=none) (s:∀ b∈frs (env::c),H' b=none) (I:HOk P w H' s'.heap)
  (p:∀ b∈ex,g.heap.get? b=none/\H' b=none)
  (d:∀ b o,s'.heap.get? b=some o->b∉frs (env::c)->b∉ex->h'.get? b=some o)
  (slots:∀ b o,s'.heap.get? b=some o->b∈frs (env::c)->∃ v,h'.get? b=some {o with slots:=v})
  (nx:g.heap.get? x=none) (B:H' x=none) (K:g.heap.get? r=none) (M:H' r=none) (N:Tr h' x r C .none):Fly P w c H g x r C H' {s' with heap:=h'}:=by
 have m:∀ b,b∈frs c->b∈frs (env::c):=λb f=>by
  unfold frs at f ⊢;rw[P0,F];show Pm _ f
 have E:∀ b,b∈frs (env::c)->b=L\/b∈frs c:=λb f=>by
  unfold frs at f ⊢;rw[P0,F]at f;show Pw.mp f
 have h:∀ b o,g.heap.get? b=some o->b∉fx:=λb o e z=>by rw[D b z]at e;cases e
 have l:∀ b o,g.heap.get? b=some o->b∉ex:=λb o e z=>by rw[(p b z).1]at e;cases e
 have j:∀ b o,g.heap.get? b=some o->∃ J,h'.get? b=some J:=λb o e=>by
  obtain⟨y,e1⟩:=U.there b o e<|h b o e;by_cases f:b∈frs (env::c)
  . obtain⟨v,e2⟩:=slots b y e1 f;show(_,e2)
  . show(y,d b y e1 f<|l b o e)
 show(t,i,(λb o e n f _=>?_,λb o e n f _=>?_,λb o e n _=>U.free b o e n<|h b o e,λb o e _=>j b o e,U.tups,U.frzs,U.tbls),?_,B,M,nx,K,N)
 . have G:b∉frs (env::c):=λz=>by
    rcases E b z with z | z
    . rw[z,O]at e;cases e
    . show f z
   show d b o (U.keep b o e n G<|h b o e) G (l b o e)
 . obtain⟨v,e1⟩:=U.slot b o e n (m b f)<|h b o e;obtain⟨A,e2⟩:=slots b _ e1<|m b f;show(A,e2)
 . intro a o e;show(I a o e).stay (λb u f q=>?_) (λ_ q=>q) λ_ _ q=>q
   have k:H' b≠none:=by
    rcases f with rfl | f
    . rw[e];simp
    . rw[f];simp
   show d b u q (λz=>k<|s b z) λz=>k (p b z).2
def GQ{h h1 base:Heap}{f:List Addr}:∀{l:List Env},h.FunFrames base l->(∀ b∈frs l,b∈f/\∀ o,h.get? b=some o->b∈frs l->∃ j,h1.get? b=some {o with slots:=j}/\∀ vs,o.data≠.fields vs)->h1.FunFrames (PySem.W.hideAll h f) l:=by
 intro l
 induction l with
 | nil=>intro _ _;trivial
 | cons env r m=>
  rintro⟨k,⟨L,o,g,_,q,s⟩,n⟩ c;have i:L∈frs (env::r):=by unfold frs;rw[P0,g];show Pn
  have a:∀ b∈frs r,b∈frs (env::r):=λb d=>by unfold frs at d ⊢;rw[P0,g];show Pm _ d
  obtain⟨j,e1,p⟩:=(c L i).2 o q i;show(k,(L,_,g,Qh f (c L i).1,e1,p),m n λb d=>((c b<|a b d).1,λo e _=>(c b<|a b d).2 o e<|a b d))
def  GR{scope:Scope}{cl:List (Str × Addr)}{C:Addr}:(xb scope cl C env).frame=env.frame:=rfl
def Fh{e:Value}{a:Env}(h:a.frame=env.frame):noteFrame e a=noteFrame e env:=by
 unfold noteFrame PySem.frameOf;rw[h]
section
variable{P:Program}{w:World}{K:Frag}{mg:Str->Option Value}{base:Heap}{N:List Str}{qual:Str}{scope:Scope}{f:Addr}{cd:Value}{A:Around}{outer:List Env}{s₀:Shared}{H₀:Hp}{E:XK}
def yf{E':XK}{Nb:List Str}{sc:Scope}{cl:List (Str × Addr)}{h:Shared}{H2:Hp}{fp:List Addr}(ai:∀ c d H,E' c d H->E c d H):
  je (CX1 P w) (blkCx (cx1 P w K mg base N qual scope f cd A outer s₀ H₀ E) Nb sc cl h H2 fp) E':=by
 rintro Pc σ H s e g I ⟨x,T,C,D,H',rfl,F,aA,q⟩ ⟨am,σ2,I2,f2⟩;have aa:(A.deeper<|envOfC qual scope s₀.heap.objs.size f cd).frames=some (envOfC qual scope s₀.heap.objs.size f cd::outer):=I2.ok.frames;have G:(envOfC qual scope s₀.heap.objs.size f cd).frame=some s₀.heap.objs.size:=rfl;obtain⟨m,⟨ob,es,ep,lo,ld,lr⟩,_⟩:=I.loc;have n:H (h.heap.objs.size+1)=none:=I.free;have lo:s.heap.get? (h.heap.objs.size+1)=some ob:=lo;have Ub:Un (frs (envOfC qual scope s₀.heap.objs.size f cd::outer)) fp H2 H h.heap s.heap:=I.base;have ao:∀ b∈frs (envOfC qual scope s₀.heap.objs.size f cd::outer),∃ o,h.heap.get? b=some o/\∀ vs,o.data≠.fields vs:=λb a=>(I2.stack.mem a).2;have ad:∀ b∈frs (envOfC qual scope s₀.heap.objs.size f cd::outer),∃ o,s.heap.get? b=some o/\∀ vs,o.data≠.fields vs:=λb a=>(I.stack.mem a).2;have X:∀ b∈frs (envOfC qual scope s₀.heap.objs.size f cd::outer),H b=none:=I.stkFree;have ff:g.heap.FunFrames base (envOfC qual scope s₀.heap.objs.size f cd::outer):=qo I.stack (λb a=>(a,X b a)) F.un;have aF:s₀.heap.objs.size<=h.heap.objs.size:=I2.sz
 have Z:∀ b∈fp,s₀.heap.get? b=none:=λb a=>by
  rcases(f2 b a).2.2.2.1 with z | z
  . show absurd (show b∈([]:List Addr) from z) (by simp)
  . show Qo z
 have U0:Un (frs (envOfC qual scope s₀.heap.objs.size f cd::outer)) fp H₀ H s₀.heap s.heap:=
  (Un.mono (show Un (frs outer) [] H₀ H2 s₀.heap h.heap from I2.base) (λb a=>by unfold frs at a ⊢;rw[P0,G];show Pm _ a) λb z=>absurd z (by simp)).trans Ub
 have U:Un (frs (envOfC qual scope s₀.heap.objs.size f cd::outer)) fp H₀ H' s₀.heap g.heap:=U0.trans (F.un.mono (λ_ a=>a) λb z=>absurd z (by simp))
 have l:∀ b,s.heap.get? b=none->s₀.heap.get? b=none:=λb a=>by
  cases z:s₀.heap.get? b with
  | none=>rfl
  | some o=>
   obtain⟨o1,e1⟩:=U0.there b o z λy=>by rw[Z b y]at z;cases z
   rw[a]at e1;cases e1
 have ap:∀ b∈frs (envOfC qual scope s₀.heap.objs.size f cd::outer),H' b=none:=λb a=>by
  obtain⟨o,e1,_⟩:=ad b a;show F.un.free b o e1 (X b a) (by simp)
 have af:(h.heap.objs.size+1)∉frs (envOfC qual scope s₀.heap.objs.size f cd::outer):=λz=>by
  obtain⟨o,e1,_⟩:=ao _ z;show absurd (PQ e1) (Nat.not_lt.mpr<|RU _)
 have aD:g.heap.get? (h.heap.objs.size+1)=some ob:=F.un.keep _ _ lo n af (by simp);have O:∀ vs,ob.data≠.fields vs:=λvs z=>by rw[ld]at z;cases z
 have S:∀ b∈[x,T,h.heap.objs.size+1],s₀.heap.get? b=none/\H' b=none:=λb a=>by
  simp only[Pw,Qf,Ra]at a;rcases a with rfl | rfl | rfl
  . show(l _ F.nx,F.fx)
  . show(l _ F.nT,F.fT)
  . show(Qo<|Pk aF<|RU _,F.un.free _ _ lo n (by simp))
 obtain⟨oe,vs,oT,ts,a0,he,hc,h0,hd,h1,ak,hT,ar,h3⟩:=F.tr
 have fl:Heap.FlyingW (PySem.W.hideAll g.heap<|frs (envOfC qual scope s₀.heap.objs.size f cd::outer)++[x,T,h.heap.objs.size+1]) (envOfC qual scope s₀.heap.objs.size f cd::outer) x (.ref C) a0 g.heap:=
  (λb o e=>Q0 _ e,Qh _ (by simp),mv ff λb a=>Qi _ a,oe,vs,T,oT,ts,he,(hc,h0),hd,h1,Qh _ (by simp),ak,hT,ar,h3)
 change wpAny (model P w) (A.deeper<|envOfC qual scope s₀.heap.objs.size f cd) (noteFrame (.ref x)<|xb sc cl (h.heap.objs.size+1)<|envOfC qual scope s₀.heap.objs.size f cd) _ _ g;rw[Fh GR];show(tJ _ _).any (wpAny_looks_onW (Q:=λ_ sN=>∃ h4,sN={g with heap:=h4}/\Heap.HeldW (PySem.W.hideAll g.heap<|frs (envOfC qual scope s₀.heap.objs.size f cd::outer)++[x,T,h.heap.objs.size+1]) (envOfC qual scope s₀.heap.objs.size f cd::outer) x (.ref C) a0 s₀.heap.objs.size h4/\g.heap.UpToSlots h4) aa G fl λh4 t B=>(h4,rfl,t,B)) ?_;rintro _ _ ⟨h4,rfl,t,B⟩ aE;obtain⟨aJ,l4⟩:=B _ _ aD O;show(m,(_,es,ep,l4,ld,lr),λk sb aI _=>?_);obtain⟨k1,k2,k3,R,ax,j,ag,aG,b1,b2,b3,b4,b5,b6,b7,b8,b9⟩:=t
 have au:x≠h.heap.objs.size+1:=λz=>by
  rw[z,l4]at b1;cases b1;show O _ b3
 have aw:j≠h.heap.objs.size+1:=λz=>by
  rw[z,l4]at b7;cases b7;show O _ b8
 have c1:k.get? x=some R:=(sb.2 x au).trans b1;have c7:k.get? j=some ag:=(sb.2 j aw).trans b7;have ah:3<aG.size:=(RA.mp b9).1;have L:∀(v:Value) b,b≠j->(k.update j<|Obj.mapFields (·.setIfInBounds 3 v)).get? b=k.get? b:=λv b a=>QY _ _ λz=>a z.symm
 have aq:∀ v:Value,(cx1 P w K mg base N qual scope f cd A outer s₀ H₀ E).xe (.ref x) {g with heap:=k.update j (Obj.mapFields (·.setIfInBounds 3 v))}:=λv=>by
  have t7:(k.update j<|Obj.mapFields (·.setIfInBounds 3 v)).get? j=some (Obj.mapFields (·.setIfInBounds 3 v) ag):=Rr _ c7<|Obj.isFreed_of_fields<|Obj.data_mapFields b8 _;have t1:(k.update j<|Obj.mapFields (·.setIfInBounds 3 v)).get? x=some R:=(L v x λz=>b6 z.symm).trans c1;have ae:∀ b o,(PySem.W.hideAll g.heap<|frs (envOfC qual scope s₀.heap.objs.size f cd::outer)++[x,T,h.heap.objs.size+1]).get? b=some o->b≠j/\b≠h.heap.objs.size+1:=λb o e=>((λz=>by rw[z,b5]at e;cases e),(λz=>by rw[z,Qh _ (by simp)]at e;cases e))
  have i:∀ b o,g.heap.get? b=some o->b∈frs (envOfC qual scope s₀.heap.objs.size f cd::outer)->∃ J,(k.update j<|Obj.mapFields (·.setIfInBounds 3 v)).get? b=some {o with slots:=J}/\∀ vs,o.data≠.fields vs:=λb o e a=>by
   obtain⟨o1,e1,d1⟩:=ad b a;obtain⟨aK,e2⟩:=F.un.slot b o1 e1 (X b a) a (by simp);rw[e]at e2;cases e2;obtain⟨J,e4⟩:=B b _ e d1;show(J,?_,d1);rw[L v b λz=>by rw[z,b7]at e4;cases e4;show d1 _ b8,sb.2 b λz=>af<|z ▸ a];show e4
  change wpAny (model P w) (A.deeper<|envOfC qual scope s₀.heap.objs.size f cd) («leaving» (envOfC qual scope s₀.heap.objs.size f cd)<|.ref x) _ _ _;show(om _ _).any (GP (Q:=λ_ sN=>∃ h6,sN={g with heap:=h6}/\Heap.FlyingW (PySem.W.hideAll g.heap<|frs (envOfC qual scope s₀.heap.objs.size f cd::outer)++[x,T,h.heap.objs.size+1]) outer x (.ref C) a0 h6/\(k.update j<|Obj.mapFields (·.setIfInBounds 3 v)).UpToSlots h6) (base:=PySem.W.hideAll g.heap (frs (envOfC qual scope s₀.heap.objs.size f cd::outer)++[x,T,h.heap.objs.size+1])) (c:=.ref C) (a0:=a0) (fl:=v) aa G (λb o e=>?_) k2 (GQ ff λb a=>(Qi _ a,i b)) (R,ax,j,_,_,t1,b2,b3,b4,b5,b6,t7,Obj.data_mapFields b8 _,by simp[ah]) λh6 M Y=>(h6,rfl,M,Y)) ?_
  . rw[L v b (ae b o e).1,sb.2 b (ae b o e).2];show k1 b o e
  . rintro _ _ ⟨h6,rfl,M,Y⟩ as;obtain⟨g1,g2,g3,al,az,r,aC,av,d1,d2,d3,d4,d5,d6,d7,d8,d9⟩:=M
    have p:∀ b o,g.heap.get? b=some o->b∈frs (envOfC qual scope s₀.heap.objs.size f cd::outer)->∃ J,h6.get? b=some {o with slots:=J}:=λb o e a=>by
     obtain⟨J,e5,d5⟩:=i b o e a;obtain⟨ab,e6⟩:=Y b _ e5 d5;show(ab,e6)
    have aj:∀ o,g.heap.get? r=some o->r∈[x,T,h.heap.objs.size+1]:=λo e=>by
     by_cases z:r∈frs (envOfC qual scope s₀.heap.objs.size f cd::outer)++[x,T,h.heap.objs.size+1]
     . rcases PN.mp z with z | z
       . obtain⟨J,e5,d5⟩:=i r o e z;obtain⟨ab,e6⟩:=p r o e z;rw[d7]at e6;cases e6;show absurd d8 (d5 _)
       . show z
     . rw[Qw _ e z]at d5;cases d5
    show(x,r,C,D,H',rfl,JV (s':=g) (env:=envOfC qual scope s₀.heap.objs.size f cd) (fx:=fp) (ex:=[x,T,h.heap.objs.size+1]) (F.os.trans<|I.os.trans I2.os) F.bare G (Qo<|Py _) U Z ap F.hok S
     (λb o e a hx=>g1 b o<|Qw _ e λz=>(PN.mp z).elim a hx) p (l _ F.nx) F.fx ?_ ?_ (al,az,aC,av,a0,d1,d2.1,d2.2,d3,d4,d6,d7,d8,d9),?_,ai _ _ _ q)
    . cases z:g.heap.get? r with
      | some o=>show(S _<|aj o z).1
      | none=>
       cases y:s₀.heap.get? r with
       | none=>rfl
       | some o=>
        obtain⟨o1,e1⟩:=U.there r o y λu=>by rw[Z _ u]at y;cases y
        rw[z]at e1;cases e1
    . cases z:H' r with
      | none=>rfl
      | some o=>
       obtain⟨u,e1⟩:=(F.hok r o z).ob;rw[(S _<|aj u e1).2]at z;cases z
    . intro d0 ed;obtain⟨o4,q4,r4⟩:=aA.dk aE d0 ed;have q4:h4.get? x=some o4:=q4;rw[b1]at q4;cases q4;obtain⟨o6,q6,r6⟩:=as x _ t1;show(o6,q6,r6.trans r4)
 unfold PySem.passOn;show PB<|Tx (s:={g with heap:=k}) c1 b3 b4 ?_;rw[PF (by simp)];show PB ?_;unfold setFlight;show PB<|Tx (s:={g with heap:=k}) c1 b3 b4 ?_;rw[PK (by simp)];show wpAny_setField (s:={g with heap:=k}) c7 b8 ah (wpAny_throw<|aq _)
end
structure Z5 where
 P:Program
 w:World
 K:Frag
 mg:Str->Option Value
 base:Heap
structure Bt3(Z:Z5):Prop extends Bt2 Z.mg where
 ns:∀{x:Str} {v:Value},nsIn Z.K mainGlobals x=some (some v)->Z.mg x=some v
def  Nn(K:Frag)(b:Str):Prop:=nsIn K mainGlobals b=some none
def  Zn(K:Frag):Prop:=Nn K "len"/\Nn K "abs"/\Nn K "min"/\Nn K "max"/\Nn K "sorted"/\Nn K "any"/\Nn K "isinstance"/\Nn K "list"/\Nn K "int"/\Nn K "bool"/\Nn K "str"/\Nn K "tuple"/\Nn K "reversed"/\Nn K "set"/\Nn K "range"/\Nn K "zip"/\Nn K "all"/\Nn K "sum"/\Nn K "enumerate"
def Ld{Z:Z5}{h:Heap}(X:Z.K.In h)(G:h.Ns mainGlobals Z.mg)(z:Zn Z.K):Bt3 Z:=by
 obtain⟨a,b,c,d,e,f,g,i,j,k,l,m,n,o,p,q,r,s,t⟩:=z;have N:∀{b:Str},Nn Z.K b->Z.mg b=none:=λh=>PySem.W.mg_none_of X G h;show(((N a,N b,N c,N d,N e,N f,N g,N i,N j,N k,N l,N m,N n,N o,N p,N q),N r,N s,N t),λh=>PySem.W.mg_of X G h)
structure De(K:Frag)(x:Str)(st:Stmt):Prop where
 ex:∃(f:Addr) (fd:FuncData),nsIn K mainGlobals x=some ↑f/\Fun K x x st f fd
structure Me(K:Frag)(x qual:Str)(st:Stmt)(f:Addr):Prop where
 ex:∃ fd:FuncData,Fun K x qual st f fd/\isFn K (.ref f)=true
structure ClsP(K:Frag)(x:Str)(A f:Addr):Prop where
 q:nsIn K mainGlobals x=some ↑A
 m1:PySem.W.makesIn K A=true
 m2:findIn K (.ref A) "__init__"=some ↑f
 m4:keepIn K (.ref A)=true
 cl:Cls K A
def  mkC(a h c g e b d f:Addr):TJ:=(λk=>match k with | .Rule=>a | .Unlike=>a | .Sum=>h | .Rising=>c | .Seen=>g | .Count=>e | .Joined=>b | .NoSquare=>d | .Ring=>f,λk=>match k with | .Rule=>false | _=>true)
def  mkD(y:Addr):TL:=(λ_=>y,λ_=>true)
def  At8(K:Frag)(m:Str)(v:Option Value)(d h b g e a c f:Addr):Prop:=findIn K (.ref d) m=some v/\findIn K (.ref h) m=some v/\findIn K (.ref b) m=some v/\findIn K (.ref g) m=some v/\findIn K (.ref e) m=some v/\findIn K (.ref a) m=some v/\findIn K (.ref c) m=some v/\findIn K (.ref f) m=some v
def  C8(K:Frag)(d h b g e a c f:Addr):Prop:=Cls K d/\Cls K h/\Cls K b/\Cls K g/\Cls K e/\Cls K a/\Cls K c/\Cls K f
section
variable{Z:Z5}{K:Frag}{x1 x2 x3 x4 x5 x6 x7 x8 f:Addr}{m:Str}{v:Option Value}
def at8(h:At8 K m v x1 x2 x3 x4 x5 x6 x7 x8)(k:RK):findIn K (.ref<|(mkC x1 x2 x3 x4 x5 x6 x7 x8).A k) m=some v:=by
 obtain⟨a,b,c,d,e,f,g,i⟩:=h;cases k <;> assumption
def c8(h:C8 K x1 x2 x3 x4 x5 x6 x7 x8)(k:RK):Cls K ((mkC x1 x2 x3 x4 x5 x6 x7 x8).A k):=by
 obtain⟨a,b,c,d,e,f,g,i⟩:=h;cases k <;> assumption
def  fk8(C:C8 K x1 x2 x3 x4 x5 x6 x7 x8)(h:At8 K m none x1 x2 x3 x4 x5 x6 x7 x8):FldK K (mkC x1 x2 x3 x4 x5 x6 x7 x8) m:=⟨λk _=>(c8 C k,at8 h k)⟩
variable{N ps:List Str}{k k':Nat}{sp sp':Sp}{t:TS}{x qual:Str}{st:Stmt}
abbrev Hb(Z:Z5)(N:List Str)(qual:Str)(st:Stmt)(f:Addr)(k:Nat)(t:TS):Prop:=∀{b:Value} {A:Around} {a:List Env} {s:Shared} {H:Hp} {E:XK},Room k (A.deeper<|envOfC qual (av st) s.heap.objs.size f b)->(A.deeper<|envOfC qual (av st) s.heap.objs.size f b).units+64<cLine->N.Nodup->PSs (cxOf CX0 Z.P Z.w Z.K Z.mg Z.base N qual (av st) f b A a s H E).nox (c9 st) t
abbrev Rk(N:List Str)(sp:Sp)(t:TS):Prop:=∀{vs H Q E},sp vs H Q E->t (eD9 Q) (start N vs) H
abbrev Ln(ps:List Str)(sp:Sp):Prop:=∀{vs H Q E},sp vs H Q E->vs.length=ps.length
abbrev Bd(x qual:Str)(st:Stmt)(ps:List Str):Prop:=∀(e a c:Value) (f:Option Addr) (g d:Value) (b:List Value),b.length=ps.length->bindArgs (fnOf x qual (gG st) (c9 st) (av st) .none e a c f g d) (b,[])=pure (ps.zip b)
def  okf{f:Addr}{b:FuncData}(F:Fun Z.K x qual st f b)(S:aM N ps (av st))(d:Rk N sp t)(e:Hb Z N qual st f k t)(len:Ln ps sp):FnOk Z.P Z.w Z.K Z.mg Z.base CX0 (k+1) f b ps sp:=F.ok S (λ_ _ _ _ h=>len h) λg A a s H vs Q E c h=>(t,e c c.units S.nd,d h)
local macro_rules | `(tactic| walk_at "l")=>`(tactic| (intro vs H Q E h; (repeat obtain ⟨_,h⟩:=h); subst_vars; rfl))
def zB{α:Type}{us:List α}{n:Nat}(e:us.length=n+1):∃ u t,t.length=n/\us=u::t:=by
 cases us with
 | nil=>cases e
 | cons u t=>show(u,t,Nat.succ.inj e,rfl)
def bd1{a0:Str}(h:∀ d a c g i ct b,bindArgs (fnOf x qual (gG st) (c9 st) (av st) .none d a c g i ct) ([b],[])=pure ([a0].zip [b]):=by intros;rfl):Bd x qual st [a0]:=by
 intro _ _ _ _ _ _ _ e;(iterate 1 (obtain⟨_,_,f,rfl⟩:=zB e;clear e;have e:=f;clear f));cases Qy e;show h ..
def bd2{a0 b:Str}(h:∀ i a g j k ct d c,bindArgs (fnOf x qual (gG st) (c9 st) (av st) .none i a g j k ct) ([d,c],[])=pure ([a0,b].zip [d,c]):=by intros;rfl):Bd x qual st [a0,b]:=by
 intro _ _ _ _ _ _ _ e;(iterate 2 (obtain⟨_,_,f,rfl⟩:=zB e;clear e;have e:=f;clear f));cases Qy e;show h ..
def bd3{a0 b c:Str}(h:∀ k a j l m ct i d g,bindArgs (fnOf x qual (gG st) (c9 st) (av st) .none k a j l m ct) ([i,d,g],[])=pure ([a0,b,c].zip [i,d,g]):=by intros;rfl):Bd x qual st [a0,b,c]:=by
 intro _ _ _ _ _ _ _ e;(iterate 3 (obtain⟨_,_,f,rfl⟩:=zB e;clear e;have e:=f;clear f));cases Qy e;show h ..
def bd4{a0 c d k:Str}(h:∀ m a l n o ct j g i b,bindArgs (fnOf x qual (gG st) (c9 st) (av st) .none m a l n o ct) ([j,g,i,b],[])=pure ([a0,c,d,k].zip [j,g,i,b]):=by intros;rfl):Bd x qual st [a0,c,d,k]:=by
 intro _ _ _ _ _ _ _ e;(iterate 4 (obtain⟨_,_,f,rfl⟩:=zB e;clear e;have e:=f;clear f));cases Qy e;show h ..
def bd5{a0 c d m i:Str}(h:∀ o a n p q ct l j k b g,bindArgs (fnOf x qual (gG st) (c9 st) (av st) .none o a n p q ct) ([l,j,k,b,g],[])=pure ([a0,c,d,m,i].zip [l,j,k,b,g]):=by intros;rfl):Bd x qual st [a0,c,d,m,i]:=by
 intro _ _ _ _ _ _ _ e;(iterate 5 (obtain⟨_,_,f,rfl⟩:=zB e;clear e;have e:=f;clear f));cases Qy e;show h ..
def bd6{a0 c d o i n:Str}(h:∀ q a p r s ct m j l b g k,bindArgs (fnOf x qual (gG st) (c9 st) (av st) .none q a p r s ct) ([m,j,l,b,g,k],[])=pure ([a0,c,d,o,i,n].zip [m,j,l,b,g,k]):=by intros;rfl):Bd x qual st [a0,c,d,o,i,n]:=by
 intro _ _ _ _ _ _ _ e;(iterate 6 (obtain⟨_,_,f,rfl⟩:=zB e;clear e;have e:=f;clear f));cases Qy e;show h ..
local macro_rules | `(tactic| ac_rfl)=>`(tactic| exact ⟨rfl,rfl,rfl,by decide+kernel,rfl,by decide+kernel,by decide+kernel⟩)
def  okc(B:Bt3 Z)(D:De Z.K x st)(d:Rk N sp t)(b:Bd x x st ps)(c:∀{f},Hb Z N x st f k t)(S:aM N ps (av st):=by ac_rfl)(len:Ln ps sp:=by walk_at "l"):Cal Z.P Z.w Z.K Z.mg Z.base (k+1) x ps sp:=
 let ⟨f,e,a,F⟩:=D.ex
 (f,e,okf F S d c len,B.ns a,F.kp,F.binds b)
structure Mo(Z:Z5)(k:Nat)(f:Addr)(ps:List Str)(sp:Sp):Prop where
 ex:∃ fd:FuncData,FnOk Z.P Z.w Z.K Z.mg Z.base CX0 k f fd ps sp/\Binds Z.K fd ps []/\isFn Z.K (.ref f)=true/\keepIn Z.K (.ref f)=true
def  okm(D:Me Z.K x qual st f)(c:Rk N sp t)(b:Bd x qual st ps)(a:Hb Z N qual st f k t)(S:aM N ps (av st):=by ac_rfl)(len:Ln ps sp:=by walk_at "l"):Mo Z (k+1) f ps sp:=
 let ⟨d,F,n⟩:=D.ex
 (d,okf F S c a len,F.binds b,n,F.kp)
def Mo.at{C:Addr}(T:Mo Z k f ps sp)(cl:Cls Z.K C)(a:findIn Z.K (.ref C) m=some ↑f)(d:∀ vs H Q E,sp' vs H Q E->sp vs H Q E)(e:k<=k':=by decide):∃(f:Addr) (c:FuncData),Cls Z.K C/\Meth Z.K C m f/\FnOk Z.P Z.w Z.K Z.mg Z.base CX0 k' f c ps sp'/\Binds Z.K c ps []:=
 let ⟨c,F,b,n,g⟩:=T.ex
 (f,c,cl,(a,n,g),(F.mono e).imp d,b)
def  Mo.mke{C:Addr}(T:Mo Z k f ps sp)(B:Bt3 Z)(c:ClsP Z.K x C f):KCal Z.P Z.w Z.K Z.mg Z.base k x C ps sp:=
 let ⟨a,F,b,n,_⟩:=T.ex
 (f,a,(c.m1,c.m2,n,c.m4),F,B.ns c.q,b)
def  De.of{K:Frag}{f:Addr}{b:FuncData}(a:nsIn K mainGlobals x=some ↑f)(F:Fun K x x st f b):De K x st:=(f,b,a,F)
def  Me.of{K:Frag}{f:Addr}{a:FuncData}(F:Fun K x qual st f a)(n:isFn K (.ref f)=true):Me K x qual st f:=(a,F,n)
structure GT0(K:Frag)(x:Str)(ws:List Str):Prop where
 ex:∃(p:Addr) (o:Obj) (Pf:Array Value) (n:Nat),nsIn K mainGlobals x=some ↑p/\K.lookup p=some o/\o.cls=.type "tuple"/\o.data=.seq Pf n/\Pf.size<=sizeLine/\Vals (ws.map V.str) Pf.toList
def  GT0.mk'{K:Frag}{f:List Str}{p:Addr}{o:Obj}{Pf:Array Value}{n:Nat}(a:nsIn K mainGlobals x=some ↑p)(b:K.lookup p=some o)(c:o.cls=.type "tuple")(d:o.data=.seq Pf n)(e:Pf.size<=sizeLine)(v:Vals (f.map V.str) Pf.toList):GT0 K x f:=(p,o,Pf,n,a,b,c,d,e,v)
def  GT0.of{b:List Str}(g:GT0 Z.K x b)(B:Bt3 Z):GTup Z.K Z.mg x b:=let ⟨p,o,i,n,a,r⟩:=g.ex;(p,o,i,n,B.ns a,r)
structure GD0(w:World)(K:Frag)(x:Str)(D:List (Str × List Str)):Prop where
 ex:∃(p:Addr) (o:Obj) (es:Array DictEntry) (ep:Nat),nsIn K mainGlobals x=some ↑p/\K.lookup p=some o/\o.ExactDict/\o.data=.dict es ep/\DRows w K es.toList D/\(D.map λx=>x.1).Nodup
def  GD0.of{D:List (Str × List Str)}(g:GD0 Z.w Z.K x D)(B:Bt3 Z):GDict Z.w Z.K Z.mg x D:=let ⟨p,o,i,n,a,r⟩:=g.ex;(p,o,i,n,B.ns a,r)
end
section
variable{X:Cx}{a b e:Expr}{ta tb te:TE}{pos pos' p:Pos}{x:Str}{es:List Expr}{t:TA}{ps:List Str}{sp:Sp}{k n:Nat}
def kcal(C:Cal X.prog X.w X.K X.mg X.base k x ps sp)(g:Room n X.A)(d:PA X (e::es) t)(c:k<=n:=by decide)(h:Gl X x:=by show rfl)(a:(x==("__debug__":Str))=false:=by decide)(f:starEach (e::es) X.env=(false ,eval e X.env)::starEach es X.env:=by rfl)(b:(backTo pos<|starEach es X.env).any (·.1)=false:=by rfl):PE X (.Call (.Name x p) (e::es) [] pos) (tCall sp [] E0 t):=FU C g c h d a f b
def kix(d:X.A.units+64<cLine)(c:PE X a ta)(e:PE X b tb)(f:yP b:=by show λ_ _=>rfl):PE X (.Subscript a b pos) (tOp cIx ta tb):=Ex (LX d) c e f
def kset(i:Nat)(a:X.N.Nodup)(c:PE X e te)(b:X.N[i]? =some x:=by show rfl)(f:Loc X.env.scope x:=by show Or.inl rfl)(g:swapsWith e (some<|.Name x pos') pos.line X.env=pure false:=by rfl)(d:X.fn x=true\/X.env.scope.names.lookup x=some .local:=by first | show .inl rfl | show .inr rfl | assumption):PS X (.Assign [.Name x pos'] e pos) (tAsg te<|gName i):=Bm a b f c g d
end
section
variable{Z:Z5}{ps:List Str}{k k':Nat}{sp:Sp}{x:Str}{st:Stmt}
def  Cal.up(C:Cal Z.P Z.w Z.K Z.mg Z.base k x ps sp)(h:k<=k'):Cal Z.P Z.w Z.K Z.mg Z.base k' x ps sp:=
 let ⟨f,d,F,a,b,c⟩:=C.ex
 (f,d,F.mono h,a,b,c)
def  Cal1.up(C:Cal1 Z.P Z.w Z.K Z.mg Z.base k x ps sp)(h:k<=k'):Cal1 Z.P Z.w Z.K Z.mg Z.base k' x ps sp:=
 let ⟨f,d,F,a,b,c⟩:=C.ex
 (f,d,F.mono h,a,b,c)
def  LV(B:Bt3 Z)(D:De Z.K x st)(b:Bd x x st ps)(h:∀{vs H Q E},sp vs H Q E->False):Cal1 Z.P Z.w Z.K Z.mg Z.base k x ps sp:=
 let ⟨f,c,a,F⟩:=D.ex
 (f,c,(λ_ _ _ _ q=>(h q).elim,λ_ _ _ _ _ _ _ _ _ _ _ _ _ q=>(h q).elim),B.ns a,F.kp,F.binds b)
def  calF(B:Bt3 Z)(D:De Z.K x st)(b:Bd x x st ps)(h:∀{vs H Q E},sp vs H Q E->False):Cal Z.P Z.w Z.K Z.mg Z.base k x ps sp:=
 let ⟨f,c,a,F⟩:=D.ex
 (f,c,(λ_ _ _ _ q=>(h q).elim,λ_ _ _ _ _ _ _ _ _ _ _ _ _ q=>(h q).elim),B.ns a,F.kp,F.binds b)
end
section
variable{X:Cx}{e:Expr}{pos p:Pos}{x:Str}{es:List Expr}{t:TA}{ps:List Str}{sp:Sp}{k n:Nat}
def kcaO(C:Cal X.prog X.w X.K X.mg X.base k x ps sp)(g:Room n X.A)(d:PA X (e::es) t)(c:k<=n:=by lia)(h:Gl X x:=by show rfl)(a:(x==("__debug__":Str))=false:=by decide)(f:starEach (e::es) X.env=(false ,eval e X.env)::starEach es X.env:=by rfl)(b:(backTo pos<|starEach es X.env).any (·.1)=false:=by rfl):PE X (.Call (.Name x p) (e::es) [] pos) (tCall sp [] E0 t):=FU C g c h d a f b
end
def  rdXI(C:Addr)(x f:Str):TS:=#[":h:_I'Ma0abf_Jd_K'M0v~oa1d_L"]
def rkXI{C:Addr}{x f:Str}{vs:List V}{H:Hp}{Q:VK}{E:XK}(h:spXI C f vs H Q E):rdXI C x f (eD9 Q) (start ["self","at"] vs) H:=by
 obtain⟨y,a,xs,rfl,b,ea,q⟩:=h;change rdXI C x f _ [↑y,↑a] H;unfold rdXI;rw[aB,cu];unfold tXini sXset;simp only[fY,bN,cZ,cr,cq,w_c,Td,List.getElem?_cons_zero];show(y,.str x,rfl,b,?_);show tF ea λl i=>?_;have j:y≠l:=λe=>by rw[e,i]at b;cases b
 show(y,rfl,by rw[ao j];show b,λg c=>?_);have d:g≠l:=λe=>by rw[e,ak]at c;cases c
 show q l g i (by rw[ao d]at c;show c) (Rt d)
def XCal.of{Z:Z5}{k:Nat}{x:Str}{C D f:Addr}{c:List Str}{a:Str}(B:Bt3 Z)(e:nsIn Z.K mainGlobals x=some ↑C)(X:XD Z.K C D f)(M:Mo Z k f c (spXI C a)):XCal Z.P Z.w Z.K Z.mg Z.base k x C c a:=by
 obtain⟨d,F,b,_⟩:=M.ex;show(D,f,d,X,F,B.ns e,b)
def  mkE(y:Addr):RCl DkK:=(λ_=>y,λ_=>true)
structure Mo1(Z:Z5)(k:Nat)(f:Addr)(ps:List Str)(sp:Sp):Prop where
 ex:∃ fd:FuncData,FnOk Z.P Z.w Z.K Z.mg Z.base (CX1 Z.P Z.w) k f fd ps sp/\Binds Z.K fd ps []/\isFn Z.K (.ref f)=true/\keepIn Z.K (.ref f)=true
section
variable{Z:Z5}{f:Addr}{m x:Str}{ps:List Str}{k k':Nat}{sp sp':Sp}
def Mo1.at{C:Addr}(T:Mo1 Z k f ps sp)(cl:Cls Z.K C)(a:findIn Z.K (.ref C) m=some ↑f)(d:∀ vs H Q E,sp' vs H Q E->sp vs H Q E)(e:k<=k':=by decide):∃(f:Addr) (c:FuncData),Cls Z.K C/\Meth Z.K C m f/\FnOk Z.P Z.w Z.K Z.mg Z.base (CX1 Z.P Z.w) k' f c ps sp'/\Binds Z.K c ps []:=
 let ⟨c,F,b,n,g⟩:=T.ex
 (f,c,cl,(a,n,g),(F.mono e).imp d,b)
def  Mo1.mke{C:Addr}(T:Mo1 Z k f ps sp)(B:Bt3 Z)(c:ClsP Z.K x C f):EK Z.P Z.w Z.K Z.mg Z.base k x C ps sp:=
 let ⟨a,F,b,n,_⟩:=T.ex
 (f,a,(c.m1,c.m2,n,c.m4),F,B.ns c.q,b)
end
structure DeA(K:Frag)(b x:Str)(st:Stmt):Prop where
 ex:∃(f:Addr) (fd:FuncData),nsIn K mainGlobals b=some ↑f/\Fun K x x st f fd
def  DeA.of{K:Frag}{b x:Str}{st:Stmt}{f:Addr}{c:FuncData}(a:nsIn K mainGlobals b=some ↑f)(F:Fun K x x st f c):DeA K b x st:=(f,c,a,F)
section
variable{Z:Z5}{N ps:List Str}{k:Nat}{sp:Sp}{t:TS}{b x:Str}{st:Stmt}
local macro_rules | `(tactic| walk_at "l")=>`(tactic| (intro vs H Q E h; (repeat obtain ⟨_,h⟩:=h); subst_vars; rfl))
local macro_rules | `(tactic| ac_rfl)=>`(tactic| exact ⟨rfl,rfl,rfl,by decide+kernel,rfl,by decide+kernel,by decide+kernel⟩)
end
structure RoomH(k:Nat)(A:Around):Prop where
 dp:A.depth+3*k+5<recursionLimit
 un:A.units+16*k+200<cLine
variable{A:Around}
def  Room.h{k:Nat}{v:Option Value}(r:Room k A):RoomH k (A.mark v):=(r.dp,r.un)
def  RoomH.deeper{k:Nat}(r:RoomH (k+1) A)(env:Env):RoomH k (A.deeper env):=
 (by have:=r.dp;change A.depth+1+3*k+5<_;omega,by have:=r.un;change A.units+3+16*k+200<_;omega)
def  RoomH.mono{j k:Nat}(r:RoomH k A)(h:j<=k):RoomH j A:=(by have:=r.dp;omega,by have:=r.un;omega)
abbrev Ca9(Z:Z5)(k:Nat)(x:Str)(a:List Str)(sp:Sp):Prop:=Cal Z.P Z.w Z.K Z.mg Z.base k x a sp
abbrev cxH(P:Program)(w:World)(K:Frag)(c:Str->Option Value)(base:Heap)(N:List Str)(b:Str)(scope:Scope)(f:Addr)(d:Value)(A:Around)(a:List Env)(s:Shared)(H:Hp)(E:XK):Cx:=
 {cxOf CX0 P w K c base N b scope f d A a s H E with calm:=false,xe:=λ_ _=>False}
structure FnOkH(P:Program)(w:World)(K:Frag)(mg:Str->Option Value)(base:Heap)(k:Nat)(f:Addr)(fd:FuncData)(ps:List Str)(sp:Sp):Prop where
 len:∀ vs H Q E,sp vs H Q E->vs.length=ps.length
 run:∀(A:Around) (outer:List Env) (s:Shared) (H:Hp) (args:Args) (us:List Value) (vs:List V) (Q:VK) (E:XK),RoomH k A->Env0 P w K mg base A outer s H->BindsTo s fd args (ps.zip us)->Vals vs us->sp vs H Q E->
  codeAny (model P w) A (.call (.ref f) args) (CR CX0 outer P w H s Q E) s
variable{P:Program}{mg:Str->Option Value}{base:Heap}
def Fj {w:World} {K:Frag} {N e:List Str} {b:Str} {scope:Scope} {f:Addr} {g:Value} {c:List Env} {s h:Shared} {H:Hp} {E:XK} {us:List Value} {vs:List V}
  (S:aM N e scope) (d:Env0 P w K mg base A c s H) (i:vs.length=e.length) (r:Vals vs us)
  (x:InCallC s s.heap.objs.size (bindL (envOfC b scope s.heap.objs.size f g).kindOf (e.zip us) λ_=>none) (cellsFrom (s.heap.objs.size+1) scope.names []) (bindC (envOfC b scope s.heap.objs.size f g).kindOf (e.zip us) λ_=>none) h):
  Inv (cxH P w K mg base N b scope f g A c s H E) [] (start N vs) H h:=by
 have I:=zQ (CX:=CX0) (A:={A with handled:=none}) (E:=E) S rfl (d.frames,d.mod,d.bs,d.bsz,d.funs,d.frf,d.hok,d.bare) i r x;have a:=I.ok;show((a.mod,a.kind,a.glob,a.blt,a.above,a.inj,a.has,a.cab,(λz=>nomatch z),a.frames,a.stk,a.exf,a.bs,a.bsz,a.noex,a.exfs,a.funs,a.frf),I.os,I.bare,I.base,I.loc,I.cell,I.free,I.freeC,I.pin,I.hok,I.len)
def Fun.okH {w:World} {K:Frag} {x c:Str} {st:Stmt} {f:Addr} {M:FuncData} {N p:List Str} {k:Nat} {sp:Sp} {t:TS} (F:Fun K x c st f M) (S:aM N p (av st)) (len:∀ vs H Q E,sp vs H Q E->vs.length=p.length)
  (g:∀(l:Value) (A:Around) (a:List Env) (s:Shared) (H:Hp) (E:XK),RoomH k (A.deeper<|envOfC c (av st) s.heap.objs.size f l)->
   PSs (cxH P w K mg base N c (av st) f l A a s H E) (c9 st) t)
  (hq:∀ vs H Q E,sp vs H Q E->t (eD9 Q) (start N vs) H):FnOkH P w K mg base (k+1) f M p sp:=by
 obtain⟨oc,od,kV,ab,pm,an,l,ct,aa,rfl,lk,D⟩:=F.ex;show(len,λA a s H R Z vs Q E T m hb r i=>?_);have hl:=len _ _ _ _ i;have O:K.In s.heap:=m.mod.kin.keeps λb o e=>(m.bs b o e).1;have L:s.heap.NoLimit:=m.mod.nolimit.keeps λb o e=>(m.bs b o e).1
 have d:∀ y∈p.zip Z,(av st).names.lookup y.1=some .local\/((av st).names.lookup y.1=some .cell/\((cellsFrom (s.heap.objs.size+1) (av st).names []).lookup y.1).isSome=true):=λ⟨n,v⟩ Y=>by
  rcases S.par n (Sx Y).1 with q | q
  . show .inl q
  . show .inr (q,RY _ _ _<|.inl q)
 have C:A.depth<recursionLimit:=by have:=T.dp;lia
 show Ts C (O _ _ lk) rfl S.co S.gen rfl (PySem.W.codeRec_of O D)<|hb _ _ _ _ ?_;show SO S.kind d λenv U s1 x=>?_;subst U;show(L.keeps x.toInCall.keep,codeAny_func ?_);have X:=g l A a s H E<|T.deeper _;have I:=Fj (P:=P) (w:=w) (E:=E) S m hl r x;show P7 (X [] s1 (start N vs) H _ I<|hq _ _ _ _ i) (λfl G h=>?_) λe G h=>h.elim
 have j:∀{z:St} {H':Hp} {v:V} {u:Value},Inv (cxH P w K mg base N c (av st) f l A a s H E) [] z H' G->RelV v u->Q v H'->CE a P w H s Q u G:=
  λ{z H' v u} J B q=>(v,H',J.os,J.bare,J.base,J.hok,B,q)
 cases fl with
 | ret u=>
  obtain⟨v,z,H',J,B,q⟩:=h;show j J B q
 | next=>
  obtain⟨z,H',J,q⟩:=h;show j (v:=V.non) (u:=Value.none) J rfl q
 | brk=>
  obtain⟨_,_,_,q⟩:=h;show False.elim q
 | cont=>
  obtain⟨_,_,_,q⟩:=h;show False.elim q
structure CalH(P:Program)(w:World)(K:Frag)(mg:Str->Option Value)(base:Heap)(k:Nat)(x:Str)(ps:List Str)(sp:Sp):Prop where
 ex:∃(f:Addr) (fd:FuncData),FnOkH P w K mg base k f fd ps sp/\mg x=↑f/\keepIn K (.ref f)=true/\Binds K fd ps []
section
variable{X:Cx}{e:Expr}{es:List Expr}{pos p:Pos}{x:Str}{t:TA}{ps:List Str}{sp:Sp}{k n:Nat}
def kcalH(C:CalH X.prog X.w X.K X.mg X.base k x ps sp)(J:RoomH n X.A)(o:PA X (e::es) t)(G:k<=n:=by decide)(y:Gl X x:=by show rfl)(g:(x==("__debug__":Str))=false:=by decide)(v:starEach (e::es) X.env=(false ,eval e X.env)::starEach es X.env:=by rfl)(i:(backTo pos<|starEach es X.env).any (·.1)=false:=by rfl):PE X (.Call (.Name x p) (e::es) [] pos) (tCall sp [] E0 t):=by
 obtain⟨f,L,F,D,j,d⟩:=C.ex;intro z s σ H Q I h;show Qz<|jT I y D ?_ g;show QT (h₀:=X.base) I.ok.mod.kin j (thn (o pos z s σ H _ I h) λb l ⟨vs,m,c,r,q⟩=>(c.kIn,?_)) v i;have q:sp (vs++[]) m Q E0:=q;rw[QI]at q;have B:(b++[]).length=ps.length:=by rw[QI,← r.length];show F.len _ _ _ _ q
 have d:=d l b c.kIn B;rw[QI]at d;show Sm (RX (F.run X.A X.stack l m (b,[]) b vs Q E0 (J.mono G) c.env0 d r q) λr M a=>?_)
 cases r with
 | error e=>show False.elim a
 | ok E=>
  cases E with
  | ret u=>show c.after a
  | next=>show False.elim a
  | brk=>show False.elim a
  | cont=>show False.elim a
end
section
variable{Z:Z5}{N ps:List Str}{k:Nat}{sp:Sp}{t:TS}{x:Str}{st:Stmt}
abbrev HbH(Z:Z5)(N:List Str)(a:Str)(st:Stmt)(f:Addr)(k:Nat)(t:TS):Prop:=∀{c:Value} {A:Around} {b:List Env} {s:Shared} {H:Hp} {E:XK},RoomH k (A.deeper<|envOfC a (av st) s.heap.objs.size f c)->(A.deeper<|envOfC a (av st) s.heap.objs.size f c).units+64<cLine->N.Nodup->PSs (cxH Z.P Z.w Z.K Z.mg Z.base N a (av st) f c A b s H E) (c9 st) t
local macro_rules | `(tactic| ac_rfl)=>`(tactic| exact ⟨rfl,rfl,rfl,by decide+kernel,rfl,by decide+kernel,by decide+kernel⟩)
def  okcH(B:Bt3 Z)(D:De Z.K x st)(g:Rk N sp t)(b:Bd x x st ps)(len:Ln ps sp)(i:∀{f},HbH Z N x st f k t)(S:aM N ps (av st):=by ac_rfl):CalH Z.P Z.w Z.K Z.mg Z.base (k+1) x ps sp:=
 let ⟨f,e,a,F⟩:=D.ex
 (f,e,F.okH S (λ_ _ _ _ h=>len h) (λj A c s H E d=>i d (by have:=d.un;omega) S.nd)<|λ_ _ _ _ h=>g h,B.ns a,F.kp,F.binds b)
end
section
variable{K:Frag}{C D N:Addr}{os:List Addr}{x:Str}{a:EA}{c0 cE cN:Value}{dD dE dN:Option Addr}{cd:ClassData}{sl sE sN:Array (Option Value)}{es:Array DictEntry}{n:Nat}
structure CE0(K:Frag)(D:Addr):Prop where
 ex:∃(c0:Value) (dD:Option Addr) (cd:ClassData) (sl:Array (Option Value)) (N:Addr) (cE:Value) (dE:Option Addr) (es:Array DictEntry) (n:Nat) (sE:Array (Option Value)),K.lookup D=some (c0,dD,.cls cd,sl)/\cd.ns=N/\K.lookup N=some (cE,dE,.dict es n,sE)/\n5 es=true
def  CE0.of(a:K.lookup D=some (c0,dD,.cls cd,sl))(b:cd.ns=N)(c:K.lookup N=some (cE,dE,.dict es n,sE))(d:n5 es=true):CE0 K D:=(_,_,_,_,_,_,_,_,_,_,a,b,c,d)
def  CE0.ni(z:CE0 K D):∃ c0 dd cd sl,K.lookup D=some (c0,dd,.cls cd,sl)/\jK K cd.ns=true:=
 let ⟨_,_,_,_,_,_,_,_,_,_,a,b,c,d⟩:=z.ex;(_,_,_,_,a,tK (by rw[b];show c) d)
structure Rf1P(K:Frag)(D C:Addr)(os:List Addr):Prop where
 xc:CE0 K D->XC K C D
 xis:XIs K C
 ve:PySem.W.kitOne K (.ref C) (.type "ValueError")=some true
 ex:PySem.W.exmOne K (.ref C) (.ref D)=some true
 no:∀ y∈os,PySem.W.kitOne K (.ref C) (.ref y)=some false
def  Rf1P.of {nm q:Str} {bs:List Value} {hdct:Bool} {sn:List Str} {sub:List Value} {ab:Bool} {col:Option Bool} {dd:Option Addr} {k0 k1 k2 k3 k5:Option Value}
  (l:K.lookup C=some (excClassObj nm q C N bs (.ref D::VE) hdct sn sub ab col dd k0 k1 k2 k3 k5 "ValueError.__new__")) (m:K.lookup N=some (cN,dN,.dict es n,sN)) (i:n5 es=true)
  (f:XIs K C) (v:PySem.W.kitOne K (.ref C) (.type "ValueError")=some true) (e:PySem.W.exmOne K (.ref C) (.ref D)=some true) (g:∀ y∈os,PySem.W.kitOne K (.ref C) (.ref y)=some false):Rf1P K D C os:=
 (λ⟨_,_,_,_,_,_,_,_,_,_,a,b,c,d⟩=>Lz l m i a b c d,f,v,e,g)
def  Rf1P.to(P:Rf1P K a.ClueError C os)(e:Glb K x C)(c:CE0 K a.ClueError):ag K a x C os:=(e,P.xc c,P.xis,P.ve,P.ex,P.no)
end
local macro_rules | `(tactic| walk_at "l")=>`(tactic| (intro vs H Q E h; (repeat obtain ⟨_,h⟩:=h); subst_vars; rfl))
local macro_rules | `(tactic| ac_rfl)=>`(tactic| exact ⟨rfl,rfl,rfl,by decide+kernel,rfl,by decide+kernel,by decide+kernel⟩)
structure ErrMx(mg:Str->Option Value)(a:EA):Prop where
 ClueError:mg "ClueError"=↑a.ClueError
 NoFloor:mg "NoFloor"=↑a.NoFloor
 NoFilling:mg "NoFilling"=↑a.NoFilling
 NoRule:mg "NoRule"=↑a.NoRule
 NoPuzzle:mg "NoPuzzle"=↑a.NoPuzzle
 TooMany:mg "TooMany"=↑a.TooMany
 NotOne:mg "NotOne"=↑a.NotOne
 NoMove:mg "NoMove"=↑a.NoMove
 NoText:mg "NoText"=↑a.NoText
 NoName:mg "NoName"=↑a.NoName
 NoRow:mg "NoRow"=↑a.NoRow
 BadThought:mg "BadThought"=↑a.BadThought
def  top(i:Nat):Stmt:=PySem.Challenge.pw_cluemaker_k75_a_desk_refuses.main.body.getD i (.Pass (0,0,0,0))
def  mtop(i j:Nat):Stmt:=match top i with
 | .ClassDef _ _ _ a _ _ _ _ _ _ _=>a.getD j (.Pass (0,0,0,0))
 | s=>s
abbrev jc Z:=Ca9 Z 1 "is_whole" ["value"] (fS Z.K)
abbrev gj Z:=Ca9 Z 1 "many_cells" ["floor"] (dC Z.K)
abbrev p7 Z:=Ca9 Z 1 "number_in" ["word"] (jZ Z.K)
abbrev sh Z:=Ca9 Z 1 "bit_of" ["sign"] (mX Z.K)
abbrev si Z:=Ca9 Z 1 "stands" ["mask","sign"] (mW Z.K)
abbrev pH Z:=Ca9 Z 1 "clashes" ["masks"] (j4 Z.K)
abbrev qD Z:=Ca9 Z 1 "clue_strikes" ["clues","cell","sign","more"] (lM Z.K)
abbrev p8 Z:=Ca9 Z 1 "has_parts" ["thought"] (j5 Z.K)
abbrev yg Z:=Ca9 Z 1 "show_row" ["signs"] (pW Z.K)
abbrev sF(Z:Z5):Prop:=Cal1 Z.P Z.w Z.K Z.mg Z.base 1 "read_figure" ["floor","figure"] (iU Z.K)
abbrev mC Z:=Ca9 Z 1 "show_numbers" ["numbers"] (jt Z.K)
abbrev kW(Z:Z5):Prop:=Cal1 Z.P Z.w Z.K Z.mg Z.base 1 "refuse_no_text" ["text"] (eV Z.K)
abbrev pI(Z:Z5):Prop:=Cal1 Z.P Z.w Z.K Z.mg Z.base 1 "thought_texts" ["text"] (gK Z.K)
abbrev yh(Z:Z5):Prop:=Cal1 Z.P Z.w Z.K Z.mg Z.base 1 "words_of" ["row"] (kK Z.K)
abbrev Am Z:=Ca9 Z 1 "is_name" ["word"] (oN Z.K)
abbrev mE Z:=Ca9 Z 1 "_law_cell_at" ["_law_script","_law_k"] (iu Z.K)
abbrev qE Z:=Ca9 Z 1 "_law_no_rows" ["_law_a","_law_b"] (kq Z.K)
abbrev pJ Z:=Ca9 Z 1 "_law_no_names" ["_law_a","_law_u"] (jQ Z.K)
abbrev uv Z:=Ca9 Z 1 "_law_texts" ["_law_a","_law_b","_law_u"] (l8 Z.K)
abbrev pK(Z:Z5):Prop:=CalH Z.P Z.w Z.K Z.mg Z.base 1 "_law_kinds_of" ["_law_e"] (gS Z.K)
abbrev kX Z:=Ca9 Z 2 "is_from_one_to" ["value","most"] (dy Z.K)
abbrev ma(Z:Z5):Prop:=Cal1 Z.P Z.w Z.K Z.mg Z.base 2 "number_within" ["word","least","most"] (fq Z.K)
abbrev uw Z:=Ca9 Z 2 "is_filling" ["floor","filling","least"] (m9 Z.K)
abbrev mn(Z:Z5)(c:TJ)(d:TL):Prop:=Cal1 Z.P Z.w Z.K Z.mg Z.base 2 "refuse_many_signs" ["puzzle"] (cX Z.K c d)
abbrev vV Z:=Ca9 Z 2 "full_mask" ["floor"] (oP Z.K)
abbrev An Z:=Ca9 Z 2 "without" ["mask","sign"] (rF Z.K)
abbrev ux Z:=Ca9 Z 2 "is_cell" ["floor","value"] (nU Z.K)
abbrev Ao Z c:=Ca9 Z 2 "goes_by" ["kind","rule"] (rK Z.K c)
abbrev CH Z c:=Ca9 Z 2 "others" ["rule","cell"] (tS Z.K c)
abbrev qG Z:=Ca9 Z 2 "is_supposing" ["thought"] (iy Z.K)
abbrev yi Z:=Ca9 Z 2 "supposed" ["masks","cell","sign"] (nj Z.K)
abbrev mF Z:=Ca9 Z 2 "show_filling" ["floor","filling"] (js Z.K)
abbrev yj(Z:Z5):Prop:=Cal1 Z.P Z.w Z.K Z.mg Z.base 2 "read_row" ["floor","row"] (kI Z.K)
abbrev j8(Z:Z5):Prop:=Cal1 Z.P Z.w Z.K Z.mg Z.base 2 "read_numbers" ["words"] (dz Z.K)
abbrev uy Z:=Ca9 Z 2 "_law_names" ["_law_script"] (l6 Z.K)
abbrev sj(Z:Z5):Prop:=Cal1 Z.P Z.w Z.K Z.mg Z.base 3 "floor_of" ["high","wide","signs"] (jh Z.K)
abbrev qH(Z:Z5):Prop:=Cal1 Z.P Z.w Z.K Z.mg Z.base 3 "first_within" ["words","least","most"] (fH Z.K)
abbrev uz(Z:Z5):Prop:=Cal1 Z.P Z.w Z.K Z.mg Z.base 3 "told_cells" ["floor","words"] (jx Z.K)
abbrev Ap(Z:Z5)(c:TJ):Prop:=Cal1 Z.P Z.w Z.K Z.mg Z.base 3 "rule_by" ["floor","words","cells","amount","mark"] (lT Z.K c)
abbrev pL(Z:Z5):Prop:=Cal1 Z.P Z.w Z.K Z.mg Z.base 3 "checked_clues" ["floor","clues"] (gP Z.K)
abbrev Ed(Z:Z5)(c:TJ)(d:TL):Prop:=Cal1 Z.P Z.w Z.K Z.mg Z.base 3 "alike" ["one","other"] (lY Z.K c d)
abbrev GS Z:=Ca9 Z 3 "full" ["floor"] (zn Z.K)
abbrev yk Z:=Ca9 Z 3 "has_only" ["mask","sign"] (pU Z.K)
abbrev uA Z:=Ca9 Z 3 "is_sign" ["floor","value"] (nX Z.K)
abbrev qI Z c d:=Ca9 Z 3 "has_its_rule" ["puzzle","kind","number","cell"] (lJ Z.K c d)
abbrev j9(Z:Z5):Prop:=Cal1 Z.P Z.w Z.K Z.mg Z.base 3 "read_filling" ["floor","text"] (dA Z.K)
abbrev sG Z c d:=Ca9 Z 3 "show_puzzle" ["puzzle"] (mx Z.K c d)
abbrev uB(Z:Z5):Prop:=Cal1 Z.P Z.w Z.K Z.mg Z.base 3 "read_plain" ["text"] (ju Z.K)
abbrev pM(Z:Z5):Prop:=Cal1 Z.P Z.w Z.K Z.mg Z.base 4 "cells_of_rows" ["floor","name","words"] (kF Z.K)
abbrev pN(Z:Z5):Prop:=Cal1 Z.P Z.w Z.K Z.mg Z.base 4 "checked_floor" ["floor"] (gN Z.K)
abbrev vW Z c d:=Ca9 Z 4 "is_formed" ["puzzle","thought"] (oA Z.K c d)
abbrev qJ Z c:=Ca9 Z 4 "only_strikes" ["rule","masks","cell","sign","more"] (lO Z.K c)
abbrev ib Z c d:=Ca9 Z 4 "strikes_on_floor" ["puzzle","thought"] (db Z.K c d)
abbrev uC(Z:Z5):Prop:=Cal1 Z.P Z.w Z.K Z.mg Z.base 4 "read_floor" ["text"] (jB Z.K)
abbrev vX(Z:Z5)(c:TJ)(d:TL):Prop:=Cal1 Z.P Z.w Z.K Z.mg Z.base 4 "tell_hint" ["puzzle","text"] (fe Z.K c d)
abbrev uD(Z:Z5)(c:TJ)(d:TL):Prop:=Cal1 Z.P Z.w Z.K Z.mg Z.base 4 "tell_wrong" ["puzzle","text"] (jE Z.K c d)
abbrev uE(Z:Z5)(c:TJ)(d:TL):Prop:=Cal1 Z.P Z.w Z.K Z.mg Z.base 4 "tell_alike" ["one","other"] (dn Z.K c d)
abbrev Aq Z c d:=Ca9 Z 4 "tell_of" ["puzzle","word"] (rV Z.K c d)
abbrev vY(Z:Z5)(c:TJ):Prop:=Cal1 Z.P Z.w Z.K Z.mg Z.base 5 "read_rule" ["floor","line"] (j2 Z.K c)
abbrev nN Z c d:=Ca9 Z 5 "strikes_by_line" ["puzzle","masks","thought"] (fL Z.K c d)
abbrev lj Z c d:=Ca9 Z 5 "is_formed_supposing" ["puzzle","thought"] (gh Z.K c d)
abbrev oW Z c d:=Ca9 Z 5 "is_passed_over" ["puzzle","masks","thought"] (jp Z.K c d)
abbrev lm Z c d:=Ca9 Z 5 "strikes_what_stands" ["puzzle","masks","thought"] (gf Z.K c d)
abbrev uF(Z:Z5)(c:TJ):Prop:=Cal1 Z.P Z.w Z.K Z.mg Z.base 6 "read_rules" ["floor","lines"] (jz Z.K c)
abbrev Ar Z c d:=Ca9 Z 6 "strikes" ["puzzle","masks","thought"] (oE Z.K c d)
abbrev As Z c d:=Ca9 Z 7 "allowed" ["puzzle","masks","thought"] (lQ Z.K c d)
abbrev sk Z c d n:=Ca9 Z (1*n+7) "fault_in" ["puzzle","masks","thought"] (fG Z.K c d n)
abbrev sH(Z:Z5)(c:TJ)(d:TL):Prop:=Cal1 Z.P Z.w Z.K Z.mg Z.base 10 "follow_from" ["puzzle","masks","book"] (i5 Z.K c d)
abbrev sI(Z:Z5)(c:TJ)(d:TL):Prop:=Cal1 Z.P Z.w Z.K Z.mg Z.base 10 "read_puzzle" ["text"] (bC Z.K c d)
abbrev CI(Z:Z5)(c:TJ)(d:TL):Prop:=Cal1 Z.P Z.w Z.K Z.mg Z.base 11 "follow" ["puzzle","book"] (mR Z.K c d)
abbrev oX(Z:Z5)(n:Nat):Prop:=Cal1 Z.P Z.w Z.K Z.mg Z.base (3*n+4) "read_supposing" ["text","depth"] (gq Z.K n)
abbrev qK(Z:Z5)(n:Nat):Prop:=Cal1 Z.P Z.w Z.K Z.mg Z.base (3*n+5) "read_thought" ["text","depth"] (il Z.K n)
abbrev oY(Z:Z5)(n:Nat):Prop:=Cal1 Z.P Z.w Z.K Z.mg Z.base (3*n+3) "read_inner" ["text","depth"] (dl Z.K n)
abbrev vZ(Z:Z5):Prop:=Cal1 Z.P Z.w Z.K Z.mg Z.base 55 "read_book" ["text"] (j0 Z.K)
abbrev qL(Z:Z5)(c:TJ)(d:TL):Prop:=Cal1 Z.P Z.w Z.K Z.mg Z.base 56 "tell_checked" ["puzzle","text"] (fJ Z.K c d)
abbrev qM(Z:Z5)(c:TJ)(d:TL):Prop:=Cal1 Z.P Z.w Z.K Z.mg Z.base 57 "tell_by_text" ["puzzle","word","text"] (cQ Z.K c d)
abbrev uG(Z:Z5)(c:TJ)(d:TL)(e:RCl DkK):Prop:=Ca9 Z 59 "_law_marks" ["_law_desk","_law_row"] (lZ Z.K c d e)
abbrev Ee(Z:Z5)(c:TJ)(d:TL):Prop:=rD Z.P Z.w Z.K Z.mg Z.base d d.ok 9 "clued" ["self","clues"] (rT Z.K c d)
abbrev zC(Z:Z5)(c:TJ)(d:TL):Prop:=MCal Z.P Z.w Z.K Z.mg Z.base d d.ok 1 "clues" ["self"] (rA Z.K c d)
abbrev GT(Z:Z5)(c:TJ)(d:TL)(e:RCl DkK):Prop:=MCal Z.P Z.w Z.K Z.mg Z.base e e.ok 1 "drop" ["self","name"] (zm Z.K c d e)
abbrev GU(Z:Z5)(c:TJ):Prop:=MCal Z.P Z.w Z.K Z.mg Z.base c c.ok 1 "line" ["self"] (vb Z.K c)
abbrev zD(Z:Z5)(c:TJ)(d:TL):Prop:=MCal Z.P Z.w Z.K Z.mg Z.base d d.ok 2 "lines" ["self"] (rC Z.K c d)
abbrev GV(Z:Z5)(c:TJ):Prop:=MCal Z.P Z.w Z.K Z.mg Z.base c c.ok 1 "name" ["self"] (yV Z.K c)
abbrev Ef(Z:Z5)(c:TJ)(d:TL)(e:RCl DkK):Prop:=rD Z.P Z.w Z.K Z.mg Z.base e e.ok 1 "named" ["self","name"] (nY Z.K c d e)
abbrev jn(Z:Z5)(c:TJ)(d:TL):Prop:=MCal Z.P Z.w Z.K Z.mg Z.base d d.ok 1 "place" ["self"] (ie Z.K c d)
abbrev Iw(Z:Z5)(c:TJ)(d:TL)(e:RCl DkK):Prop:=rD Z.P Z.w Z.K Z.mg Z.base e e.ok 11 "put" ["self","name","text"] (rX Z.K c d e)
abbrev zE(Z:Z5)(c:TJ)(d:TL):Prop:=MCal Z.P Z.w Z.K Z.mg Z.base d d.ok 1 "rules" ["self"] (rB Z.K c d)
abbrev Fk(Z:Z5)(c:TJ)(d:TL)(e:RCl DkK):Prop:=rD Z.P Z.w Z.K Z.mg Z.base e e.ok 58 "say" ["self","row"] (i7 Z.K c d e)
abbrev zF(Z:Z5)(c:TJ):Prop:=MCal Z.P Z.w Z.K Z.mg Z.base c c.ok 1 "spots" ["self"] (rz Z.K c)
abbrev pO(Z:Z5)(x:Str)(C:Addr)(c:TJ)(d:TL)(e:RCl DkK):Prop:=KCal Z.P Z.w Z.K Z.mg Z.base 1 x C ["self"] (iX Z.K c d e)
abbrev kx(Z:Z5)(x:Str)(C:Addr)(c:TJ)(d:TL):Prop:=EK Z.P Z.w Z.K Z.mg Z.base 7 x C ["self","floor","lines","clues"] (bU Z.K c d)
abbrev be(Z:Z5)(x:Str)(C:Addr)(c:TJ):Prop:=KCal Z.P Z.w Z.K Z.mg Z.base 1 x C ["self","floor","words","cells","amount","mark"] (bn Z.K c)
section
variable{Z:Z5}(Bz:Bt3 Z)
include Bz
set_option maxHeartbeats 4000000
abbrev Le:=top 188
abbrev JW:=top 195
abbrev ym:=top 17
def Df:J "is_whole" ym jc:=C6 bd1 #[";hjxAVeWXa0aY.vZ~*e~s~tedB~DAVeWXa0aY.vZ~+e~-~/ed"]
abbrev uH:=top 20
def A2:J "many_cells" uH gj:=AH bd1 #[";hjc*ng0kng0k"]
abbrev pP:=mtop 29 0
def wO{c:TJ}(NS:FldK Z.K c "amount")(ML:FldK Z.K c "cells")(N0:FldK Z.K c "floor")(Oa:FldK Z.K c "mark")(Mr:FldK Z.K c "words"){f:Addr}(D:Me Z.K "__init__" "Rule.__init__" pP f):Mo Z 1 f ["self","floor","words","cells","amount","mark"] (bn Z.K c):=okm D wC bd6 #[";i[01~:i[0P~Ee~g~ha2d~ui[0P~Ee~g~ha3d~Fi[04~;h[05~?"]
abbrev v3:=mtop 29 1
def CJ{c:TJ}(Mr:FldK Z.K c "words"){f:Addr}(D:Me Z.K "name" "Rule.name" v3 f):Mo Z 1 f ["self"] (tN Z.K c):=okm D BY bd1 #[";hjng+0~uk"]
abbrev uI:=mtop 29 2
def A3{c:TJ}(ML:FldK Z.K c "cells"){f:Addr}(D:Me Z.K "spots" "Rule.spots" uI f):Mo Z 1 f ["self"] (sB Z.K c):=okm D AI bd1 #[";hjP~ve]^a+0~Fd"]
abbrev wb:=mtop 29 5
def CK{c:TJ}(Mr:FldK Z.K c "words"){f:Addr}(D:Me Z.K "line" "Rule.line" wb f):Mo Z 1 f ["self"] (tO Z.K c):=okm D BZ bd1 #[";hjQ-/:~cba+0~ud"]
abbrev wc:=top 46
def CL{t_FIGURES_rows:Tok}(M4:Z.mg "FIGURES_rows"=some (.str (tx s!"0123456789") t_FIGURES_rows)){t_MOST_FIGURES:Tok}(M5:Z.mg "MOST_FIGURES"=some (.int 9 t_MOST_FIGURES)):J "number_in" wc p7:=y7 bd1 #[";iv;Kyzg0bpqKy~[AReLMa0d`0pq~a;~]yzgng0kbpq~^ySg0bpqhj?wivFCA~iee~j~kaH.x&-- `1Ie%eeee~G0$D.i#1 @`1eEe$N$u~dg1`2`3dhj?whjP'ae~s~ta0d",(aW rfl M5 (t_MOST_FIGURES,rfl)),[".0","figure"],(aW rfl M4 (t_FIGURES_rows,rfl)),(by with_unfolding_all rfl)]
abbrev qO:=mtop 60 1
def yn{c:TJ}{d:TL}(Mm:FldK Z.K d "floor"){f:Addr}(D:Me Z.K "place" "Puzzle.place" qO f):Mo Z 1 f ["self"] (pw Z.K c d):=okm D xp bd1 #[";hj+0'b"]
abbrev qP:=mtop 60 3
def yo{c:TJ}{d:TL}(MM:FldK Z.K d "given"){f:Addr}(D:Me Z.K "clues" "Puzzle.clues" qP f):Mo Z 1 f ["self"] (px Z.K c d):=okm D xq bd1 #[";hjP~ve]^a+0'cd"]
abbrev qQ:=mtop 60 4
def yp{c:TJ}{d:TL}(My:FldK Z.K d "laws"){f:Addr}(D:Me Z.K "rules" "Puzzle.rules" qQ f):Mo Z 1 f ["self"] (pA Z.K c d):=okm D xt bd1 #[";hjP~ve]^a+0~Hd"]
abbrev CM:=top 93
def GW:J "bit_of" CM sh:=Gj bd1 #[";io#1 mki~l~me~ne~oac~p0kdD.i#2 meEeho#1 mc*1khj1"]
abbrev CN:=top 96
def GX:J "stands" CN si:=Gi bd2 #[";hjxuOk1pqxuO1'd'e'f'g'h0pqBuzgc~ec'i0c~p1kkkpq"]
abbrev Au:=top 101
def Fl:J "clashes" Au pH:=E6 bd1 #[";hju~dgk0`0",(by with_unfolding_all rfl)]
abbrev qS:=top 121
def yq:J "clue_strikes" qS qD:=xA bd4 #[";hjxuzg3sdpqxuSgng01kpqBuSgng012pq"]
abbrev we:=top 154
def CO:J "has_parts" we p8:=zp bd1 #[";hjxAVeWXa0aY.vZ~Ie~g~hedBuzgAReLMa0dkpq"]
abbrev yr:=top 166
def Dg{t_FIGURES_fillings:Tok}(Mj:Z.mg "FIGURES_fillings"=some (.str (tx s!".123456") t_FIGURES_fillings)):J "show_row" yr yg:=C9 bd1 #[";hjQ-/:~JbaH.x&-- `0Ie%eeee~f0$D.i#1 @`0eEe$N$ng`11d",[".0","sign"],(aW rfl Mj (t_FIGURES_fillings,rfl))]
abbrev nA:=top 168
def zG{b:Tok}(r:Z.mg "FIGURES_fillings"=some (.str (tx s!".123456") b)){a:EA}(x:ErrMx Z.mg a)(n:ag Z.K a "NoRow" a.NoRow (aV a))(m:ag Z.K a "NoName" a.NoName (aO a))(g:ag Z.K a "NoText" a.NoText (aP a))(e:ag Z.K a "NoFloor" a.NoFloor (aK a))(i:ag Z.K a "NoRule" a.NoRule (aQ a))(c:ag Z.K a "NoFilling" a.NoFilling (aC a))(d:ag Z.K a "NoPuzzle" a.NoPuzzle (aG a))(l:ag Z.K a "TooMany" a.TooMany (aL a))(k:cY Z.K a "BadThought" a.BadThought (az a))(j:XCal Z.P Z.w Z.K Z.mg Z.base 1 "BadThought" a.BadThought ["self","at"] "at")(D:De Z.K "read_figure" nA):sF Z:=by
 obtain⟨f,t,y,F⟩:=D.ex;have p:aM ["floor","figure","sign"] ["floor","figure"] (av nA):=by ac_rfl
 show(f,t,F.ok1 p (λvs H Q E h=>wF h)<|λz A o s H vs Q E v h=>?_,Bz.ns y,F.kp,F.binds bd2);have u:=v.units;have q:=p.nd;show(iV Z.K a E,?_,wG e i d g c h)
 show(ad (kset 2 q<|cm PH PySem.F.slot_str_find PySem.F.type_str_find Hi (aW rfl r (b,rfl))<|aa (pv 1) ac)
   (ad (aA (SW<|ii (ax qk (pv 2) ai<|aw _)<|jd<|ax oh (pv 2) (kix u (pv 0) ai)<|aw _) (af<|ba c.xc rfl x.NoFilling<|aa ae ac) ar)
   (af<|am<|pv 2)))
abbrev qT:=top 217
def yt:J "show_numbers" qT mC:=xD bd1 #[";hjQ-/:~cbaH.x&-- `0Ie%eeee'j0$D.i#1 @`0eEe$N$P'ke'l'ma1dd",[".0","number"]]
abbrev kY:=top 219
def vF{a:EA}(r:ErrMx Z.mg a)(m:ag Z.K a "NoRow" a.NoRow (aV a))(k:ag Z.K a "NoName" a.NoName (aO a))(b:ag Z.K a "NoText" a.NoText (aP a))(j:ag Z.K a "NoFloor" a.NoFloor (aK a))(l:ag Z.K a "NoRule" a.NoRule (aQ a))(e:ag Z.K a "NoFilling" a.NoFilling (aC a))(g:ag Z.K a "NoPuzzle" a.NoPuzzle (aG a))(i:ag Z.K a "TooMany" a.TooMany (aL a))(d:cY Z.K a "BadThought" a.BadThought (az a))(c:XCal Z.P Z.w Z.K Z.mg Z.base 1 "BadThought" a.BadThought ["self","at"] "at")(D:De Z.K "refuse_no_text" kY):kW Z:=by
 obtain⟨f,p,t,F⟩:=D.ex;have o:aM ["text"] ["text"] (av kY):=by ac_rfl
 show(f,p,F.ok1 o (λvs H Q E h=>sK h)<|λy A n s H vs Q E q h=>?_,Bz.ns t,F.kp,F.binds bd1);have x:=q.units;have u:=o.nd;show(gp Z.K a E,?_,sL b h);show(af<|aA (cj<|bv<|aD dB rfl Bz.isinstance_ aN<|aa (pv 0)<|aa (fU (v:=.ty "str") rfl Bz.str_ ql rfl) ac) (af<|ba b.xc rfl r.NoText<|aa ae ac) ar)
abbrev md:=top 225
def wP{b:Tok}(t:Z.mg "BETWEEN_ROWS"=some (.str (tx s!"; ") b)){a:EA}(y:ErrMx Z.mg a)(p:ag Z.K a "NoRow" a.NoRow (aV a))(n:ag Z.K a "NoName" a.NoName (aO a))(c:ag Z.K a "NoText" a.NoText (aP a))(l:ag Z.K a "NoFloor" a.NoFloor (aK a))(o:ag Z.K a "NoRule" a.NoRule (aQ a))(g:ag Z.K a "NoFilling" a.NoFilling (aC a))(j:ag Z.K a "NoPuzzle" a.NoPuzzle (aG a))(k:ag Z.K a "TooMany" a.TooMany (aL a))(e:cY Z.K a "BadThought" a.BadThought (az a))(d:XCal Z.P Z.w Z.K Z.mg Z.base 1 "BadThought" a.BadThought ["self","at"] "at")(D:De Z.K "thought_texts" md):pI Z:=by
 obtain⟨f,v,z,F⟩:=D.ex;have u:aM ["text","found","held","unclosed","piece"] ["text"] (av md):=by ac_rfl
 show(f,v,F.ok1 u (λvs H Q E h=>tU h)<|λB A q s H vs Q E x h=>?_,Bz.ns z,F.kp,F.binds bd1);have r:=x.units;have m:=u.nd;show(gL Z.K a E,?_,tV c h)
 show(ad (kset 1 m<|aE ac)
   (ad (kset 2 m<|aE ac)
   (ad (kset 3 m ai)
   (ad (kz Sh rfl (fV<|cm PH Qq Qr gI (pv 0)<|aa (aW rfl t (b,rfl)) ac) (bj (i:=4) m rfl<|Or.inl rfl)
   (ad (ji<|cm Rl RG RH ri (pv 2)<|aa (pv 4) ac)
   (ad (kset 3 m<|aj n4 (aj ah (pv 3)<|cm PH Tm Tn xx (pv 4)<|aa ae ac)<|cm PH Tm Tn xx (pv 4)<|aa ae ac)
   (af<|aA (ax (aY r) (pv 3) ai<|aw _) (ad (ji<|cm Rl RG RH ri (pv 1)<|aa (cm PH Qu Qv wr (aW rfl t (b,rfl))<|aa (pv 2) ac) ac)
   (af<|kset 2 m<|aE ac)) ar))))
   (ad (aA (ax (cW r) (pv 2) (aE ac)<|aw _) (af<|ba c.xc rfl y.NoText<|aa ae ac) ar)
   (af<|am<|pv 1))))))
abbrev so:=top 237
def Dh(x:GTup Z.K Z.mg "WITH_NAME" dm)(y:GTup Z.K Z.mg "WITH_TEXT" ft)(r:GTup Z.K Z.mg "WITH_TWO_NAMES" iw){a:EA}(q:ErrMx Z.mg a)(b:ag Z.K a "NoRow" a.NoRow (aV a))(m:ag Z.K a "NoName" a.NoName (aO a))(l:ag Z.K a "NoText" a.NoText (aP a))(k:ag Z.K a "NoFloor" a.NoFloor (aK a))(n:ag Z.K a "NoRule" a.NoRule (aQ a))(e:ag Z.K a "NoFilling" a.NoFilling (aC a))(g:ag Z.K a "NoPuzzle" a.NoPuzzle (aG a))(i:ag Z.K a "TooMany" a.TooMany (aL a))(d:cY Z.K a "BadThought" a.BadThought (az a))(c:XCal Z.P Z.w Z.K Z.mg Z.base 1 "BadThought" a.BadThought ["self","at"] "at")(D:De Z.K "words_of" so):yh Z:=by
 obtain⟨f,u,B,F⟩:=D.ex;have p:aM ["row","words"] ["row"] (av so):=by ac_rfl
 show(f,u,F.ok1 p (λvs H Q E h=>AS h)<|λC A o s H vs Q E z h=>?_,Bz.ns B,F.kp,F.binds bd1);have j:=z.units;have t:=p.nd;show(kL Z.K a E,?_,AT b h)
 show(ad (aA (cj<|bv<|aD dB rfl Bz.isinstance_ aN<|aa (pv 0)<|aa (fU (v:=.ty "str") rfl Bz.str_ ql rfl) ac) (af<|ba b.xc rfl q.NoRow<|aa ae ac) ar)
   (ad (kset 1 t<|cm PH Qq Qr gI (pv 0)<|aa ae ac)
   (ad (aA (SW<|wY (lD y (kix j (pv 1) ai) rfl)<|uQ<|ax FS (aD br rfl Bz.len_ ck<|aa (pv 1) ac) ai<|aw _) (af<|am<|aE<|aa (kix j (pv 1) ai)<|aa (kix j (pv 1) ai)<|aa (cm PH Qu Qv lf ae<|aa (iM nR (pv 1) (jl ai) le) ac) ac) ar)
   (ad (aA (SW<|wY (lD x (kix j (pv 1) ai) rfl)<|uQ<|ax (aY j) (aD br rfl Bz.len_ ck<|aa (pv 1) ac) ai<|aw _) (af<|am<|pv 1) ar)
   (ad (aA (SW<|wY (lD r (kix j (pv 1) ai) rfl)<|uQ<|ax (aY j) (aD br rfl Bz.len_ ck<|aa (pv 1) ac) ai<|aw _) (af<|am<|pv 1) ar)
   (af<|ba b.xc rfl q.NoRow<|aa ae ac))))))
abbrev Av:=top 238
def Fm{t_LETTERS:Tok}(Ob:Z.mg "LETTERS"=some (.str (tx s!"abcdefghijklmnopqrstuvwxyz") t_LETTERS)){t_MOST_LETTERS:Tok}(M6:Z.mg "MOST_LETTERS"=some (.int 8 t_MOST_LETTERS)):J "is_name" Av Am:=Cz bd1 #[";hjxuOkAReLMa0dpqxuOAReLMa0d`0pqBA~iee~j~kaH.x&-- `1Ie%eeee~G0$D.i#1 @`1eEe$N$u~dg1`2`3d",(aW rfl M6 (t_MOST_LETTERS,rfl)),[".0","letter"],(aW rfl Ob (t_LETTERS,rfl)),(by with_unfolding_all rfl)]
abbrev pQ:=mtop 249 0
def wQ{c:TJ}{d:TL}{e:RCl DkK}(Ml:FldK Z.K e "kept"){f:Addr}(D:Me Z.K "__init__" "Desk.__init__" pQ f):Mo Z 1 f ["self"] (iX Z.K c d e):=okm D wJ bd1 #[";h[0'n'o"]
abbrev oZ:=mtop 249 2
def A4{c:TJ}{d:TL}{e:RCl DkK}(u:FldK Z.K e "kept"){a:EA}(z:ErrMx Z.mg a)(p:ag Z.K a "NoRow" a.NoRow (aV a))(b:ag Z.K a "NoName" a.NoName (aO a))(n:ag Z.K a "NoText" a.NoText (aP a))(m:ag Z.K a "NoFloor" a.NoFloor (aK a))(o:ag Z.K a "NoRule" a.NoRule (aQ a))(j:ag Z.K a "NoFilling" a.NoFilling (aC a))(k:ag Z.K a "NoPuzzle" a.NoPuzzle (aG a))(l:ag Z.K a "TooMany" a.TooMany (aL a))(i:cY Z.K a "BadThought" a.BadThought (az a))(g:XCal Z.P Z.w Z.K Z.mg Z.base 1 "BadThought" a.BadThought ["self","at"] "at"){f:Addr}(D:Me Z.K "named" "Desk.named" oZ f):Mo1 Z 1 f ["self","name"] (lW Z.K c d e):=by
 obtain⟨v,F,x⟩:=D.ex;have t:aM ["self","name"] ["self","name"] (av oZ):=by ac_rfl
 show(v,F.ok1 t (λvs H Q E h=>xU h)<|λC A q s H vs Q E y h=>?_,F.binds bd2,x,F.kp);have r:=y.units;have B:=t.nd;show(jD Z.K c d e a E,?_,xV b h)
 show(ad (aA (J3 (FN (hu1 r) (pv 1)<|fB (pv 0) u) (by with_unfolding_all rfl)) (af<|ba b.xc rfl z.NoName<|aa ae ac) ar)
   (af<|am<|IJ (hu1 r) (fB (pv 0) u) (pv 1)<|λ_ _=>rfl))
abbrev wf:=mtop 249 4
def CP{c:TJ}{d:TL}{e:RCl DkK}(Ml:FldK Z.K e "kept"){f:Addr}(D:Me Z.K "drop" "Desk.drop" wf f):Mo Z 1 f ["self","name"] (t8 Z.K c d e):=okm D Cw bd2 #[";i~K`0hjb",(He (fB (pv 0) Ml) (pv 1) (rfl,rfl,rfl,rfl))]
abbrev qU:=top 251
def yu:J "_law_cell_at" qU mE:=vx bd2 #[";ivy~w1A'peLMa0dpqhj'q'r01`0whjk",(λ_ _=>rfl)]
abbrev qV:=top 253
def yw:J "_law_no_rows" qV qE:=vE bd2 #[";io#2 msa?akaTasacfb0databa0dabababababacfb0acfb0dio#2 mcf2sacfcfb0bacfb0acfb0acfcfcfb0b1acfb0acfb0dio#2 mcf2sacfcfcfcfcfb0b1b0ababacfb0acfb0acfb0dio#2 mcf2sabacfcfb0bacfcfb0babacfcfb0bacfb0dhjcf2sacfb0acfcfb0bacfcfcfb0b0d"]
abbrev pR:=top 254
def wR:J "_law_no_names" pR pJ:=ue bd2 #[";io#2 msacfb1ababacfb1abacfb1acfb1acfb1dio#2 mcf2sacfb1acfcfcfb0b1acfcfcfb1b0acfb0acfcfb1bdio#2 mcf2sacfcfb1bacfcfb1bacfcfb1babdhjcf2sabababababd"]
abbrev uJ:=top 255
def A5:J "_law_texts" uJ uv:=ye bd3 #[";io#3 msatabacfcfb2bdatabacfcfb2bdatabacfcfb0bddio#3 mcf3satabacfcfb2bdatabacfcfb2bddio#3 mcf3satabacfcfb2bdatabacfcfb2bddio#3 mcf3satabacfcfb2bdatabacfcfb0bddio#3 mcf3satabacfcfb2bddio#3 mcf3satabacfcfb2bddio#3 mcf3satabacfcfb0bddio#3 mcf3satabacfcfb2bddio#3 mcf3satabacfcfcfcfb2bQ-/:~cbac~Lsabdkdbddio#3 mcf3satabacfcfb0bdatabacfcfb0bddio#3 mcf3satabacfcfb0bddio#3 mcf3satabacfcfb0bdatabacfcfb0bddio#3 mcf3satabacfcfb0bddio#3 mcf3satabacfcfb0bddio#3 mcf3satabacfcfb0bdatabacfcfb0bddio#3 mcf3satabacfcfb0bdatabacfcfb0bddio#3 mcf3satabacfcfcfb0b1databacfcfcfb1b0ddhjcf3satabacfcfb0bdd"]
abbrev pS:=top 256
def  wS{a:EA}(g:ErrMx Z.mg a)(l:ag Z.K a "NoRow" a.NoRow (aV a))(j:ag Z.K a "NoName" a.NoName (aO a))(i:ag Z.K a "NoText" a.NoText (aP a))(f:ag Z.K a "NoFloor" a.NoFloor (aK a))(k:ag Z.K a "NoRule" a.NoRule (aQ a))(c:ag Z.K a "NoFilling" a.NoFilling (aC a))(d:ag Z.K a "NoPuzzle" a.NoPuzzle (aG a))(e:ag Z.K a "TooMany" a.TooMany (aL a))(b:cY Z.K a "BadThought" a.BadThought (az a))(n:Z.mg "ValueError"=none)(D:De Z.K "_law_kinds_of" pS):pK Z:=okcH Bz D (λh=>uc l j i f k c d e b h) bd1 (λh=>ub h) λo p m=>(ad (kset 1 m<|aE<|aa (aD fo rfl Bz.isinstance_ aN<|aa (pv 0)<|aa (fU (v:=.ty "ValueError") rfl n AG rfl) ac)<|aa (aD fo rfl Bz.isinstance_ aN<|aa (pv 0)<|aa (aW rfl g.NoRow rfl) ac)<|aa (aD fo rfl Bz.isinstance_ aN<|aa (pv 0)<|aa (aW rfl g.NoName rfl) ac)<|aa (aD fo rfl Bz.isinstance_ aN<|aa (pv 0)<|aa (aW rfl g.NoText rfl) ac) ac)
   (ad (kset 1 m<|aj ah (pv 1)<|aE<|aa (aD fo rfl Bz.isinstance_ aN<|aa (pv 0)<|aa (aW rfl g.NoFloor rfl) ac)<|aa (aD fo rfl Bz.isinstance_ aN<|aa (pv 0)<|aa (aW rfl g.NoRule rfl) ac)<|aa (aD fo rfl Bz.isinstance_ aN<|aa (pv 0)<|aa (aW rfl g.NoFilling rfl) ac) ac)
   (ad (kset 1 m<|aj ah (pv 1)<|aE<|aa (aD fo rfl Bz.isinstance_ aN<|aa (pv 0)<|aa (aW rfl g.NoPuzzle rfl) ac)<|aa (aD fo rfl Bz.isinstance_ aN<|aa (pv 0)<|aa (aW rfl g.TooMany rfl) ac)<|aa (aD fo rfl Bz.isinstance_ aN<|aa (pv 0)<|aa (aW rfl g.BadThought rfl) ac) ac)
   (ad (aA (bv<|aD fo rfl Bz.isinstance_ aN<|aa (pv 0)<|aa (aW rfl g.BadThought rfl) ac) (af<|am<|aj ah (pv 1)<|aE<|aa (aD xv rfl Bz.isinstance_ aN<|aa (pv 0)<|aa (bo<|aa (aW rfl g.NoMove rfl)<|aa (aW rfl g.NotOne rfl) ac) ac)<|aa (K6<|pv 0) ac) ar)
   (af<|am<|aj ah (pv 1)<|aE<|aa (aD xv rfl Bz.isinstance_ aN<|aa (pv 0)<|aa (bo<|aa (aW rfl g.NoMove rfl)<|aa (aW rfl g.NotOne rfl) ac) ac)<|aa (aE ac) ac)))))
abbrev o0:=top 18
def vG(Mb:jc Z):J "is_from_one_to" o0 kX:=vh bd2 #[";hjxr~bla0dxuOk0pqBuO01pq"]
abbrev me:=top 47
def wT(t:p7 Z){a:EA}(u:ErrMx Z.mg a)(m:ag Z.K a "NoRow" a.NoRow (aV a))(l:ag Z.K a "NoName" a.NoName (aO a))(k:ag Z.K a "NoText" a.NoText (aP a))(d:ag Z.K a "NoFloor" a.NoFloor (aK a))(b:ag Z.K a "NoRule" a.NoRule (aQ a))(i:ag Z.K a "NoFilling" a.NoFilling (aC a))(c:ag Z.K a "NoPuzzle" a.NoPuzzle (aG a))(j:ag Z.K a "TooMany" a.TooMany (aL a))(g:cY Z.K a "BadThought" a.BadThought (az a))(e:XCal Z.P Z.w Z.K Z.mg Z.base 1 "BadThought" a.BadThought ["self","at"] "at")(D:De Z.K "number_within" me):ma Z:=by
 obtain⟨f,r,v,F⟩:=D.ex;have o:aM ["word","least","most","number"] ["word","least","most"] (av me):=by ac_rfl
 show(f,r,F.ok1 o (λvs H Q E h=>tW h)<|λy A n s H vs Q E p h=>?_,Bz.ns v,F.kp,F.binds bd3);have x:=p.units;have q:=o.nd;show(gM Z.K a E,?_,tX d b c h)
 show(ad (kset 3 q<|kcal t p<|aa (pv 0) ac)
   (ad (aA (SW<|ii (ax Bo (pv 3) gH<|aw _)<|ii (ax qk (pv 3) (pv 1)<|aw _)<|jd<|ax oh (pv 3) (pv 2)<|aw _) (af<|ba b.xc rfl u.NoRule<|aa ae ac) ar)
   (af<|am<|pv 3)))
abbrev uK:=top 58
def A6(Mb:jc Z)(Ma:gj Z):J "is_filling" uK uw:=AJ bd3 #[";iv;KFCAVeWXa1aY.vZ~xe]^ed~aySgAReLMa1dr~yla0dpqhjTwhjA~iee~j~kaH.x&--02 `0Ie%eeee~f1$D.i#1 @`0eEe$N$xr~bla1dxuO31pqBuO1ng2kpqd",[".0","sign","floor","least"]]
abbrev qW:=mtop 60 2
def yx{c:TJ}{d:TL}(My:FldK Z.K d "laws")(OI:GU Z c){f:Addr}(D:Me Z.K "lines" "Puzzle.lines" qW f):Mo Z 2 f ["self"] (pB Z.K c d):=okm D xu bd1 #[";hjH.x&-- `0Ie%eeee~f+0~H$D.i#1 @`0eEe$N$G'sl!1",[".0","rule"]]
abbrev jr:=top 87
def sq{c:TJ}{d:TL}{b:Tok}(y:Z.mg "MOST_SIGNS_alike"=some (.int 4 b))(v:jn Z c d){a:EA}(z:ErrMx Z.mg a)(p:ag Z.K a "NoRow" a.NoRow (aV a))(n:ag Z.K a "NoName" a.NoName (aO a))(m:ag Z.K a "NoText" a.NoText (aP a))(l:ag Z.K a "NoFloor" a.NoFloor (aK a))(o:ag Z.K a "NoRule" a.NoRule (aQ a))(j:ag Z.K a "NoFilling" a.NoFilling (aC a))(k:ag Z.K a "NoPuzzle" a.NoPuzzle (aG a))(e:ag Z.K a "TooMany" a.TooMany (aL a))(i:cY Z.K a "BadThought" a.BadThought (az a))(g:XCal Z.P Z.w Z.K Z.mg Z.base 1 "BadThought" a.BadThought ["self","at"] "at")(D:De Z.K "refuse_many_signs" jr):mn Z c d:=by
 obtain⟨f,u,B,F⟩:=D.ex;have r:aM ["puzzle"] ["puzzle"] (av jr):=by ac_rfl
 show(f,u,F.ok1 r (λvs H Q E h=>p5 h)<|λG A q s H vs Q E t h=>?_,Bz.ns B,F.kp,F.binds bd1);have x:=t.units;have C:=r.nd;show(fk Z.K c d a E,?_,p6 e h);show(af<|aA (ax oh (kix x (bL v t #[1] (pv 0)) ai) (aW rfl y (b,rfl))<|aw _) (af<|ba e.xc rfl z.TooMany<|aa ae ac) ar)
abbrev wg:=top 94
def CQ(MC:sh Z):J "full_mask" wg vV:=CA bd1 #[";hjc~pr~zlacfng0kkdk"]
abbrev Aw:=top 97
def Fo(MC:sh Z)(MD:si Z):J "without" Aw An:=ER bd2 #[";hj~qCr~Ala0a1dc~p0r~zla1d0"]
abbrev Ax:=top 110
def Fp(Mb:jc Z)(Ma:gj Z):J "is_cell" Ax ux:=ES bd2 #[";hjxr~bla1dxuOk1pqBu~w1r~yla0dpq"]
abbrev Ay:=top 112
def Fq{c:TJ}(OJ:GV Z c)(MW:GDict Z.w Z.K Z.mg "RULES_OF_KIND" gd_RULES_OF_KIND):J "goes_by" Ay Ao c:=EU bd2 #[";hj'tuzg0bpqBu'uG'vl!1'w'x0e`0`1",(λ_ _=>rfl),(by with_unfolding_all rfl)]
abbrev CS:=top 115
def GY{c:TJ}(Ny:zF Z c):J "others" CS CH c:=Gk bd2 #[";hjH.x&--1 `0Ie%eeee~fG~Ml!0$D.i#1 @`0eEe$'yySg12pq$1",[".0","spot","cell"]]
abbrev qX:=top 155
def yy(MI:p8 Z){t_SUPPOSE:Tok}(Mz:Z.mg "SUPPOSE"=some (.str (tx s!"suppose") t_SUPPOSE)):J "is_supposing" qX qG:=vy bd1 #[";hjxr~Nla0dBuzgng0k`0pq",(aW rfl Mz (t_SUPPOSE,rfl))]
abbrev yz:=top 158
def Di(MC:sh Z):J "supposed" yz yi:=AW bd3 #[";hjH.x&---12 `0Ie%eeee~Oe~Pa0d$~Qe~rD.i#1 @`0eEe~rD.i#2 @`0eEe~R$N$~qyzg13pqr~zla4d2",[".0","place","mask","cell","sign"]]
abbrev qY:=top 167
def yA(N1:yg Z):J "show_filling" qY mF:=xC bd2 #[";i'z.i#2 me'Aeng0khjQ-/:~JbaH.x&--12 `0Ie%eeee~ne~oang0kd$D.i#1 @`0eEe$N$r'Bla'C'D2~Sc*13~Scfc*133dd",[".0","row","filling","wide"]]
abbrev sr:=top 169
def Dj(x:sF Z){a:EA}(y:ErrMx Z.mg a)(n:ag Z.K a "NoRow" a.NoRow (aV a))(m:ag Z.K a "NoName" a.NoName (aO a))(e:ag Z.K a "NoText" a.NoText (aP a))(d:ag Z.K a "NoFloor" a.NoFloor (aK a))(g:ag Z.K a "NoRule" a.NoRule (aQ a))(b:ag Z.K a "NoFilling" a.NoFilling (aC a))(c:ag Z.K a "NoPuzzle" a.NoPuzzle (aG a))(l:ag Z.K a "TooMany" a.TooMany (aL a))(k:cY Z.K a "BadThought" a.BadThought (az a))(j:XCal Z.P Z.w Z.K Z.mg Z.base 1 "BadThought" a.BadThought ["self","at"] "at")(D:De Z.K "read_row" sr):yj Z:=by
 obtain⟨f,v,B,F⟩:=D.ex;have t:aM ["floor","row"] ["floor","row"] (av sr):=by ac_rfl
 show(f,v,F.ok1 t (λvs H Q E h=>AQ h)<|λG A o s H vs Q E u h=>?_,Bz.ns B,F.kp,F.binds bd2);have r:=u.units;have C:=t.nd;show(kJ Z.K a E,?_,AR d g c e b h)
 show(ad (aA (ax (cW r) (aD br rfl Bz.len_ ck<|aa (pv 1) ac) (kix r (pv 0) ai)<|aw _) (af<|ba b.xc rfl y.NoFilling<|aa ae ac) ar)
   (af<|am<|fA (ix:=[none,none,some 0]) [".0","figure","floor"] (dw rfl (by decide+kernel) rfl rfl rfl) rfl (BJ<|pv 1) (λq s H p=>(bj (i:=1) (show([".0","figure","floor"]:List Str).Nodup by decide+kernel) rfl<|Or.inl rfl)) (λq s H p=>eX)<|λq s H p=>(aU (yf λ_ _ _ z=>z) x u #[1] rfl (aa (pv 2)<|aa (pv 1) ac))))
abbrev mG:=top 220
def yB(y:p7 Z){a:EA}(B:ErrMx Z.mg a)(o:ag Z.K a "NoRow" a.NoRow (aV a))(m:ag Z.K a "NoName" a.NoName (aO a))(b:ag Z.K a "NoText" a.NoText (aP a))(l:ag Z.K a "NoFloor" a.NoFloor (aK a))(n:ag Z.K a "NoRule" a.NoRule (aQ a))(e:ag Z.K a "NoFilling" a.NoFilling (aC a))(g:ag Z.K a "NoPuzzle" a.NoPuzzle (aG a))(j:ag Z.K a "TooMany" a.TooMany (aL a))(d:cY Z.K a "BadThought" a.BadThought (az a))(c:XCal Z.P Z.w Z.K Z.mg Z.base 1 "BadThought" a.BadThought ["self","at"] "at")(D:De Z.K "read_numbers" mG):j8 Z:=by
 obtain⟨f,x,C,F⟩:=D.ex;have t:aM ["words","numbers"] ["words"] (av mG):=by ac_rfl
 show(f,x,F.ok1 t (λvs H Q E h=>vi h)<|λG A p s H vs Q E u h=>?_,Bz.ns C,F.kp,F.binds bd1);have z:=u.units;have v:=t.nd;show(ik Z.K a E,?_,vj b h)
 show(ad (Dz (k:=1) v rfl (Or.inl rfl) rfl (ix:=[none,none]) [".0","word"] (dw rfl (by decide+kernel) rfl rfl rfl) rfl (fV<|pv 0) (λr s H q=>(bj (i:=1) (show([".0","word"]:List Str).Nodup by decide+kernel) rfl<|Or.inl rfl)) (λr s H q=>eX)<|λr s H q=>(kcal y u<|aa (pv 1) ac))
   (ad (aA (ax (oi z) gH (pv 1) (by with_unfolding_all rfl)) (af<|ba b.xc rfl B.NoText<|aa ae ac) ar)
   (af<|am<|pv 1)))
abbrev uL:=top 252
def A7(Mt:mE Z):J "_law_names" uL uy:=yd bd1 #[";io#1 mbio#2 mc~ec*r'Ela0akdkkio#3 mcfkc~e2kio#4 mc~ec~T2k3io#5 msdi~l~me~ne~oakdD.i#6 meEeio#7 mbi~l~me~ne~oa3dD.i#8 meEeio#9 mcfc~T2cf8kc*c*k6P'Fe~s~tauzg84pqdho#7 mcf7ng1c~e9kh~KQ'G'H'I'J5a7dhj5"]
abbrev ss:=top 19
def Dk(t:kX Z){e:Tok}(B:Z.mg "MOST_CELLS"=some (.int 16 e)){d:Tok}(v:Z.mg "MOST_SIDE"=some (.int 6 d)){b:Tok}(z:Z.mg "MOST_SIGNS_floors"=some (.int 6 b)){a:EA}(r:ErrMx Z.mg a)(p:ag Z.K a "NoRow" a.NoRow (aV a))(o:ag Z.K a "NoName" a.NoName (aO a))(n:ag Z.K a "NoText" a.NoText (aP a))(c:ag Z.K a "NoFloor" a.NoFloor (aK a))(i:ag Z.K a "NoRule" a.NoRule (aQ a))(l:ag Z.K a "NoFilling" a.NoFilling (aC a))(g:ag Z.K a "NoPuzzle" a.NoPuzzle (aG a))(m:ag Z.K a "TooMany" a.TooMany (aL a))(k:cY Z.K a "BadThought" a.BadThought (az a))(j:XCal Z.P Z.w Z.K Z.mg Z.base 1 "BadThought" a.BadThought ["self","at"] "at")(D:De Z.K "floor_of" ss):sj Z:=by
 obtain⟨f,y,C,F⟩:=D.ex;have x:aM ["high","wide","signs"] ["high","wide","signs"] (av ss):=by ac_rfl
 show(f,y,F.ok1 x (λvs H Q E h=>AN h)<|λJ A u s H vs Q E q h=>?_,Bz.ns C,F.kp,F.binds bd3);have I:=q.units;have G:=x.nd;show(kH Z.K a E,?_,AO c i g h)
 show(ad (aA (cj<|bv<|kcal t q<|aa (pv 0)<|aa (aW rfl v (d,rfl)) ac) (af<|ba c.xc rfl r.NoFloor<|aa ae ac) ar)
   (ad (aA (cj<|bv<|kcal t q<|aa (pv 1)<|aa (aW rfl v (d,rfl)) ac) (af<|ba c.xc rfl r.NoFloor<|aa ae ac) ar)
   (ad (aA (ax oh (aj iB (pv 0)<|pv 1) (aW rfl B (e,rfl))<|aw _) (af<|ba c.xc rfl r.NoFloor<|aa ae ac) ar)
   (ad (aA (cj<|bv<|kcal t q<|aa (pv 2)<|aa (aW rfl z (b,rfl)) ac) (af<|ba c.xc rfl r.NoFloor<|aa ae ac) ar)
   (af<|am<|bo<|aa (pv 0)<|aa (pv 1)<|aa (pv 2) ac)))))
abbrev mH:=top 48
def yC(t:ma Z){a:EA}(u:ErrMx Z.mg a)(m:ag Z.K a "NoRow" a.NoRow (aV a))(l:ag Z.K a "NoName" a.NoName (aO a))(k:ag Z.K a "NoText" a.NoText (aP a))(d:ag Z.K a "NoFloor" a.NoFloor (aK a))(b:ag Z.K a "NoRule" a.NoRule (aQ a))(i:ag Z.K a "NoFilling" a.NoFilling (aC a))(c:ag Z.K a "NoPuzzle" a.NoPuzzle (aG a))(j:ag Z.K a "TooMany" a.TooMany (aL a))(g:cY Z.K a "BadThought" a.BadThought (az a))(e:XCal Z.P Z.w Z.K Z.mg Z.base 1 "BadThought" a.BadThought ["self","at"] "at")(D:De Z.K "first_within" mH):qH Z:=by
 obtain⟨f,r,v,F⟩:=D.ex;have p:aM ["words","least","most"] ["words","least","most"] (av mH):=by ac_rfl
 show(f,r,F.ok1 p (λvs H Q E h=>vn h)<|λy A n s H vs Q E q h=>?_,Bz.ns v,F.kp,F.binds bd3);have o:=q.units;have x:=p.nd;show(io Z.K a E,?_,vo d b c h)
 show(ad (aA (ax (aY o) (pv 0) (aE ac)<|aw _) (af<|ba b.xc rfl u.NoRule<|aa ae ac) ar)
   (af<|am<|aU (aS λ_ _ _ z=>z) t q #[1] rfl (aa (kix o (pv 0) ai)<|aa (pv 1)<|aa (pv 2) ac)))
abbrev o7:=top 49
def A8(I:gj Z)(C:ma Z){a:EA}(x:ErrMx Z.mg a)(o:ag Z.K a "NoRow" a.NoRow (aV a))(n:ag Z.K a "NoName" a.NoName (aO a))(m:ag Z.K a "NoText" a.NoText (aP a))(d:ag Z.K a "NoFloor" a.NoFloor (aK a))(b:ag Z.K a "NoRule" a.NoRule (aQ a))(j:ag Z.K a "NoFilling" a.NoFilling (aC a))(c:ag Z.K a "NoPuzzle" a.NoPuzzle (aG a))(l:ag Z.K a "TooMany" a.TooMany (aL a))(g:cY Z.K a "BadThought" a.BadThought (az a))(e:XCal Z.P Z.w Z.K Z.mg Z.base 1 "BadThought" a.BadThought ["self","at"] "at")(D:De Z.K "told_cells" o7):uz Z:=by
 obtain⟨f,B,G,F⟩:=D.ex;have v:aM ["floor","words","cells"] ["floor","words"] (av o7):=by ac_rfl
 show(f,B,F.ok1 v (λvs H Q E h=>xL h)<|λJ A q s H vs Q E p h=>?_,Bz.ns G,F.kp,F.binds bd2);have u:=p.units;have y:=v.nd;show(jy Z.K a E,?_,xN d b c h)
 show(ad (Dz (k:=2) y rfl (Or.inl rfl) rfl (ix:=[none,none,some 0]) [".0","word","floor"] (dw rfl (by decide+kernel) rfl rfl rfl) rfl (fV<|pv 1) (λt s H r=>(bj (i:=1) (show([".0","word","floor"]:List Str).Nodup by decide+kernel) rfl<|Or.inl rfl)) (λt s H r=>eX)<|λt s H r=>(aU (yf λ_ _ _ z=>z) C p #[1] rfl (aa (pv 1)<|aa ai<|aa (aj n4 (kcal I p<|aa (pv 2) ac) ai) ac)))
   (ad (aA (ax (aY u) (pv 2) (aE ac)<|aw _) (af<|ba b.xc rfl x.NoRule<|aa ae ac) ar)
   (ad (aA (ax (cW u) (F5 rfl rfl rfl Bz.len_ Bz.set_<|pv 2) (aD br rfl Bz.len_ ck<|aa (pv 2) ac)<|aw _) (af<|ba b.xc rfl x.NoRule<|aa ae ac) ar)
   (af<|am<|pv 2))))
abbrev uM:=top 52
def Fr{c:TJ}(I:be Z "Count" (c.A .Count) c)(y:be Z "Joined" (c.A .Joined) c)(v:be Z "NoSquare" (c.A .NoSquare) c)(B:be Z "Ring" (c.A .Ring) c)(G:be Z "Rising" (c.A .Rising) c)(C:be Z "Seen" (c.A .Seen) c)(n:be Z "Sum" (c.A .Sum) c)(z:be Z "Unlike" (c.A .Unlike) c){a:EA}(J:ErrMx Z.mg a)(q:ag Z.K a "NoRow" a.NoRow (aV a))(p:ag Z.K a "NoName" a.NoName (aO a))(o:ag Z.K a "NoText" a.NoText (aP a))(e:ag Z.K a "NoFloor" a.NoFloor (aK a))(b:ag Z.K a "NoRule" a.NoRule (aQ a))(j:ag Z.K a "NoFilling" a.NoFilling (aC a))(d:ag Z.K a "NoPuzzle" a.NoPuzzle (aG a))(m:ag Z.K a "TooMany" a.TooMany (aL a))(i:cY Z.K a "BadThought" a.BadThought (az a))(g:XCal Z.P Z.w Z.K Z.mg Z.base 1 "BadThought" a.BadThought ["self","at"] "at")(D:De Z.K "rule_by" uM):Ap Z c:=by
 obtain⟨f,x,L,F⟩:=D.ex;have t:aM ["floor","words","cells","amount","mark","name"] ["floor","words","cells","amount","mark"] (av uM):=by ac_rfl
 show(f,x,F.ok1 t (λvs H Q E h=>Cr h)<|λM A r s H vs Q E l h=>?_,Bz.ns L,F.kp,F.binds bd5);have k:=l.units;have u:=t.nd;show(lU Z.K c a E,?_,Cs e b d h)
 show(ad (kset 5 u<|kix k (pv 1) ai)
   (ad (aA (ax (aY k) (pv 5) ae<|aw _) (af<|am<|pk z l #[1] rfl (aa (pv 0)<|aa (pv 1)<|aa (pv 2)<|aa (pv 3)<|aa (pv 4) ac)) ar)
   (ad (aA (ax (aY k) (pv 5) ae<|aw _) (af<|am<|pk n l #[1] rfl (aa (pv 0)<|aa (pv 1)<|aa (pv 2)<|aa (pv 3)<|aa (pv 4) ac)) ar)
   (ad (aA (ax (aY k) (pv 5) ae<|aw _) (af<|am<|pk G l #[1] rfl (aa (pv 0)<|aa (pv 1)<|aa (pv 2)<|aa (pv 3)<|aa (pv 4) ac)) ar)
   (ad (aA (ax (aY k) (pv 5) ae<|aw _) (af<|am<|pk C l #[1] rfl (aa (pv 0)<|aa (pv 1)<|aa (pv 2)<|aa (pv 3)<|aa (pv 4) ac)) ar)
   (ad (aA (ax (aY k) (pv 5) ae<|aw _) (af<|am<|pk I l #[1] rfl (aa (pv 0)<|aa (pv 1)<|aa (pv 2)<|aa (pv 3)<|aa (pv 4) ac)) ar)
   (ad (aA (ax (aY k) (pv 5) ae<|aw _) (af<|am<|pk y l #[1] rfl (aa (pv 0)<|aa (pv 1)<|aa (pv 2)<|aa (pv 3)<|aa (pv 4) ac)) ar)
   (ad (aA (ax (aY k) (pv 5) ae<|aw _) (af<|am<|pk v l #[1] rfl (aa (pv 0)<|aa (pv 1)<|aa (pv 2)<|aa (pv 3)<|aa (pv 4) ac)) ar)
   (ad (aA (ax (aY k) (pv 5) ae<|aw _) (af<|am<|pk B l #[1] rfl (aa (pv 0)<|aa (pv 1)<|aa (pv 2)<|aa (pv 3)<|aa (pv 4) ac)) ar)
   (af<|ba b.xc rfl J.NoRule<|aa ae ac))))))))))
abbrev mf:=top 59
def wU(u:uw Z){a:EA}(r:ErrMx Z.mg a)(m:ag Z.K a "NoRow" a.NoRow (aV a))(l:ag Z.K a "NoName" a.NoName (aO a))(k:ag Z.K a "NoText" a.NoText (aP a))(c:ag Z.K a "NoFloor" a.NoFloor (aK a))(d:ag Z.K a "NoRule" a.NoRule (aQ a))(i:ag Z.K a "NoFilling" a.NoFilling (aC a))(b:ag Z.K a "NoPuzzle" a.NoPuzzle (aG a))(j:ag Z.K a "TooMany" a.TooMany (aL a))(g:cY Z.K a "BadThought" a.BadThought (az a))(e:XCal Z.P Z.w Z.K Z.mg Z.base 1 "BadThought" a.BadThought ["self","at"] "at")(D:De Z.K "checked_clues" mf):pL Z:=by
 obtain⟨f,q,t,F⟩:=D.ex;have o:aM ["floor","clues"] ["floor","clues"] (av mf):=by ac_rfl
 show(f,q,F.ok1 o (λvs H Q E h=>t3 h)<|λy A n s H vs Q E p h=>?_,Bz.ns t,F.kp,F.binds bd2);have x:=p.units;have v:=o.nd;show(gQ Z.K a E,?_,t6 c d b h)
 show(ad (aA (cj<|bv<|kcal u p<|aa (pv 0)<|aa (pv 1)<|aa ai ac) (af<|ba b.xc rfl r.NoPuzzle<|aa ae ac) ar)
   (af<|am<|c6 jV rfl Bz.list_ jm<|aa (pv 1) ac))
abbrev zH:=top 91
def Ii{c:TJ}{d:TL}(j:mn Z c d)(D:De Z.K "alike" zH):Ed Z c d:=by
 obtain⟨f,l,m,F⟩:=D.ex;have g:aM ["one","other","sought","move"] ["one","other"] (av zH):=by ac_rfl
 show(f,l,F.ok1 g (λvs H Q E h=>xZ h)<|λn A b s H vs Q E a h=>?_,Bz.ns m,F.kp,F.binds bd2);have k:=a.units;have e:=g.nd;show(nZ Z.K c d E,?_,E9 h)
 show(ad (ji<|aU (aS λ_ _ _ z=>z) j a #[1] rfl (aa (pv 0) ac))
   (ad (ji<|aU (aS λ_ _ _ z=>z) j a #[1] rfl (aa (pv 1) ac))
   (ad (kset 2 e bM)
   (ad (kz Sh rfl (fV bM) (bj (i:=3) e rfl<|Or.inl rfl)
   (af<|aA (ax (aY k) bM (pv 2)<|aw _) (af<|am<|pv 3) ar))
   (af<|am gH)))))
abbrev GZ:=top 95
def JX(NU:vV Z)(Ma:gj Z):J "full" GZ GS:=JF bd1 #[";hjc~Lsar'Kla0ddr~yla0d"]
abbrev yD:=top 98
def Dl(Oc:An Z):J "has_only" yD yk:=C7 bd2 #[";hjuzgr'Lla0a1dkpq"]
abbrev Az:=top 111
def Fs(Mg:kX Z):J "is_sign" Az uA:=ET bd2 #[";hjr'Mla1ang0kd"]
abbrev qZ:=top 113
def yE{c:TJ}{d:TL}(Od:Ao Z c)(Mb:jc Z)(Nz:zE Z c d)(Ny:zF Z c):J "has_its_rule" qZ qI c d:=xy bd4 #[";iv;KFCr~bla2d~ay~w2kpqhjTwivyzg1bpqhjuzg2kpqwio#4 mG~Ul!0ivy'N2AReLMa4dpqhjTwhjxr'Ola1ang42dBu~dg3G~Ml!ng42`0",(by with_unfolding_all rfl)]
abbrev mI:=top 170
def yF(y:yj Z){a:EA}(u:ErrMx Z.mg a)(n:ag Z.K a "NoRow" a.NoRow (aV a))(m:ag Z.K a "NoName" a.NoName (aO a))(e:ag Z.K a "NoText" a.NoText (aP a))(d:ag Z.K a "NoFloor" a.NoFloor (aK a))(g:ag Z.K a "NoRule" a.NoRule (aQ a))(b:ag Z.K a "NoFilling" a.NoFilling (aC a))(c:ag Z.K a "NoPuzzle" a.NoPuzzle (aG a))(l:ag Z.K a "TooMany" a.TooMany (aL a))(k:cY Z.K a "BadThought" a.BadThought (az a))(j:XCal Z.P Z.w Z.K Z.mg Z.base 1 "BadThought" a.BadThought ["self","at"] "at")(D:De Z.K "read_filling" mI):j9 Z:=by
 obtain⟨f,x,B,F⟩:=D.ex;have r:aM ["floor","text","rows","filling","row"] ["floor","text"] (av mI):=by ac_rfl
 show(f,x,F.ok1 r (λvs H Q E h=>vv h)<|λC A p s H vs Q E t h=>?_,Bz.ns B,F.kp,F.binds bd2);have q:=t.units;have o:=r.nd;show(iq Z.K a E,?_,vw d g c e b h)
 show(ad (aA (cj<|bv<|aD dB rfl Bz.isinstance_ aN<|aa (pv 1)<|aa (fU (v:=.ty "str") rfl Bz.str_ ql rfl) ac) (af<|ba b.xc rfl u.NoFilling<|aa ae ac) ar)
   (ad (kset 2 o<|cm PH Qq Qr gI (pv 1)<|aa ae ac)
   (ad (aA (ax (cW q) (aD br rfl Bz.len_ ck<|aa (pv 2) ac) (kix q (pv 0) ai)<|aw _) (af<|ba b.xc rfl u.NoFilling<|aa ae ac) ar)
   (ad (kset 3 o<|aE ac)
   (ad (kz Sh rfl (fV<|pv 2) (bj (i:=4) o rfl<|Or.inl rfl)
   (af<|ji<|cm Rl PySem.F.slot_list_extend PySem.F.type_list_extend Ez (pv 3)<|aa (aU (aS λ_ _ _ z=>z) y t #[1] rfl (aa (pv 0)<|aa (pv 4) ac)) ac))
   (af<|am<|pv 3))))))
abbrev sJ:=top 218
def zI{c:TJ}{d:TL}(Mu:mF Z)(Mv:mC Z){t_BETWEEN_PARTS:Tok}(Mq:Z.mg "BETWEEN_PARTS"=some (.str (tx s!" | ") t_BETWEEN_PARTS)){t_BETWEEN_ROWS:Tok}(Mf:Z.mg "BETWEEN_ROWS"=some (.str (tx s!"; ") t_BETWEEN_ROWS))(NA:zC Z c d)(NB:zD Z c d)(Mc:jn Z c d):J "show_puzzle" sJ sG c d:=y9 bd1 #[";io#1 mG~Bl!0io#2 mQ-/:~c`0aG'Pl!0dhjQ-/:~c`1asar'Qla1da2ar'Rla1aG~Vl!0ddd",(aW rfl Mf (t_BETWEEN_ROWS,rfl)),(aW rfl Mq (t_BETWEEN_PARTS,rfl))]
abbrev o8:=top 226
def A9(u:j8 Z)(v:GTup Z.K Z.mg "KINDS" ge){a:EA}(x:ErrMx Z.mg a)(m:ag Z.K a "NoRow" a.NoRow (aV a))(k:ag Z.K a "NoName" a.NoName (aO a))(b:ag Z.K a "NoText" a.NoText (aP a))(j:ag Z.K a "NoFloor" a.NoFloor (aK a))(l:ag Z.K a "NoRule" a.NoRule (aQ a))(e:ag Z.K a "NoFilling" a.NoFilling (aC a))(g:ag Z.K a "NoPuzzle" a.NoPuzzle (aG a))(i:ag Z.K a "TooMany" a.TooMany (aL a))(d:cY Z.K a "BadThought" a.BadThought (az a))(c:XCal Z.P Z.w Z.K Z.mg Z.base 1 "BadThought" a.BadThought ["self","at"] "at")(D:De Z.K "read_plain" o8):uB Z:=by
 obtain⟨f,t,y,F⟩:=D.ex;have q:aM ["text","words","numbers"] ["text"] (av o8):=by ac_rfl
 show(f,t,F.ok1 q (λvs H Q E h=>xG h)<|λB A o s H vs Q E r h=>?_,Bz.ns y,F.kp,F.binds bd1);have n:=r.units;have p:=q.nd;show(jv Z.K a E,?_,xH b h)
 show(ad (kset 1 p<|cm PH Qq Qr gI (pv 0)<|aa ae ac)
   (ad (aA (SW<|ii (yY v (kix n (pv 1) ai) rfl)<|jd<|ax qk (aD br rfl Bz.len_ ck<|aa (pv 1) ac) ai<|aw _) (af<|ba b.xc rfl x.NoText<|aa ae ac) ar)
   (ad (kset 2 p<|aU (aS λ_ _ _ z=>z) u r #[1] rfl (aa (iM nR (pv 1) (jl ai) le) ac))
   (af<|am<|bo<|aa (kix n (pv 1) ai)<|aa (kix n (pv 2) ai)<|aa (kix n (pv 2) ai)<|aa (kix n (pv 2) ai)<|aa (iM nR (pv 2) (jl ai) le) ac))))
abbrev mh:=top 50
def wV(y:gj Z)(t:uz Z)(x:GTup Z.K Z.mg "OF_ALL_CELLS" fC){a:EA}(u:ErrMx Z.mg a)(m:ag Z.K a "NoRow" a.NoRow (aV a))(l:ag Z.K a "NoName" a.NoName (aO a))(k:ag Z.K a "NoText" a.NoText (aP a))(d:ag Z.K a "NoFloor" a.NoFloor (aK a))(b:ag Z.K a "NoRule" a.NoRule (aQ a))(i:ag Z.K a "NoFilling" a.NoFilling (aC a))(c:ag Z.K a "NoPuzzle" a.NoPuzzle (aG a))(j:ag Z.K a "TooMany" a.TooMany (aL a))(g:cY Z.K a "BadThought" a.BadThought (az a))(e:XCal Z.P Z.w Z.K Z.mg Z.base 1 "BadThought" a.BadThought ["self","at"] "at")(D:DeA Z.K "cells_of_rows" "cells_of" mh):pM Z:=by
 obtain⟨f,q,v,F⟩:=D.ex;have p:aM ["floor","name","words"] ["floor","name","words"] (av mh):=by ac_rfl
 show(f,q,F.ok1 p (λvs H Q E h=>AL h)<|λC A o s H vs Q E n h=>?_,Bz.ns v,F.kp,F.binds bd3);have r:=n.units;have B:=p.nd;show(kG Z.K a E,?_,AM d b c h)
 show(ad (aA (yY x (pv 1) rfl) (af<|am<|aU (aS λ_ _ _ z=>z) t n #[1] rfl (aa (pv 0)<|aa (pv 2) ac)) ar)
   (ad (aA (ax (cW r) (pv 2) (aE ac)<|aw _) (af<|ba b.xc rfl u.NoRule<|aa ae ac) ar)
   (af<|am<|C3 rfl rfl rfl Bz.list_ Bz.range_<|aa (kcal y n<|aa (pv 0) ac) ac)))
abbrev mi:=top 56
def wW(t:sj Z){a:EA}(u:ErrMx Z.mg a)(m:ag Z.K a "NoRow" a.NoRow (aV a))(l:ag Z.K a "NoName" a.NoName (aO a))(k:ag Z.K a "NoText" a.NoText (aP a))(b:ag Z.K a "NoFloor" a.NoFloor (aK a))(d:ag Z.K a "NoRule" a.NoRule (aQ a))(i:ag Z.K a "NoFilling" a.NoFilling (aC a))(c:ag Z.K a "NoPuzzle" a.NoPuzzle (aG a))(j:ag Z.K a "TooMany" a.TooMany (aL a))(g:cY Z.K a "BadThought" a.BadThought (az a))(e:XCal Z.P Z.w Z.K Z.mg Z.base 1 "BadThought" a.BadThought ["self","at"] "at")(D:De Z.K "checked_floor" mi):pN Z:=by
 obtain⟨f,r,x,F⟩:=D.ex;have p:aM ["floor"] ["floor"] (av mi):=by ac_rfl
 show(f,r,F.ok1 p (λvs H Q E h=>tZ h)<|λB A o s H vs Q E q h=>?_,Bz.ns x,F.kp,F.binds bd1);have n:=q.units;have y:=p.nd;show(gO Z.K a E,?_,t5 b d c h)
 show(ad (aA (SW<|ii (cj<|bv<|aD dB rfl Bz.isinstance_ aN<|aa (pv 0)<|aa (fU (v:=.ty "tuple") rfl Bz.tuple_ oj rfl) ac)<|jd<|ax (cW n) (aD br rfl Bz.len_ ck<|aa (pv 0) ac) ai<|aw _) (af<|ba b.xc rfl u.NoFloor<|aa ae ac) ar)
   (af<|am<|aU (aS λ_ _ _ z=>z) t q #[1] rfl (aa (kix n (pv 0) ai)<|aa (kix n (pv 0) ai)<|aa (kix n (pv 0) ai) ac)))
abbrev wj:=top 114
def CT{c:TJ}{d:TL}(M8:qI Z c d)(MU:ux Z)(MV:uA Z)(Mb:jc Z)(Mc:jn Z c d)(MN:GTup Z.K Z.mg "KINDS" ge):J "is_formed" wj vW c d:=Cc bd2 #[";iv;KFCAVeWXa1aY.vZ~Ie~g~hedKySgAReLMa1dkpq~a'S'Tng1kehjTwio#2 mG~Bl!0iv;KFCr~Wla2ang1kd~aFCr~Xla2ang1kdhjTwivFCr'Ula0ang1kang1kang1kdhjTwhjxAVeWXang1kaY.vZ~xe]^edBA~iee~j~kaH.x&-- `0Ie%eeee~fng1k$D.i#1 @`0eEe$N$r~bla1dd",[".0","part"]]
abbrev q5:=top 122
def yG{c:TJ}(N4:yk Z)(Op:CH Z c):J "only_strikes" q5 qJ c:=xB bd5 #[";hjxuzgAReLMa4dkpqxu~dgng4kr'Vla0a2d`0Br'Wlang1ng4ka3d",(by with_unfolding_all rfl)]
abbrev m3:=top 156
def sZ{c:TJ}{d:TL}(MI:p8 Z)(MU:ux Z)(MV:uA Z)(Mc:jn Z c d):J "strikes_on_floor" m3 ib c d:=qx bd2 #[";io#2 mG~Bl!0hjxr~Nla1dxr~Wla2ang1kdBr~Xla2ang1kd"]
abbrev o9:=top 221
def Ba(v:sj Z)(u:j8 Z){a:EA}(x:ErrMx Z.mg a)(m:ag Z.K a "NoRow" a.NoRow (aV a))(l:ag Z.K a "NoName" a.NoName (aO a))(b:ag Z.K a "NoText" a.NoText (aP a))(e:ag Z.K a "NoFloor" a.NoFloor (aK a))(g:ag Z.K a "NoRule" a.NoRule (aQ a))(c:ag Z.K a "NoFilling" a.NoFilling (aC a))(d:ag Z.K a "NoPuzzle" a.NoPuzzle (aG a))(k:ag Z.K a "TooMany" a.TooMany (aL a))(j:cY Z.K a "BadThought" a.BadThought (az a))(i:XCal Z.P Z.w Z.K Z.mg Z.base 1 "BadThought" a.BadThought ["self","at"] "at")(D:De Z.K "read_floor" o9):uC Z:=by
 obtain⟨f,t,y,F⟩:=D.ex;have q:aM ["text","numbers"] ["text"] (av o9):=by ac_rfl
 show(f,t,F.ok1 q (λvs H Q E h=>xR h)<|λB A p s H vs Q E o h=>?_,Bz.ns y,F.kp,F.binds bd1);have n:=o.units;have r:=q.nd;show(jC Z.K a E,?_,xS e g d b c h)
 show(ad (kset 1 r<|aU (aS λ_ _ _ z=>z) u o #[1] rfl (aa (cm PH Qq Qr gI (pv 0)<|aa ae ac) ac))
   (ad (aA (ax (cW n) (aD br rfl Bz.len_ ck<|aa (pv 1) ac) ai<|aw _) (af<|ba b.xc rfl x.NoText<|aa ae ac) ar)
   (af<|am<|aU (aS λ_ _ _ z=>z) v o #[1] rfl (aa (kix n (pv 1) ai)<|aa (kix n (pv 1) ai)<|aa (kix n (pv 1) ai) ac))))
abbrev p9:=top 244
def CU{c:TJ}{d:TL}(l:j9 Z)(m:Ca9 Z 1 "hint" ["puzzle","entries"] spF)(j:jn Z c d)(D:De Z.K "tell_hint" p9):vX Z c d:=by
 obtain⟨f,i,k,F⟩:=D.ex;have e:aM ["puzzle","text","thought"] ["puzzle","text"] (av p9):=by ac_rfl
 show(f,i,F.ok1 e (λvs H Q E h=>qy h)<|λn A b s H vs Q E a h=>?_,Bz.ns k,F.kp,F.binds bd2);have o:=a.units;have g:=e.nd;show(j7 Z.K c d E,?_,zq h)
 show(ad (kset 2 g<|kcal m a<|aa (pv 0)<|aa (aU (aS λ_ _ _ z=>z) l a #[1] rfl (aa (bL j a #[1] (pv 0))<|aa (pv 1) ac)) ac)
   (af<|am<|jH (ax yN (pv 2) gH<|aw _) bM ae))
abbrev pb:=top 245
def Bb{c:TJ}{d:TL}(o:j9 Z)(n:mC Z)(k:Ca9 Z 1 "wrong" ["puzzle","entries","kinds"] spF)(l:jn Z c d)(m:GTup Z.K Z.mg "KINDS" ge)(D:De Z.K "tell_wrong" pb):uD Z c d:=by
 obtain⟨f,j,p,F⟩:=D.ex;have g:aM ["puzzle","text","told"] ["puzzle","text"] (av pb):=by ac_rfl
 show(f,j,F.ok1 g (λvs H Q E h=>xX h)<|λq A b s H vs Q E a h=>?_,Bz.ns p,F.kp,F.binds bd2);have e:=a.units;have i:=g.nd;show(jF Z.K c d E,?_,xY h)
 show(ad (kset 2 i<|kcal k a<|aa (pv 0)<|aa (aU (aS λ_ _ _ z=>z) o a #[1] rfl (aa (bL l a #[1] (pv 0))<|aa (pv 1) ac))<|aa (LM m rfl) ac)
   (ad (aA (ax Bo (pv 2) gH<|aw _) (af<|am ae) ar)
   (af<|am<|jH (ax (cW e) (kix e (pv 2) ai) (aE ac)<|aw _) (kcal n a<|aa (kix e (pv 2) ai) ac) ae)))
abbrev pc:=top 246
def Bc{c:TJ}{d:TL}(j:Ed Z c d)(D:De Z.K "tell_alike" pc):uE Z c d:=by
 obtain⟨f,g,i,F⟩:=D.ex;have e:aM ["one","other"] ["one","other"] (av pc):=by ac_rfl
 show(f,g,F.ok1 e (λvs H Q E h=>ya h)<|λm A a s H vs Q E b h=>?_,Bz.ns i,F.kp,F.binds bd2);have l:=b.units;have k:=e.nd;show(jG Z.K c d E,?_,yb h);show(af<|am<|jH (ax Bo (aU (aS λ_ _ _ z=>z) j b #[1] rfl (aa (pv 0)<|aa (pv 1) ac)) gH<|aw _) ae ae)
abbrev AA:=top 247
def Ft{c:TJ}{d:TL}(Nq:sG Z c d):J "tell_of" AA Aq c d:=E2 bd2 #[";ivyzg1bpqhjr'Xla0dwivyzg1bpqhjJwivyzg1bpqhjJwivyzg1bpqhjJwhjJ"]
abbrev qc:=top 53
def CV{c:TJ}(L:pM Z)(u:qH Z)(G:Ap Z c){b:Tok}(B:Z.mg "MOST_NUMBER"=some (.int 99 b))(M:GTup Z.K Z.mg "WITH_NUMBER" fX)(C:GTup Z.K Z.mg "WITH_SIGN" iE){a:EA}(I:ErrMx Z.mg a)(p:ag Z.K a "NoRow" a.NoRow (aV a))(o:ag Z.K a "NoName" a.NoName (aO a))(n:ag Z.K a "NoText" a.NoText (aP a))(g:ag Z.K a "NoFloor" a.NoFloor (aK a))(d:ag Z.K a "NoRule" a.NoRule (aQ a))(l:ag Z.K a "NoFilling" a.NoFilling (aC a))(e:ag Z.K a "NoPuzzle" a.NoPuzzle (aG a))(m:ag Z.K a "TooMany" a.TooMany (aL a))(j:cY Z.K a "BadThought" a.BadThought (az a))(i:XCal Z.P Z.w Z.K Z.mg Z.base 1 "BadThought" a.BadThought ["self","at"] "at")(D:De Z.K "read_rule" qc):vY Z c:=by
 obtain⟨f,y,J,F⟩:=D.ex;have x:aM ["floor","line","words","name","rest","amount","mark"] ["floor","line"] (av qc):=by ac_rfl
 show(f,y,F.ok1 x (λvs H Q E h=>zh h)<|λN A r s H vs Q E q h=>?_,Bz.ns J,F.kp,F.binds bd2);have t:=q.units;have k:=x.nd;show(j3 Z.K c a E,?_,zi g d e h)
 show(ad (aA (cj<|bv<|aD dB rfl Bz.isinstance_ aN<|aa (pv 1)<|aa (fU (v:=.ty "str") rfl Bz.str_ ql rfl) ac) (af<|ba d.xc rfl I.NoRule<|aa ae ac) ar)
   (ad (kset 2 k<|cm PH Qq Qr gI (pv 1)<|aa ae ac)
   (ad (kset 3 k<|kix t (pv 2) ai)
   (ad (kset 4 k<|iM nR (pv 2) (jl ai) le)
   (ad (kset 5 k ai)
   (ad (kset 6 k ai)
   (ad (aA (lD M (pv 3) rfl) (ad (kset 5 k<|aU (aS λ_ _ _ z=>z) u q #[1] rfl (aa (pv 4)<|aa ai<|aa (aW rfl B (b,rfl)) ac))
   (af<|kset 4 k<|iM nR (pv 4) (jl ai) le)) ar)
   (ad (aA (lD C (pv 3) rfl) (ad (kset 6 k<|aU (aS λ_ _ _ z=>z) u q #[1] rfl (aa (pv 4)<|aa ai<|aa (kix t (pv 0) ai) ac))
   (af<|kset 4 k<|iM nR (pv 4) (jl ai) le)) ar)
   (af<|am<|aU (aS λ_ _ _ z=>z) G q #[1] rfl (aa (pv 0)<|aa (pv 2)<|aa (aU (aS λ_ _ _ z=>z) L q #[1] rfl (aa (pv 0)<|aa (pv 3)<|aa (pv 4) ac))<|aa (pv 5)<|aa (pv 6) ac))))))))))
abbrev nO:=top 131
def uN{c:TJ}{d:TL}(M9:qD Z)(Nd:qJ Z c)(NA:zC Z c d)(Mc:jn Z c d)(Nz:zE Z c d):J "strikes_by_line" nO nN c d:=rM bd3 #[";io#3 mng2kio#4 mng2kio#5 mng2kio#6 mng2kivyzg3bpqhjr'YlaG~Vl!0a4a5a6dwio#7 mngG~Ul!0ng2kivyzg3bpqhjr'Zla7a1a4a5a6dwivyzg3bpqhjJwivyzg3bpqhjJwhjJ"]
abbrev lp:=top 157
def qd{c:TJ}{d:TL}(Mb:jc Z)(Md:ib Z c d):J "is_formed_supposing" lp lj c d:=oU bd2 #[";iv;KFCr~blang1kdKySgng1kkpq~aFCr~Cla0a1dhjTwhjxAVeWXang1kaY.vZ~xe]^edBuSgng1ksdpq"]
abbrev pe:=top 159
def vH{c:TJ}{d:TL}(MD:si Z)(Md:ib Z c d):J "is_passed_over" pe oW c d:=sP bd3 #[";hjxr~Cla0a2dB~Dr~Alang1ng2kang2kd"]
abbrev lq:=top 161
def qf{c:TJ}{d:TL}(MD:si Z)(Md:ib Z c d):J "strikes_what_stands" lq lm c d:=oS bd3 #[";hjxr~Cla0a2dBr~Alang1ng2kang2kd"]
abbrev pf:=top 57
def Be{c:TJ}(B:vY Z c){b:Tok}(y:Z.mg "MOST_RULES"=some (.int 12 b)){a:EA}(C:ErrMx Z.mg a)(p:ag Z.K a "NoRow" a.NoRow (aV a))(o:ag Z.K a "NoName" a.NoName (aO a))(n:ag Z.K a "NoText" a.NoText (aP a))(e:ag Z.K a "NoFloor" a.NoFloor (aK a))(g:ag Z.K a "NoRule" a.NoRule (aQ a))(l:ag Z.K a "NoFilling" a.NoFilling (aC a))(d:ag Z.K a "NoPuzzle" a.NoPuzzle (aG a))(m:ag Z.K a "TooMany" a.TooMany (aL a))(k:cY Z.K a "BadThought" a.BadThought (az a))(j:XCal Z.P Z.w Z.K Z.mg Z.base 1 "BadThought" a.BadThought ["self","at"] "at")(D:De Z.K "read_rules" pf):uF Z c:=by
 obtain⟨f,x,G,F⟩:=D.ex;have u:aM ["floor","lines"] ["floor","lines"] (av pf):=by ac_rfl
 show(f,x,F.ok1 u (λvs H Q E h=>xO h)<|λL A q s H vs Q E v h=>?_,Bz.ns G,F.kp,F.binds bd2);have J:=v.units;have I:=u.nd;show(jA Z.K c a E,?_,xP e g d h)
 show(ad (aA (ax oh (aD br rfl Bz.len_ ck<|aa (pv 1) ac) (aW rfl y (b,rfl))<|aw _) (af<|ba d.xc rfl C.NoPuzzle<|aa ae ac) ar)
   (af<|am<|fA (ix:=[none,none,some 0]) [".0","line","floor"] (dw rfl (by decide+kernel) rfl rfl rfl) rfl (fV<|pv 1) (λt s H r=>(bj (i:=1) (show([".0","line","floor"]:List Str).Nodup by decide+kernel) rfl<|Or.inl rfl)) (λt s H r=>eX)<|λt s H r=>(aU (yf λ_ _ _ z=>z) B v #[1] rfl (aa (pv 2)<|aa (pv 1) ac))))
abbrev AB:=top 150
def Fu{c:TJ}{d:TL}(MQ:nN Z c d)(NH:GTup Z.K Z.mg "LINE_KINDS" kE)(Nf:GTup Z.K Z.mg "NUMBER_KINDS" lI):J "strikes" AB Ar c d:=Ce bd3 #[";iv~Y'*ng2kehjr'+la0a1a2dwiv~Y'-ng2kehjJwhjJ"]
abbrev ky:=mtop 60 0
def uO{c:TJ}{d:TL}(m:pL Z)(o:pN Z)(l:uF Z c)(b:FldK Z.K d "floor")(j:FldK Z.K d "given")(i:FldK Z.K d "laws"){f:Addr}(D:Me Z.K "__init__" "Puzzle.__init__" ky f):Mo1 Z 7 f ["self","floor","lines","clues"] (bU Z.K c d):=by
 obtain⟨k,F,n⟩:=D.ex;have g:aM ["self","floor","lines","clues"] ["self","floor","lines","clues"] (av ky):=by ac_rfl
 show(k,F.ok1 g (λvs H Q E h=>rR h)<|λq A e s H vs Q E a h=>?_,F.binds bd4,n,F.kp);have r:=a.units;have p:=g.nd;show(fM Z.K c d E,?_,rS h)
 show(ad (jX (pv 0) (aU (aS λ_ _ _ z=>z) o a #[1] rfl (aa (pv 1) ac)) b)
   (ad (jX (pv 0) (aU (aS λ_ _ _ z=>z) l a #[1] rfl (aa (fB (pv 0) b)<|aa (pv 2) ac)) i)
   (af<|jX (pv 0) (aU (aS λ_ _ _ z=>z) m a #[1] rfl (aa (fB (pv 0) b)<|aa (pv 3) ac)) j)))
abbrev AC:=top 151
def Fv{c:TJ}{d:TL}(NX:vW Z c d)(Of:Ar Z c d):J "allowed" AC As c d:=Cf bd3 #[";hjxr'/la0a2dBr':la0a1a2d"]
abbrev mJ:=mtop 60 7
def yH{c:TJ}{d:TL}(i:FldK Z.K d "floor")(l:zD Z c d)(j:kx Z "Puzzle" (d.A .Puzzle) c d){f:Addr}(D:Me Z.K "clued" "Puzzle.clued" mJ f):Mo1 Z 9 f ["self","clues"] (ki Z.K c d):=by
 obtain⟨g,F,k⟩:=D.ex;have e:aM ["self","clues"] ["self","clues"] (av mJ):=by ac_rfl
 show(g,F.ok1 e (λvs H Q E h=>vq h)<|λn A b s H vs Q E a h=>?_,F.binds bd2,k,F.kp);have o:=a.units;have m:=e.nd;show(ip Z.K c d E,?_,vt h);show(af<|am<|F9 (aS λ_ _ _ z=>z) j a #[1] rfl (aa (fB (pv 0) i)<|aa (bL l a #[1] (pv 0))<|aa (pv 1) ac))
abbrev yI:=top 160
def Dm{n:Nat}{c:TJ}{d:TL}(Og:As Z c d)(Ms:pH Z)(ME:sk Z c d n)(MA:lj Z c d)(MS:oW Z c d)(Nh:qG Z)(N5:yi Z)(D:De Z.K "fault_in" yI):Ca9 Z (1*n+8) "fault_in" ["puzzle","masks","thought"] (fG Z.K c d<|n+1):=okc Bz D AZ bd3 (len:=AY) #[";ivFCU';la2dhj~qCU'?la0a1a2d?sdwivFCU'[la0a2dhjsdwio#3 mU']la1ang2kang2kdi~l~me~Oe~Pang2kd~Qe~rD.i#4 meEe~rD.i#5 meEe~RivCU~Zla3dhj?whvFCU'^la0a3a5dio#6 mU{ala0a3a5divy{b6?pqhjcfsa4d6who#3 mJwhj~qCU~Zla3d?sd"]
abbrev nB:=top 162
def zJ{c:TJ}{d:TL}(y:pH Z)(B:sk Z c d 2)(z:lm Z c d){a:EA}(J:ErrMx Z.mg a)(t:ag Z.K a "NoRow" a.NoRow (aV a))(o:ag Z.K a "NoName" a.NoName (aO a))(n:ag Z.K a "NoText" a.NoText (aP a))(m:ag Z.K a "NoFloor" a.NoFloor (aK a))(p:ag Z.K a "NoRule" a.NoRule (aQ a))(j:ag Z.K a "NoFilling" a.NoFilling (aC a))(k:ag Z.K a "NoPuzzle" a.NoPuzzle (aG a))(l:ag Z.K a "TooMany" a.TooMany (aL a))(e:cY Z.K a "BadThought" a.BadThought (az a))(b:XCal Z.P Z.w Z.K Z.mg Z.base 1 "BadThought" a.BadThought ["self","at"] "at")(D:De Z.K "follow_from" nB):sH Z c d:=by
 obtain⟨f,x,C,F⟩:=D.ex;have v:aM ["puzzle","masks","book","now","place","thought","fault"] ["puzzle","masks","book"] (av nB):=by ac_rfl
 show(f,x,F.ok1 v (λvs H Q E h=>wK h)<|λI A u s H vs Q E q h=>?_,Bz.ns C,F.kp,F.binds bd3);have G:=q.units;have r:=v.nd;show(i6 Z.K c d a E,?_,wL e.g h)
 show(ad (kset 3 r<|c6 jV rfl Bz.list_ jm<|aa (pv 1) ac)
   (ad (kz Sh rfl (yS rfl Bz.enumerate_<|aa (pv 2) ac) (wZ rfl<|jI (bj (i:=4) r rfl<|Or.inl rfl)<|jI (bj (i:=5) r rfl<|Or.inl rfl) uR)
   (ad (aA (SW<|ii (bv<|kcal y q<|aa (pv 3) ac)<|jd<|cj<|bv<|kcal z q<|aa (pv 0)<|aa (pv 3)<|aa (pv 5) ac) (af<|Aj b q #[1] rfl (aa (aE<|aa (pv 4) ac) ac)) ar)
   (ad (kset 6 r<|kcal B q<|aa (pv 0)<|aa (pv 3)<|aa (pv 5) ac)
   (ad (aA (ax yN (pv 6) gH<|aw _) (af<|Aj b q #[1] rfl (aa (aj ah (aE<|aa (pv 4) ac)<|pv 6) ac)) ar)
   (af<|kset 3 r bM)))))
   (af<|am<|pv 3)))
abbrev nE:=top 222
def zK{c:TJ}{d:TL}(R:gj Z)(C:j9 Z)(L:uC Z)(M:kW Z){b:Tok}(I:Z.mg "BETWEEN_PARTS"=some (.str (tx s!" | ") b)){e:Tok}(J:Z.mg "BETWEEN_ROWS"=some (.str (tx s!"; ") e))(G:Ee Z c d)(B:kx Z "Puzzle" (d.A .Puzzle) c d){a:EA}(N:ErrMx Z.mg a)(t:ag Z.K a "NoRow" a.NoRow (aV a))(r:ag Z.K a "NoName" a.NoName (aO a))(g:ag Z.K a "NoText" a.NoText (aP a))(k:ag Z.K a "NoFloor" a.NoFloor (aK a))(l:ag Z.K a "NoRule" a.NoRule (aQ a))(i:ag Z.K a "NoFilling" a.NoFilling (aC a))(j:ag Z.K a "NoPuzzle" a.NoPuzzle (aG a))(o:ag Z.K a "TooMany" a.TooMany (aL a))(n:cY Z.K a "BadThought" a.BadThought (az a))(m:XCal Z.P Z.w Z.K Z.mg Z.base 1 "BadThought" a.BadThought ["self","at"] "at")(D:De Z.K "read_puzzle" nE):sI Z c d:=by
 obtain⟨f,y,O,F⟩:=D.ex;have x:aM ["text","parts","floor","lines","bare"] ["text"] (av nE):=by ac_rfl
 show(f,y,F.ok1 x (λvs H Q E h=>wH h)<|λS A v s H vs Q E p h=>?_,Bz.ns O,F.kp,F.binds bd1);have q:=p.units;have u:=x.nd;show(iW Z.K c d a E,?_,wI k l j g i h)
 show(ad (ji<|aU (aS λ_ _ _ z=>z) M p #[1] rfl (aa (pv 0) ac))
   (ad (kset 1 u<|cm PH Qq Qr gI (pv 0)<|aa (aW rfl I (b,rfl)) ac)
   (ad (aA (ax (cW q) (aD br rfl Bz.len_ ck<|aa (pv 1) ac) ai<|aw _) (af<|ba g.xc rfl N.NoText<|aa ae ac) ar)
   (ad (kset 2 u<|aU (aS λ_ _ _ z=>z) L p #[1] rfl (aa (kix q (pv 1) ai) ac))
   (ad (kset 3 u<|jH (ax (cW q) (kix q (pv 1) ai) ae<|aw _) (cm PH Qq Qr gI (kix q (pv 1) ai)<|aa (aW rfl J (e,rfl)) ac)<|aE ac)
   (ad (kset 4 u<|F9 (aS λ_ _ _ z=>z) B p #[1] rfl (aa (pv 2)<|aa (pv 3)<|aa (aj rn (aE<|aa ai ac)<|kcal R p<|aa (pv 2) ac) ac))
   (af<|am<|kP (aS λ_ _ _ z=>z) G p #[1] (pv 4) (aa (aU (aS λ_ _ _ z=>z) C p #[1] rfl (aa (pv 2)<|aa (kix q (pv 1) ai) ac)) ac))))))))
abbrev wX:=top 163
def G1{c:TJ}{d:TL}(j:sH Z c d)(i:GS Z)(k:jn Z c d)(D:De Z.K "follow" wX):CI Z c d:=by
 obtain⟨f,g,l,F⟩:=D.ex;have e:aM ["puzzle","book"] ["puzzle","book"] (av wX):=by ac_rfl
 show(f,g,F.ok1 e (λvs H Q E h=>Dc h)<|λo A b s H vs Q E a h=>?_,Bz.ns l,F.kp,F.binds bd2);have n:=a.units;have m:=e.nd;show(mS Z.K c d E,?_,Dd h);show(af<|am<|aU (aS λ_ _ _ z=>z) j a #[1] rfl (aa (pv 0)<|aa (kcal i a<|aa (bL k a #[1] (pv 0)) ac)<|aa (pv 1) ac))
abbrev sw:=mtop 249 3
def Dn{c:TJ}{d:TL}{e:RCl DkK}(x:Am Z)(G:sI Z c d)(B:FldK Z.K e "kept"){a:EA}(C:ErrMx Z.mg a)(p:ag Z.K a "NoRow" a.NoRow (aV a))(b:ag Z.K a "NoName" a.NoName (aO a))(n:ag Z.K a "NoText" a.NoText (aP a))(m:ag Z.K a "NoFloor" a.NoFloor (aK a))(o:ag Z.K a "NoRule" a.NoRule (aQ a))(j:ag Z.K a "NoFilling" a.NoFilling (aC a))(k:ag Z.K a "NoPuzzle" a.NoPuzzle (aG a))(l:ag Z.K a "TooMany" a.TooMany (aL a))(i:cY Z.K a "BadThought" a.BadThought (az a))(g:XCal Z.P Z.w Z.K Z.mg Z.base 1 "BadThought" a.BadThought ["self","at"] "at"){f:Addr}(D:Me Z.K "put" "Desk.put" sw f):Mo1 Z 11 f ["self","name","text"] (nh Z.K c d e):=by
 obtain⟨u,F,y⟩:=D.ex;have t:aM ["self","name","text"] ["self","name","text"] (av sw):=by ac_rfl
 show(u,F.ok1 t (λvs H Q E h=>AU h)<|λJ A r s H vs Q E q h=>?_,F.binds bd3,y,F.kp);have v:=q.units;have I:=t.nd;show(kM Z.K c d e a E,?_,AV b h)
 show(ad (aA (cj<|bv<|kcal x q<|aa (pv 1) ac) (af<|ba b.xc rfl C.NoName<|aa ae ac) ar)
   (ad (IK (hu1 v) (fB (pv 0) B) (pv 1) (aU (aS λ_ _ _ z=>z) G q #[1] rfl (aa (pv 2) ac)) rfl)
   (af<|am ae)))
abbrev kZ:=top 227
def vI{n:Nat}(y:oY Z n)(x:j8 Z){b:Tok}(B:Z.mg "SUPPOSE"=some (.str (tx s!"suppose") b)){a:EA}(C:ErrMx Z.mg a)(p:ag Z.K a "NoRow" a.NoRow (aV a))(m:ag Z.K a "NoName" a.NoName (aO a))(c:ag Z.K a "NoText" a.NoText (aP a))(l:ag Z.K a "NoFloor" a.NoFloor (aK a))(o:ag Z.K a "NoRule" a.NoRule (aQ a))(g:ag Z.K a "NoFilling" a.NoFilling (aC a))(i:ag Z.K a "NoPuzzle" a.NoPuzzle (aG a))(j:ag Z.K a "TooMany" a.TooMany (aL a))(e:cY Z.K a "BadThought" a.BadThought (az a))(d:XCal Z.P Z.w Z.K Z.mg Z.base 1 "BadThought" a.BadThought ["self","at"] "at")(D:De Z.K "read_supposing" kZ):oX Z n:=by
 obtain⟨f,v,G,F⟩:=D.ex;have u:aM ["text","depth","parts","words","numbers"] ["text","depth"] (av kZ):=by ac_rfl
 show(f,v,F.ok1 u (λvs H Q E h=>sM h)<|λI A t s H vs Q E r h=>?_,Bz.ns G,F.kp,F.binds bd2);have k:=r.units;have q:=u.nd;show(gr Z.K a E n,?_,sO c h)
 show(ad (kset 2 q<|cm PH PySem.F.slot_str_partition PySem.F.type_str_partition Hy (pv 0)<|aa ae ac)
   (ad (kset 3 q<|cm PH Qq Qr gI (kix k (pv 2) ai)<|aa ae ac)
   (ad (aA (SW<|ii (ax (cW k) (aD br rfl Bz.len_ ck<|aa (pv 3) ac) ai<|aw _)<|jd<|cj<|bv<|cm PH PySem.F.slot_str_endswith PySem.F.type_str_endswith Hx (kix k (pv 2) ai)<|aa ae ac) (af<|ba c.xc rfl C.NoText<|aa ae ac) ar)
   (ad (kset 4 q<|aU (aS λ_ _ _ z=>z) x r #[4] rfl (aa (iM nR (pv 3) (jl ai) le) ac))
   (af<|am<|bo<|aa (aW rfl B (b,rfl))<|aa (kix k (pv 4) ai)<|aa (kix k (pv 4) ai)<|aa (kix k (pv 4) ai)<|aa (aU (aS λ_ _ _ z=>z) y r #[4] rfl (aa (iM nR (kix k (pv 2) ai) le<|jl<|Lk Kc ai)<|aa (aj ah (pv 1) ai) ac)) ac)))))
abbrev mK:=top 228
def yJ{n:Nat}(e:uB Z)(i:oX Z n){a:Tok}(k:Z.mg "SUPPOSE"=some (.str (tx s!"suppose") a))(D:De Z.K "read_thought" mK):qK Z n:=by
 obtain⟨f,g,j,F⟩:=D.ex;have d:aM ["text","depth"] ["text","depth"] (av mK):=by ac_rfl
 show(f,g,F.ok1 d (λvs H Q E h=>vk h)<|λo A c s H vs Q E b h=>?_,Bz.ns j,F.kp,F.binds bd2);have m:=b.units;have l:=d.nd;show(im Z.K E n,?_,vm h)
 show(ad (aA (bv<|cm PH PySem.F.slot_str_startswith PySem.F.type_str_startswith EQ (pv 0)<|aa (aj ah (aW rfl k (a,rfl)) ae) ac) (af<|am<|aU (aS λ_ _ _ z=>z) i b #[4] rfl (aa (pv 0)<|aa (pv 1) ac)) ar)
   (af<|am<|aU (aS λ_ _ _ z=>z) e b #[4] rfl (aa (pv 0) ac)))
abbrev ph:=top 229
def Bf{n:Nat}(G:qK Z n)(B:pI Z){b:Tok}(C:Z.mg "MOST_BOOKS"=some (.int 16 b)){a:EA}(I:ErrMx Z.mg a)(p:ag Z.K a "NoRow" a.NoRow (aV a))(m:ag Z.K a "NoName" a.NoName (aO a))(c:ag Z.K a "NoText" a.NoText (aP a))(l:ag Z.K a "NoFloor" a.NoFloor (aK a))(o:ag Z.K a "NoRule" a.NoRule (aQ a))(g:ag Z.K a "NoFilling" a.NoFilling (aC a))(j:ag Z.K a "NoPuzzle" a.NoPuzzle (aG a))(k:ag Z.K a "TooMany" a.TooMany (aL a))(e:cY Z.K a "BadThought" a.BadThought (az a))(d:XCal Z.P Z.w Z.K Z.mg Z.base 1 "BadThought" a.BadThought ["self","at"] "at")(D:De Z.K "read_inner" ph):Cal1 Z.P Z.w Z.K Z.mg Z.base (3*n+6) "read_inner" ["text","depth"] (dl Z.K<|n+1):=by
 obtain⟨f,x,J,F⟩:=D.ex;have v:aM ["text","depth"] ["text","depth"] (av ph):=by ac_rfl
 show(f,x,F.ok1 v (λvs H Q E h=>xI h)<|λM A r s H vs Q E q h=>?_,Bz.ns J,F.kp,F.binds bd2);have y:=q.units;have L:=v.nd;show(jw Z.K a E n,?_,xK c h)
 show(ad (aA (ax oh (pv 1) (aW rfl C (b,rfl))<|aw _) (af<|ba c.xc rfl I.NoText<|aa ae ac) ar)
   (ad (aA (ax (aY y) (pv 0) ae<|aw _) (af<|am<|aE ac) ar)
   (af<|am<|fA (ix:=[none,none,some 1]) [".0","part","depth"] (dw rfl (by decide+kernel) rfl rfl rfl) rfl (fV<|aU (aS λ_ _ _ z=>z) B q #[4] rfl (aa (pv 0) ac)) (λu s H t=>(bj (i:=1) (show([".0","part","depth"]:List Str).Nodup by decide+kernel) rfl<|Or.inl rfl)) (λu s H t=>eX)<|λu s H t=>(aU (yf λ_ _ _ z=>z) G q #[4] rfl (aa (pv 1)<|aa (pv 2) ac)))))
abbrev qh:=top 230
def CW(e:oY Z 17)(d:kW Z)(D:De Z.K "read_book" qh):vZ Z:=by
 obtain⟨f,g,i,F⟩:=D.ex;have c:aM ["text"] ["text"] (av qh):=by ac_rfl
 show(f,g,F.ok1 c (λvs H Q E h=>zf h)<|λl A b s H vs Q E a h=>?_,Bz.ns i,F.kp,F.binds bd1);have k:=a.units;have j:=c.nd;show(j1 Z.K E,?_,zg h)
 show(ad (ji<|aU (aS λ_ _ _ z=>z) d a #[1] rfl (aa (pv 0) ac))
   (af<|am<|aU (aS λ_ _ _ z=>z) e a #[1] rfl (aa (pv 0)<|aa ai ac)))
abbrev mL:=top 241
def yK{c:TJ}{d:TL}(j:pH Z)(m:CI Z c d)(n:vZ Z)(o:mF Z)(k:jn Z c d)(D:De Z.K "tell_checked" mL):qL Z c d:=by
 obtain⟨f,i,l,F⟩:=D.ex;have e:aM ["puzzle","text","masks"] ["puzzle","text"] (av mL):=by ac_rfl
 show(f,i,F.ok1 e (λvs H Q E h=>vz h)<|λp A b s H vs Q E a h=>?_,Bz.ns l,F.kp,F.binds bd2);have q:=a.units;have g:=e.nd;show(iz Z.K c d E,?_,vA h)
 show(ad (kset 2 g<|aU (aS λ_ _ _ z=>z) m a #[1] rfl (aa (pv 0)<|aa (aU (aS λ_ _ _ z=>z) n a #[1] rfl (aa (pv 1) ac)) ac))
   (ad (aA (bv<|kcal j a<|aa (pv 2) ac) (af<|am ae) ar)
   (ad (aA (bv bM) (af<|am<|aj ah ae<|kcal o a<|aa (bL k a #[1] (pv 0))<|aa bM ac) ar)
   (af<|am<|aj ah ae<|c6 z4 rfl Bz.str_ ql<|aa bM ac))))
abbrev mM:=top 248
def yL{c:TJ}{d:TL}(l:qL Z c d)(m:vX Z c d)(j:uD Z c d)(D:De Z.K "tell_by_text" mM):qM Z c d:=by
 obtain⟨f,i,k,F⟩:=D.ex;have g:aM ["puzzle","word","text"] ["puzzle","word","text"] (av mM):=by ac_rfl
 show(f,i,F.ok1 g (λvs H Q E h=>vC h)<|λo A b s H vs Q E a h=>?_,Bz.ns k,F.kp,F.binds bd3);have e:=a.units;have n:=g.nd;show(iA Z.K c d E,?_,vD h)
 show(ad (aA (ax (aY e) (pv 1) ae<|aw _) (af<|am<|aU (aS λ_ _ _ z=>z) l a #[1] rfl (aa (pv 0)<|aa (pv 2) ac)) ar)
   (ad (aA (ax (aY e) (pv 1) ae<|aw _) (af<|am<|aU (aS λ_ _ _ z=>z) m a #[1] rfl (aa (pv 0)<|aa (pv 2) ac)) ar)
   (af<|am<|aU (aS λ_ _ _ z=>z) j a #[1] rfl (aa (pv 0)<|aa (pv 2) ac))))
abbrev sx:=mtop 249 1
def Do{c:TJ}{d:TL}{e:RCl DkK}(m:uE Z c d)(u:qM Z c d)(n:Aq Z c d)(r:yh Z)(v:GT Z c d e)(l:Ef Z c d e)(g:Iw Z c d e)(t:GTup Z.K Z.mg "WITH_NAME" dm)(o:GTup Z.K Z.mg "WITH_TEXT" ft){f:Addr}(D:Me Z.K "say" "Desk.say" sx f):Mo1 Z 58 f ["self","row"] (nv Z.K c d e):=by
 obtain⟨p,F,q⟩:=D.ex;have k:aM ["self","row","words","puzzle"] ["self","row"] (av sx):=by ac_rfl
 show(p,F.ok1 k (λvs H Q E h=>A0 h)<|λw A i s H vs Q E b h=>?_,F.binds bd2,q,F.kp);have a:=b.units;have j:=k.nd;show(kN Z.K c d e E,?_,A1 h)
 show(ad (kset 2 j<|aU (aS λ_ _ _ z=>z) r b #[1] rfl (aa (pv 1) ac))
   (ad (aA (ax (aY a) (kix a (pv 2) ai) ae<|aw _) (af<|am<|kP (aS λ_ _ _ z=>z) g b #[1] (pv 0) (aa (kix a (pv 2) ai)<|aa (kix a (pv 2) ai) ac)) ar)
   (ad (kset 3 j<|kP (aS λ_ _ _ z=>z) l b #[1] (pv 0) (aa (kix a (pv 2) ai) ac))
   (ad (aA (ax (aY a) (kix a (pv 2) ai) ae<|aw _) (af<|am<|Hr v b #[1] (pv 0) (aa (kix a (pv 2) ai) ac)) ar)
   (ad (aA (lD t (kix a (pv 2) ai) rfl) (af<|am<|kcal n b<|aa (pv 3)<|aa (kix a (pv 2) ai) ac) ar)
   (ad (aA (lD o (kix a (pv 2) ai) rfl) (af<|am<|aU (aS λ_ _ _ z=>z) u b #[1] rfl (aa (pv 3)<|aa (kix a (pv 2) ai)<|aa (kix a (pv 2) ai) ac)) ar)
   (af<|am<|aU (aS λ_ _ _ z=>z) m b #[1] rfl (aa (pv 3)<|aa (kP (aS λ_ _ _ z=>z) l b #[1] (pv 0) (aa (kix a (pv 2) ai) ac)) ac))))))))
abbrev uP:=top 257
def Bg{c:TJ}{d:TL}{e:RCl DkK}(M2:pK Z)(M_say:Fk Z c d e){a:EA}(EM:ErrMx Z.mg a)(R_NoRow:ag Z.K a "NoRow" a.NoRow (aV a))(R_NoName:ag Z.K a "NoName" a.NoName (aO a))(R_NoText:ag Z.K a "NoText" a.NoText (aP a))(R_NoFloor:ag Z.K a "NoFloor" a.NoFloor (aK a))(R_NoRule:ag Z.K a "NoRule" a.NoRule (aQ a))(R_NoFilling:ag Z.K a "NoFilling" a.NoFilling (aC a))(R_NoPuzzle:ag Z.K a "NoPuzzle" a.NoPuzzle (aG a))(R_TooMany:ag Z.K a "TooMany" a.TooMany (aL a))(R_BadThought:cY Z.K a "BadThought" a.BadThought (az a))(D:De Z.K "_law_marks" uP):uG Z c d e:=okc Bz D (λh=>yc R_NoRow R_NoName R_NoText R_NoFloor R_NoRule R_NoFilling R_NoPuzzle R_TooMany R_BadThought h) bd2 #[";io#2 msdi{c.i#3 `0{dl!0a1dmeee{eee`1hj2",(λ_ _ z=>z),(λ_=>(af<|kset 2 nd<|kcalH M2 hr.h<|aa (pv 3) ac))]
abbrev yM:=top 258
def  Lf{c:TJ}{d:TL}{e:RCl DkK}(t:mE Z)(q:uG Z c d e)(r:uy Z)(o:pJ Z)(p:qE Z)(m:uv Z)(g:Fk Z c d e)(n:pO Z "Desk" (e.A .Desk) c d e){f:Addr}{j:FuncData}(F:Fun Z.K "law" "law" yM f j):FnOk Z.P Z.w Z.K Z.mg Z.base CX0 60 f j ["_law_script"] (GJ Z.K c d e):=okf F (by ac_rfl) Lc (λh a b=>(ad (kset 1 b<|kcal r h<|aa (pv 0) ac)
   (ad (kset 2 b<|aE<|aa ae<|aa ae ac)
   (ad (kset 3 b<|K0 n h #[1] rfl)
   (ad (kz Rp rfl (lc rfl Bz.range_<|aa ai ac) (bj (i:=4) b rfl<|Or.inl rfl)
   (af<|aA (ax (cW a) (kP EH g h #[1] (pv 3) (aa (aj ah (aj ah (aj ah ae<|kix a (pv 1)<|pv 4) ae)<|kix a (pv 2)<|pv 4) ac)) ae<|aw _) (af<|am kC) ar))
   (ad (kset 5 b<|aE<|aa ae<|aa ae<|aa ae<|aa ae<|aa ae<|aa ae<|aa ae<|aa ae<|aa ae ac)
   (ad (kz Rp rfl (lc rfl Bz.range_<|aa ai ac) (bj (i:=4) b rfl<|Or.inl rfl)
   (ad (kset 6 b<|aj jU (aj iB (aj ah (kcal t h<|aa (pv 0)<|aa (aj ah ai<|pv 4) ac)<|aj iB (aj iB ai<|pv 4)<|pv 4) ai) ai)
   (ad (kset 7 b<|aj jU (pv 6) ai)
   (ad (kset 8 b<|kix a (aE<|aa (kcal p h<|aa (kix a (pv 1) ai)<|aa (kix a (pv 1) ai) ac)<|aa (kcal o h<|aa (kix a (pv 1) ai)<|aa (kix a (pv 1) ai) ac)<|aa (aE ac) ac)<|pv 7)
   (ad (aA (ax (aY a) (pv 7) ai<|aw _) (ad (kset 9 b<|kcal m h<|aa (kix a (pv 1) ai)<|aa (kix a (pv 1) ai)<|aa (kix a (pv 1) ai) ac)
   (af<|J4 (kix a (pv 9)<|aj jU (aj uV (pv 6) ai)<|aD br rfl Bz.len_ ck<|aa (pv 9) ac)<|wZ rfl<|jI (bj (i:=10) b rfl<|Or.inr rfl)<|jI (bj (i:=11) b rfl<|Or.inl rfl) uR)) (ad (Bm (i:=10) b rfl (Or.inr rfl)<|kix a (pv 5)<|pv 7)
   (af<|kset 11 b<|kix a (pv 8)<|aj jU (aj uV (pv 6) ai)<|aD br rfl Bz.len_ ck<|aa (pv 8) ac)))
   (ad (kset 12 b<|aE ac)
   (ad (aA (ax (aY a) (pv 10) ae<|aw _) (af<|kset 12 b<|aj rn (aE<|aa ai ac)<|aj ah ai<|c6 xo rfl Bz.int_ xg<|aa (bh (oi a) ae (pv 11) (by with_unfolding_all rfl)) ac) ar)
   (af<|aA (ax (cW a) (kcal q h<|aa (pv 3)<|aa (pv 11) ac) (aj ah (aj ah (aE<|aa kC ac)<|fA (ix:=[none,none,some 10]) [".0","_law_word","_law_due"] (dw rfl (by decide+kernel) rfl rfl rfl) rfl (fV<|pv 5) (λl s H k=>(bj (i:=1) (show([".0","_law_word","_law_due"]:List Str).Nodup by decide+kernel) rfl<|Or.inl rfl)) (λl s H k=>eX)<|λl s H k=>(bh (aY a) (pv 1) (pv 2)<|aw _))<|aE<|aa kC<|aa (pv 12) ac)<|aw _) (af<|am kC) ar))))))))
   (af<|am<|bO (bh (aY a) (kP EH g h #[1] (pv 3) (aa (aj ah ae<|kix a (pv 1) ai) ac)) (kix a (pv 2) ai)<|aw _)<|dh<|bh (aY a) (kP EH g h #[1] (pv 3) (aa (aj ah ae<|kix a (pv 1) ai) ac)) (kix a (pv 2) ai)<|aw _)))))))) (by walk_at "l")
abbrev lu:=mtop 12 0
def  qi{a:EA}(b:ErrMx Z.mg a){f:Addr}(X:XD Z.K a.BadThought a.ClueError f)(Y:XI Z.K a.ClueError)(c:findIn Z.K (.ref a.BadThought) "at"=some none)(D:Me Z.K "__init__" "BadThought.__init__" lu f):Mo Z 1 f ["self","at"] (spXI a.BadThought "at"):=
 okm (N:=["self","at"]) D rkXI bd2 λe g d=>(ad (ji<|JC X Y rfl b.ClueError<|aa (pv 0)<|aa ae ac)<|af<|JD X c (pv 0)<|c6 jV rfl Bz.list_ jm<|aa (pv 1) ac)
end
variable{l:PySem.W.OpenLaw}
def Lg {w:World} {K:Frag} {h:Heap} {mg:Str->Option Value} {fa:Addr} (X:K.In h) (G:h.Ns mainGlobals mg) (eH:mg "law"=↑fa) {x1 x2 x3 x4 x5 x6 x7 x8 y1 z1 f2 f3 f4 f5 f7 f8 f9 dA dB dy dw dE dx dC dF:Addr} {au aD am ax cs bd br aA aw aM bJ bM aj ae cm:Tok} {y J C N D I M P L O R b:Addr} {bB OQ:Str} {bO T:Addr} {aS:List Value} {aW:List Str} {aJ:List Value} {aY:Bool} {aN:Option Bool} {bn:Option Addr} {ba bs bh aZ aU:Option Value}
  (OW:nsIn K mainGlobals "ClueError"=some ↑y) (OD:nsIn K mainGlobals "NoFloor"=some ↑J) (Ol:nsIn K mainGlobals "NoFilling"=some ↑C) (OR:nsIn K mainGlobals "NoRule"=some ↑N) (Ot:nsIn K mainGlobals "NoPuzzle"=some ↑D) (OE:nsIn K mainGlobals "TooMany"=some ↑I) (O5:nsIn K mainGlobals "NotOne"=some ↑M) (O6:nsIn K mainGlobals "NoMove"=some ↑P) (OS:nsIn K mainGlobals "NoText"=some ↑L) (OT:nsIn K mainGlobals "NoName"=some ↑O) (OX:nsIn K mainGlobals "NoRow"=some ↑R) (NR:nsIn K mainGlobals "BadThought"=some ↑b) (OU:nsIn K mainGlobals "ValueError"=some none) (CE:CE0 K y) (dr:Rf1P K y R [O,L,J,N,C,D,I,b,P,M]) (dk:Rf1P K y O [R,L,J,N,C,D,I,b,P,M]) (dg:Rf1P K y L [R,O,J,N,C,D,I,b,P,M]) (cO:Rf1P K y J [R,O,L,N,C,D,I,b,P,M]) (de:Rf1P K y N [R,O,L,J,C,D,I,b,P,M]) (cj:Rf1P K y C [R,O,L,J,N,D,I,b,P,M]) (ck:Rf1P K y D [R,O,L,J,N,C,I,b,P,M]) (cv:Rf1P K y I [R,O,L,J,N,C,D,b,P,M]) (bx:K.lookup b=some (excClassObj bB OQ b bO aS (.ref y::VE) true aW aJ aY aN bn ba bs bh aZ aU "ValueError.__new__")) (bj:findIn K (.ref b) "__getattribute__"=some (some<|.builtin "BaseException.__getattribute__")) (bv:findIn K (.ref b) "__getattr__"=some none) (bm:findIn K (.ref b) "__class__"=some (some<|.builtin "object.__class__")) (bI:PySem.W.mroIn K b (.type "object")=some true) (aT:PySem.W.mroIn K b (.type "BaseException")=some true) (bo:findIn K (.ref b) "__init__"=some ↑T) (bz:isFn K (.ref T)=true) (bk:keepIn K (.ref b)=true) (bC:findIn K (.ref b) "__setattr__"=some (some<|.builtin "object.__setattr__")) (af:findIn K (.ref b) "at"=some none) (aX:PySem.W.readsIn K y (.type "type")=true) (bb:PySem.W.specialIn K (.ref y) "__getattribute__"=some (some<|.builtin "type.__getattribute__")) (bp:PySem.W.findCls K (.ref y) (.type "type") "__init__"=some (.val<|.builtin "ValueError.__init__")) (bc:PySem.W.kitOne K (.ref b) (.type "ValueError")=some true) (bu:PySem.W.exmOne K (.ref b) (.ref y)=some true) (aq:PySem.W.kitOne K (.ref b) (.ref R)=some false) (ak:PySem.W.kitOne K (.ref b) (.ref O)=some false) (ah:PySem.W.kitOne K (.ref b) (.ref L)=some false) (ab:PySem.W.kitOne K (.ref b) (.ref J)=some false) (al:PySem.W.kitOne K (.ref b) (.ref N)=some false) (Y:PySem.W.kitOne K (.ref b) (.ref C)=some false) (aa:PySem.W.kitOne K (.ref b) (.ref D)=some false) (ad:PySem.W.kitOne K (.ref b) (.ref I)=some false) (ai:PySem.W.kitOne K (.ref b) (.ref P)=some false) (ao:PySem.W.kitOne K (.ref b) (.ref M)=some false) (bq:Me K "__init__" "BadThought.__init__" lu T) (bV:ClsP K "Unlike" x1 f2) (dn:ClsP K "Sum" x2 f2) (bT:ClsP K "Rising" x3 f2) (cV:ClsP K "Seen" x4 f2) (co:ClsP K "Count" x5 f2) (bU:ClsP K "Joined" x6 f2) (aE:ClsP K "NoSquare" x7 f2) (cW:ClsP K "Ring" x8 f2) (S:ClsP K "Puzzle" y1 dE) (ap:ClsP K "Desk" z1 dA) (a3:At8 K "name" ↑f3 x1 x2 x3 x4 x5 x6 x7 x8) (a4:At8 K "spots" ↑f4 x1 x2 x3 x4 x5 x6 x7 x8) (a5:At8 K "line" ↑f5 x1 x2 x3 x4 x5 x6 x7 x8) (O2:findIn K (.ref y1) "place"=some ↑f7) (O3:findIn K (.ref y1) "clues"=some ↑f8) (O4:findIn K (.ref y1) "rules"=some ↑f9) (O7:findIn K (.ref z1) "named"=some ↑dB) (O8:findIn K (.ref z1) "drop"=some ↑dy) (OY:findIn K (.ref y1) "lines"=some ↑dw) (OZ:findIn K (.ref y1) "clued"=some ↑dx) (O9:findIn K (.ref z1) "put"=some ↑dC) (Pa:findIn K (.ref z1) "say"=some ↑dF) (cn:At8 K "amount" none x1 x2 x3 x4 x5 x6 x7 x8) (cP:At8 K "cells" none x1 x2 x3 x4 x5 x6 x7 x8) (cx:At8 K "floor" none x1 x2 x3 x4 x5 x6 x7 x8) (cX:At8 K "mark" none x1 x2 x3 x4 x5 x6 x7 x8) (cE:At8 K "words" none x1 x2 x3 x4 x5 x6 x7 x8) (cN:findIn K (.ref y1) "floor"=some none) (cQ:findIn K (.ref y1) "given"=some none) (db:findIn K (.ref y1) "laws"=some none) (dc:findIn K (.ref z1) "kept"=some none) (D0:De K "is_whole" ym) (D1:De K "many_cells" uH) (D2:Me K "__init__" "Rule.__init__" pP f2) (D3:Me K "name" "Rule.name" v3 f3) (D4:Me K "spots" "Rule.spots" uI f4) (D5:Me K "line" "Rule.line" wb f5) (D6:De K "number_in" wc) (D7:Me K "place" "Puzzle.place" qO f7) (D8:Me K "clues" "Puzzle.clues" qP f8) (D9:Me K "rules" "Puzzle.rules" qQ f9) (eB:De K "bit_of" CM) (eI:De K "stands" CN) (eP:De K "clashes" Au) (eu:De K "clue_strikes" qS) (fj:De K "has_parts" we) (fe:De K "show_row" yr) (eM:De K "read_figure" nA) (eg:De K "show_numbers" qT) (fP:De K "refuse_no_text" kY) (gh:De K "thought_texts" md) (eZ:De K "words_of" so) (eN:De K "is_name" Av) (fJ:Me K "__init__" "Desk.__init__" pQ dA) (fS:Me K "named" "Desk.named" oZ dB) (ff:Me K "drop" "Desk.drop" wf dy) (es:De K "_law_cell_at" qU) (dV:De K "_law_no_rows" qV) (fB:De K "_law_no_names" pR) (fi:De K "_law_texts" uJ) (fH:De K "_law_kinds_of" pS) (eD:De K "is_from_one_to" o0) (fL:De K "number_within" me) (fv:De K "is_filling" uK) (fD:Me K "lines" "Puzzle.lines" qW dw) (ga:De K "refuse_many_signs" jr) (fI:De K "full_mask" wg) (dN:De K "without" Aw) (gf:De K "is_cell" Ax) (dU:De K "goes_by" Ay) (fR:De K "others" CS) (ea:De K "is_supposing" qX) (fA:De K "supposed" yz) (gb:De K "show_filling" qY) (eR:De K "read_row" sr) (fT:De K "read_numbers" mG) (fF:De K "_law_names" uL) (eh:De K "floor_of" ss) (ez:De K "first_within" mH) (fQ:De K "told_cells" o7) (dK:De K "rule_by" uM) (gg:De K "checked_clues" mf) (fr:De K "alike" zH) (eG:De K "full" GZ) (gi:De K "has_only" yD) (dT:De K "is_sign" Az) (fh:De K "has_its_rule" qZ) (fo:De K "read_filling" mI) (er:De K "show_puzzle" sJ) (eX:De K "read_plain" o8) (ef:DeA K "cells_of_rows" "cells_of" mh) (eL:De K "checked_floor" mi) (eA:De K "is_formed" wj) (fn:De K "only_strikes" q5) (fO:De K "strikes_on_floor" m3) (fU:De K "read_floor" o9) (et:De K "tell_hint" p9) (eF:De K "tell_wrong" pb) (fb:De K "tell_alike" pc) (ew:De K "tell_of" AA) (fp:De K "read_rule" qc) (ek:De K "strikes_by_line" nO) (fu:De K "is_formed_supposing" lp) (en:De K "is_passed_over" pe) (fm:De K "strikes_what_stands" lq) (eW:De K "read_rules" pf) (fl:De K "strikes" AB) (ej:Me K "__init__" "Puzzle.__init__" ky dE) (fV:De K "allowed" AC) (fg:Me K "clued" "Puzzle.clued" mJ dx) (dz:De K "fault_in" yI) (eV:De K "follow_from" nB) (eU:De K "read_puzzle" nE) (eS:De K "follow" wX) (fq:Me K "put" "Desk.put" sw dC) (fs:De K "read_supposing" kZ) (fE:De K "read_thought" mK) (dD:De K "read_inner" ph) (ey:De K "read_book" qh) (eT:De K "tell_checked" mL) (eb:De K "tell_by_text" mM) (fN:Me K "say" "Desk.say" sx dF) (fW:De K "_law_marks" uP) (ep:De K "law" yM) (dp:De K "hint" Le) (dh:De K "wrong" JW) (dt:GT0 K "KINDS" ge) (bL:GT0 K "LINE_KINDS" kE) (aF:GT0 K "NUMBER_KINDS" lI) (aI:GT0 K "OF_ALL_CELLS" fC) (bW:GT0 K "WITH_NAME" dm) (bf:GT0 K "WITH_NUMBER" fX) (ch:GT0 K "WITH_SIGN" iE) (ca:GT0 K "WITH_TEXT" ft) (as:GT0 K "WITH_TWO_NAMES" iw) (ar:GD0 w K "RULES_OF_KIND" gd_RULES_OF_KIND) (Os:nsIn K mainGlobals "BETWEEN_PARTS"=some (some<|.str (tx s!" | ") au)) (Ou:nsIn K mainGlobals "BETWEEN_ROWS"=some (some<|.str (tx s!"; ") aD)) (N8:nsIn K mainGlobals "FIGURES_fillings"=some (some<|.str (tx s!".123456") am)) (Ov:nsIn K mainGlobals "FIGURES_rows"=some (some<|.str (tx s!"0123456789") ax)) (O0:nsIn K mainGlobals "LETTERS"=some (some<|.str (tx s!"abcdefghijklmnopqrstuvwxyz") cs)) (OF:nsIn K mainGlobals "MOST_BOOKS"=some (some<|.int 16 bd)) (OG:nsIn K mainGlobals "MOST_CELLS"=some (some<|.int 16 br)) (Ow:nsIn K mainGlobals "MOST_FIGURES"=some (some<|.int 9 aA)) (Ox:nsIn K mainGlobals "MOST_LETTERS"=some (some<|.int 8 aw)) (OC:nsIn K mainGlobals "MOST_NUMBER"=some (some<|.int 99 aM)) (OH:nsIn K mainGlobals "MOST_RULES"=some (some<|.int 12 bJ)) (OV:nsIn K mainGlobals "MOST_SIDE"=some (some<|.int 6 bM)) (N9:nsIn K mainGlobals "MOST_SIGNS_alike"=some (some<|.int 4 aj)) (N7:nsIn K mainGlobals "MOST_SIGNS_floors"=some (some<|.int 6 ae)) (O1:nsIn K mainGlobals "SUPPOSE"=some (some<|.str (tx s!"suppose") cm)) (z:Zn K):
  ∃ fd:FuncData,(∀(s:Shared) (v:Value),BindsTo s fd ([v],[]) [("_law_script" ,v)])/\∀ base:Heap,K.In base->base.Ns mainGlobals mg->FnOk l.prog w K mg base CX0 60 fa fd ["_law_script"] (zx K):=by
 obtain⟨f,fd,a,F⟩:=ep.ex;have e:=eH.symm.trans<|PySem.W.mg_of X G a;cases e;obtain⟨oc,od,kV,eq,pm,an,Pd,ct,gl,rfl,lk,gj⟩:=F.ex;show(fnOf "law" "law" (gG yM) (c9 yM) (av yM) .none kV eq pm an Pd ct,λs v=>.of_eq rfl,λbase _ _=>?_);let Z:Z5:=(l.prog,w,K,mg,base);have B:Bt3 Z:=Ld X G z;let c:TJ:=mkC x1 x2 x3 x4 x5 x6 x7 x8;let d:TL:=mkD y1;let e:RCl DkK:=mkE z1;have CC:C8 K x1 x2 x3 x4 x5 x6 x7 x8:=(bV.cl,dn.cl,bT.cl,cV.cl,co.cl,bU.cl,aE.cl,cW.cl);have Mq:=B.ns Os;have Mf:=B.ns Ou;have Mj:=B.ns N8;have M4:=B.ns Ov;have Ob:=B.ns O0;have NL:=B.ns OF;have NC:=B.ns OG;have M5:=B.ns Ow;have M6:=B.ns Ox;have Nr:=B.ns OC;have NG:=B.ns OH;have No:=B.ns OV;have MK:=B.ns N9;have MJ:=B.ns N7;have Mz:=B.ns O1;let a:EA:=((y,J,C,N,D,I,M,P,L,O,R,b):EA);have EM:ErrMx Z.mg a:=(B.ns OW,B.ns OD,B.ns Ol,B.ns OR,B.ns Ot,B.ns OE,B.ns O5,B.ns O6,B.ns OS,B.ns OT,B.ns OX,B.ns NR);have BV:Z.mg "ValueError"=none:=PySem.W.mg_none_of X G OU;have x:ag Z.K a "NoRow" a.NoRow (aV a):=dr.to OX CE;have r:ag Z.K a "NoName" a.NoName (aO a):=dk.to OT CE;have t:ag Z.K a "NoText" a.NoText (aP a):=dg.to OS CE;have p:ag Z.K a "NoFloor" a.NoFloor (aK a):=cO.to OD CE;have u:ag Z.K a "NoRule" a.NoRule (aQ a):=de.to OR CE;have m:ag Z.K a "NoFilling" a.NoFilling (aC a):=cj.to Ol CE;have o:ag Z.K a "NoPuzzle" a.NoPuzzle (aG a):=ck.to Ot CE;have q:ag Z.K a "TooMany" a.TooMany (aL a):=cv.to OE CE;have U:XD Z.K a.BadThought a.ClueError T:=((bj,bv,bm,bI,aT),(_,_,_,_,_,_,_,_,_,_,_,_,_,_,bx),CE.ni,bo,bz,bk,bC);have j:cY Z.K a "BadThought" a.BadThought (az a):=(NR,U.is,(_,_,U),af,bc,bu,(Qs.mpr (aq,(Qs.mpr (ak,(Qs.mpr (ah,(Qs.mpr (ab,(Qs.mpr (al,(Qs.mpr (Y,(Qs.mpr (aa,(Qs.mpr (ad,(Qs.mpr (ai,(Qs.mpr (ao,(λ_ z=>nomatch z))))))))))))))))))))));have g:=XCal.of B NR U<|qi B EM U (aX,bb,bp) af bq;have NS:FldK Z.K c "amount":=fk8 CC cn;have ML:FldK Z.K c "cells":=fk8 CC cP;have N0:FldK Z.K c "floor":=fk8 CC cx;have Oa:FldK Z.K c "mark":=fk8 CC cX;have Mr:FldK Z.K c "words":=fk8 CC cE;have Mm:FldK Z.K d "floor":=⟨λ_ _=>(S.cl,cN)⟩;have MM:FldK Z.K d "given":=⟨λ_ _=>(S.cl,cQ)⟩;have My:FldK Z.K d "laws":=⟨λ_ _=>(S.cl,db)⟩;have Ml:FldK Z.K e "kept":=⟨λ_ _=>(ap.cl,dc)⟩;have OM:Ca9 Z 1 "hint" ["puzzle","entries"] spF:=calF B dp bd2<|λh=>h;have Oz:Ca9 Z 1 "wrong" ["puzzle","entries","kinds"] spF:=calF B dh bd3<|λh=>h;have MN:=dt.of B;have NH:=bL.of B;have Nf:=aF.of B;have M7:=aI.of B;have MF:=bW.of B;have Nt:=bf.of B;have NV:=ch.of B;have MG:=ca.of B;have MR:=as.of B;have MW:=GD0.of (Z:=Z) ar B;have Mb:=Df B D0;have Ma:=A2 B D1;have T2:=wO (c:=c) B NS ML N0 Oa Mr D2;have Oo:be Z "Unlike" (c.A .Unlike) c:=T2.mke B bV;have dv:be Z "Sum" (c.A .Sum) c:=T2.mke B dn;have On:be Z "Rising" (c.A .Rising) c:=T2.mke B bT;have OL:be Z "Seen" (c.A .Seen) c:=T2.mke B cV;have Oy:be Z "Count" (c.A .Count) c:=T2.mke B co;have Om:be Z "Joined" (c.A .Joined) c:=T2.mke B bU;have N2:be Z "NoSquare" (c.A .NoSquare) c:=T2.mke B aE;have OK:be Z "Ring" (c.A .Ring) c:=T2.mke B cW;have T3:=CJ (c:=c) B Mr D3;have OJ:GV Z c:=⟨λi hi=>T3.at (c8 CC i) (at8 a3 i) λ_ _ _ _ h=>(i,h)⟩;have T4:=A3 (c:=c) B ML D4;have Ny:zF Z c:=⟨λi hi=>T4.at (c8 CC i) (at8 a4 i) λ_ _ _ _ h=>(i,h)⟩;have T5:=CK (c:=c) B Mr D5;have OI:GU Z c:=⟨λi hi=>T5.at (c8 CC i) (at8 a5 i) λ_ _ _ _ h=>(i,h)⟩;have MH:=CL B M4 M5 D6;have T7:=yn (c:=c) (d:=d) B Mm D7;have Mc:jn Z c d:=⟨λi hi=>by cases i;show T7.at S.cl O2 λ_ _ _ _ h=>h⟩;have T8:=yo (c:=c) (d:=d) B MM D8;have NA:zC Z c d:=⟨λi hi=>by cases i;show T8.at S.cl O3 λ_ _ _ _ h=>h⟩;have T9:=yp (c:=c) (d:=d) B My D9;have Nz:zE Z c d:=⟨λi hi=>by cases i;show T9.at S.cl O4 λ_ _ _ _ h=>h⟩;have MC:=GW B eB;have MD:=GX B eI;have Ms:=Fl B eP;have M9:=yq B eu;have MI:=CO B fj;have N1:=Dg B Mj fe;have Np:=zG B Mj EM x r t p u m o q j g eM;have Mv:=yt B eg;have Mn:=vF B EM x r t p u m o q j g fP;have M0:=wP B Mf EM x r t p u m o q j g gh;have N6:=Dh B MF MG MR EM x r t p u m o q j g eZ;have Oh:=Fm B Ob M6 eN;have fM:=wQ (c:=c) (d:=d) (e:=e) B Ml fJ;have OP:pO Z "Desk" (e.A .Desk) c d e:=fM.mke B ap;have fx:=A4 (c:=c) (d:=d) (e:=e) B Ml EM x r t p u m o q j g fS;have Oj:Ef Z c d e:=⟨λi hi=>by cases i;show fx.at ap.cl O7 λ_ _ _ _ h=>h⟩;have eo:=CP (c:=c) (d:=d) (e:=e) B Ml ff;have OO:GT Z c d e:=⟨λi hi=>by cases i;show eo.at ap.cl O8 λ_ _ _ _ h=>h⟩;have Mt:=yu B es;have Nl:=yw B dV;have M3:=wR B fB;have NQ:=A5 B fi;have M2:=wS B EM x r t p u m o q j BV fH;have Mg:=vG B Mb eD;have Mp:=wT B MH EM x r t p u m o q j g fL;have NE:=A6 B Mb Ma fv;have em:=yx (c:=c) (d:=d) B My OI fD;have NB:zD Z c d:=⟨λi hi=>by cases i;show em.at S.cl OY λ_ _ _ _ h=>h⟩;have Mx:=sq (c:=c) (d:=d) B MK Mc EM x r t p u m o q j g ga;have NU:=CQ B MC fI;have Oc:=Fo B MC MD dN;have MU:=Fp B Mb Ma gf;have Od:=Fq (c:=c) B OJ MW dU;have Op:=GY (c:=c) B Ny fR;have Nh:=yy B MI Mz ea;have N5:=Di B MC fA;have Mu:=yA B N1 gb;have N3:=Dj B Np EM x r t p u m o q j g eR;have Mh:=yB B MH EM x r t p u m o q j g fT;have NP:=A7 B Mt fF;have MO:=Dk B Mg NC No MJ EM x r t p u m o q j g eh;have MP:=yC B Mp EM x r t p u m o q j g ez;have NF:=A8 B Ma Mp EM x r t p u m o q j g fQ;have Oe:=Fr (c:=c) B Oy Om N2 OK On OL dv Oo EM x r t p u m o q j g dK;have MY:=wU B NE EM x r t p u m o q j g gg;have OA:=Ii (c:=c) (d:=d) B Mx fr;have ON:=JX B NU Ma eG;have N4:=Dl B Oc gi;have MV:=Fs B Mg dT;have M8:=yE (c:=c) (d:=d) B Od Mb Nz Ny fh;have Mi:=yF B N3 EM x r t p u m o q j g fo;have Nq:=zI (c:=c) (d:=d) B Mu Mv Mq Mf NA NB Mc er;have NK:=A9 B Mh MN EM x r t p u m o q j g eX;have MX:=wV B Ma NF M7 EM x r t p u m o q j g ef;have MZ:=wW B MO EM x r t p u m o q j g eL;have NX:=CT (c:=c) (d:=d) B M8 MU MV Mb Mc MN eA;have Nd:=yG (c:=c) B N4 Op fn;have Md:=sZ (c:=c) (d:=d) B MI MU MV Mc fO;have NJ:=Ba B MO Mh EM x r t p u m o q j g fU;have NZ:=CU (c:=c) (d:=d) B Mi OM Mc et;have NM:=Bb (c:=c) (d:=d) B Mi Mv Oz Mc MN eF;have NN:=Bc (c:=c) (d:=d) B OA fb;have Oi:=Ft (c:=c) (d:=d) B Nq ew;have NW:=CV (c:=c) B MX MP Oe Nr Nt NV EM x r t p u m o q j g fp;have MQ:=uN (c:=c) (d:=d) B M9 Nd NA Mc Nz ek;have MA:=qd (c:=c) (d:=d) B Mb Md fu;have MS:=vH (c:=c) (d:=d) B MD Md en;have MB:=qf (c:=c) (d:=d) B MD Md fm;have NI:=Be (c:=c) B NW NG EM x r t p u m o q j g eW;have Of:=Fu (c:=c) (d:=d) B MQ NH Nf fl;have fy:=uO (c:=c) (d:=d) B MY MZ NI Mm MM My ej;have Ng:kx Z "Puzzle" (d.A .Puzzle) c d:=fy.mke B S;have Og:=Fv (c:=c) (d:=d) B NX Of fV;have fz:=yH (c:=c) (d:=d) B Mm NB Ng fg;have OB:Ee Z c d:=⟨λi hi=>by cases i;show fz.at S.cl OZ λ_ _ _ _ h=>h⟩
 have ME:∀ n,sk Z c d n:=λn=>by
  induction n with
  | zero=>show calF B dz bd3 AX
  | succ n ih=>
   have ME:=ih;show Cal.up (Dm (c:=c) (d:=d) B Og Ms ME MA MS Nh N5 dz) #[4]
 have Nv:=zJ (c:=c) (d:=d) B Ms (ME 2) MB EM x r t p u m o q j g eV;have Nw:=zK (c:=c) (d:=d) B Ma Mi NJ Mn Mq Mf OB Ng EM x r t p u m o q j g eU;have Oq:=G1 (c:=c) (d:=d) B Nv ON Mc eS;have fk:=Dn (c:=c) (d:=d) (e:=e) B Oh Nw Ml EM x r t p u m o q j g fq;have du:Iw Z c d e:=⟨λi hi=>by cases i;show fk.at ap.cl O9 λ_ _ _ _ h=>h⟩
 have Mw:∀ n,oY Z n:=λn=>by
  induction n with
  | zero=>show LV B dD bd2 xJ
  | succ n ih=>
   have Mw:=ih;have MT:=vI B Mw Mh Mz EM x r t p u m o q j g fs;have Ni:=yJ B NK MT Mz fE;show Cal1.up (Bf B Ni M0 NL EM x r t p u m o q j g dD) #[4]
 have NY:=CW B (Mw 17) Mn ey;have Nj:=yK (c:=c) (d:=d) B Ms Oq NY Mu Mc eT;have Nk:=yL (c:=c) (d:=d) B Nj NZ NM eb;have fw:=Do (c:=c) (d:=d) (e:=e) B NN Nk Oi N6 OO Oj du MF MG fN;have dq:Fk Z c d e:=⟨λi hi=>by cases i;show fw.at ap.cl Pa λ_ _ _ _ h=>h⟩;have NO:=Bg (c:=c) (d:=d) (e:=e) B M2 dq EM x r t p u m o q j fW;show(Lf (c:=c) (d:=d) (e:=e) B Mt NO NP M3 Nl NQ dq OP F).imp λvs H Q E h=>by obtain⟨a,ns,ev,hS,hn,k⟩:=h;show(a,ns,ev,hS,hn,(λk hk=>by cases k <;> first | rfl | show absurd rfl hk),rfl,rfl,k)
def  walk {q:Program} {b:List Str} {o:(Str->Option Value)->Heap->Prop} {i:World->Heap->Prop} {d:DefRec} {K:Params->Frag} (j:l.most=some 63) (c:d.params.defaults=[])
  (m:∀(w:World) (h:Heap),i w h->(K w.params).In h)
  (F:∀(w:World) (mg:Str->Option Value) (g:Addr) (h:Heap),(K w.params).In h->h.Ns mainGlobals mg->mg d.name=↑g->
   ∃ e:FuncData,(∀(s:Shared) (u:Value),BindsTo s e ([u],[]) [("_law_script" ,u)])/\∀ base:Heap,(K w.params).In base->base.Ns mainGlobals mg->FnOk l.prog w (K w.params) mg base CX0 60 g e ["_law_script"] (zx<|K w.params)):
  PySem.W.WalkO q b o i l.row.toRowW d [] (λf vs=>PySem.call f vs):=
 L2.IG (n:=63) (k:=60) (x:="_law_script") (CX:=λ_=>CX0) (sp:=λw=>zx<|K w.params) j #[1] c (rfl,by decide,by decide) m F (λ_ _ a ns r _ p=>(a,ns,rfl,p,r,λ_=>rfl)) λ_ _ _ _ _ z=>z
variable{P:Program}{w:World}{K:Frag}{mg:Str->Option Value}{base:Heap}
def  vJ {w:World} {K:Frag} {p:Addr} {ep:Nat} {D:Int} {ah:Tok} {r:Addr} {S:Option Addr} {au:Nat} {T:Array (Option Value)} {g:Tok} {H:Int} {ab:Tok} {y:Addr} {C:Option Addr} {ar:Nat} {L:Array (Option Value)} {j:Tok} {P:Int} {ad:Tok} {F:Addr} {R:Option Addr} {as:Nat} {I:Array (Option Value)} {f:Tok} {q:Int} {ao:Tok} {v:Addr} {G:Option Addr} {ai:Nat} {s:Array (Option Value)} {e:Tok} {n:Int} {am:Tok} {A:Addr} {W:Option Addr} {aq:Nat} {m:Array (Option Value)} {d:Tok} {M:Int} {af:Tok} {X:Addr} {Y:Option Addr} {ae:Nat} {N:Array (Option Value)} {k:Tok} {B:Int} {ap:Tok} {t:Addr} {E:Option Addr} {aa:Nat} {O:Array (Option Value)} {c l:Tok} {z:Int} {ak:Tok} {Q:Addr} {Z:Option Addr} {ag:Nat} {J:Array (Option Value)} {h:Tok} {x:Int} {aj:Tok} {U:Addr} {o:Option Addr} {al:Nat} {u:Array (Option Value)} {i:Tok}
  (a:nsIn K mainGlobals "RULES_OF_KIND"=some ↑p) (b:K.lookup p=some (.type "dict",none,.dict #[(D,.str (tx s!"only") ah,.ref r),(H,.str (tx s!"place") ab,.ref y),(P,.str (tx s!"count") ad,.ref F),(q,.str (tx s!"step") ao,.ref v),(n,.str (tx s!"sum") am,.ref A),(M,.str (tx s!"square") af,.ref X),(B,.str (tx s!"reach") ap,.ref t),(z,.str (tx s!"turn") ak,.ref Q),(x,.str (tx s!"pair") aj,.ref U)] ep,#[])) (k0:K.lookup r=some (.type "tuple",S,.seq #[.str (tx s!"unlike") g] au,T)) (h0:D=hashStr w (tx s!"only")) (k1:K.lookup y=some (.type "tuple",C,.seq #[.str (tx s!"unlike") j] ar,L)) (h1:H=hashStr w (tx s!"place")) (k2:K.lookup F=some (.type "tuple",R,.seq #[.str (tx s!"count") f] as,I)) (h2:P=hashStr w (tx s!"count")) (k3:K.lookup v=some (.type "tuple",G,.seq #[.str (tx s!"rising") e] ai,s)) (h3:q=hashStr w (tx s!"step")) (k4:K.lookup A=some (.type "tuple",W,.seq #[.str (tx s!"sum") d] aq,m)) (h4:n=hashStr w (tx s!"sum")) (k5:K.lookup X=some (.type "tuple",Y,.seq #[.str (tx s!"nosquare") k] ae,N)) (h5:M=hashStr w (tx s!"square")) (k6:K.lookup t=some (.type "tuple",E,.seq #[.str (tx s!"joined") c,.str (tx s!"ring") l] aa,O)) (h6:B=hashStr w (tx s!"reach")) (k7:K.lookup Q=some (.type "tuple",Z,.seq #[.str (tx s!"ring") h] ag,J)) (h7:z=hashStr w (tx s!"turn")) (k8:K.lookup U=some (.type "tuple",o,.seq #[.str (tx s!"unlike") i] al,u)) (h8:x=hashStr w (tx s!"pair")):GD0 w K "RULES_OF_KIND" gd_RULES_OF_KIND:=
 (p,_,_,_,a,b,(rfl,rfl,rfl),rfl,(.cons h0 k0 rfl rfl (Qd<|aZ<|Ql rfl) (.cons (_,rfl) .nil)<|.cons h1 k1 rfl rfl (Qd<|aZ<|Ql rfl) (.cons (_,rfl) .nil)<|.cons h2 k2 rfl rfl (Qd<|aZ<|Ql rfl) (.cons (_,rfl) .nil)<|.cons h3 k3 rfl rfl (Qd<|aZ<|Ql rfl) (.cons (_,rfl) .nil)<|.cons h4 k4 rfl rfl (Qd<|aZ<|Ql rfl) (.cons (_,rfl) .nil)<|.cons h5 k5 rfl rfl (Qd<|aZ<|Ql rfl) (.cons (_,rfl) .nil)<|.cons h6 k6 rfl rfl (Qd<|aZ<|Ql rfl) (.cons (_,rfl)<|.cons (_,rfl) .nil)<|.cons h7 k7 rfl rfl (Qd<|aZ<|Ql rfl) (.cons (_,rfl) .nil)<|.cons h8 k8 rfl rfl (Qd<|aZ<|Ql rfl) (.cons (_,rfl) .nil) .nil),by decide+kernel)
end L2
end
open PySem PySem.W PyProof.Rows
namespace PySem.W.Fast
theorem Z:True:=⟨⟩
end PySem.W.Fast
set_option maxRecDepth 100000 in
set_option maxHeartbeats 0 in
theorem PySem.Challenge.cw_cluemaker_k75_a_desk_refuses_holds : PySem.Challenge.rw_cluemaker_k75_a_desk_refuses.Holds := by
  refine H9.t9 ?_
  k_fill
  refine L2.walk (l := PySem.Challenge.rw_cluemaker_k75_a_desk_refuses) rfl rfl (fun w h Y => PySem.W.kIn_of Y) ?F
  case F =>
    intro w mg fa h KX G hmg
    refine' L2.Lg KX G hmg ?_ ?_ ?_ ?_ ?_ ?_ ?_ ?_ ?_ ?_ ?_ ?_ ?_ ?_ ?_ ?_ ?_ ?_ ?_ ?_ ?_ ?_ ?_ ?_ ?_ ?_ ?_ ?_ ?_ ?_ ?_ ?_ ?_ ?_ ?_ ?_ ?_ ?_ ?_ ?_ ?_ ?_ ?_ ?_ ?_ ?_ ?_ ?_ ?_ ?_ ?_ ?_ ?_ ?_ ?_ ?_ ?_ ?_ ?_ ?_ ?_ ?_ ?_ ?_ ?_ ?_ ?_ ?_ ?_ ?_ ?_ ?_ ?_ ?_ ?_ ?_ ?_ ?_ ?_ ?_ ?_ ?_ ?_ ?_ ?_ ?_ ?_ ?_ ?_ ?_ ?_ ?_ ?_ ?_ ?_ ?_ ?_ ?_ ?_ ?_ ?_ ?_ ?_ ?_ ?_ ?_ ?_ ?_ ?_ ?_ ?_ ?_ ?_ ?_ ?_ ?_ ?_ ?_ ?_ ?_ ?_ ?_ ?_ ?_ ?_ ?_ ?_ ?_ ?_ ?_ ?_ ?_ ?_ ?_ ?_ ?_ ?_ ?_ ?_ ?_ ?_ ?_ ?_ ?_ ?_ ?_ ?_ ?_ ?_ ?_ ?_ ?_ ?_ ?_ ?_ ?_ ?_ ?_ ?_ ?_ ?_ ?_ ?_ ?_ ?_ ?_ ?_ ?_ ?_ ?_ ?_ ?_ ?_ ?_ ?_ ?_ ?_ ?_ ?_ ?_ ?_ ?_ ?_ ?_ ?_ ?_ ?_ ?_ ?_ ?_ ?_ ?_ ?_ ?_ ?_ ?_ ?_ ?_ ?_ ?_ ?_
    all_goals first
      | (refine' L2.De.of ?a (L2.Bw ?l ?c ?k); (case a => k_is); (case l => k_is); (case c => k_is); case k => k_is)
      | (refine' L2.DeA.of ?a (L2.Bw ?l ?c ?k); (case a => k_is); (case l => k_is); (case c => k_is); case k => k_is)
      | (refine' L2.Me.of (L2.Bw ?l ?c ?k) ?n; (case l => k_is); (case c => k_is); (case k => k_is); case n => k_is)
      | (refine' L2.ClsP.mk ?a ?b ?c ?d ⟨?e, ?f, ?g, ?h⟩; (case a => k_is); (case b => k_is); (case c => k_is); (case d => k_is); (case e => k_is); (case f => k_is); (case g => k_is); case h => k_is)
      | (unfold L2.At8; refine' ⟨?_, ?_, ?_, ?_, ?_, ?_, ?_, ?_⟩ <;> k_is)
      | (refine' L2.GT0.mk' ?a ?b ?x ?y ?c ?d; (case a => k_is); (case b => k_is); (case x => rfl); (case y => rfl); (case c => exact Nat.le_of_lt (L2.aZ (by decide))); (case d => repeat' (first | exact .nil | refine' .cons ⟨_, rfl⟩ ?_)))
      | (refine' L2.vJ ?a ?b ?k0 ?h0 ?k1 ?h1 ?k2 ?h2 ?k3 ?h3 ?k4 ?h4 ?k5 ?h5 ?k6 ?h6 ?k7 ?h7 ?k8 ?h8; (case a => k_is); (case b => k_is); (case k0 => k_is); (case h0 => first | exact rfl | with_unfolding_all rfl); (case k1 => k_is); (case h1 => first | exact rfl | with_unfolding_all rfl); (case k2 => k_is); (case h2 => first | exact rfl | with_unfolding_all rfl); (case k3 => k_is); (case h3 => first | exact rfl | with_unfolding_all rfl); (case k4 => k_is); (case h4 => first | exact rfl | with_unfolding_all rfl); (case k5 => k_is); (case h5 => first | exact rfl | with_unfolding_all rfl); (case k6 => k_is); (case h6 => first | exact rfl | with_unfolding_all rfl); (case k7 => k_is); (case h7 => first | exact rfl | with_unfolding_all rfl); (case k8 => k_is); case h8 => first | exact rfl | with_unfolding_all rfl)
      | (unfold L2.Zn; refine' ⟨?_, ?_, ?_, ?_, ?_, ?_, ?_, ?_, ?_, ?_, ?_, ?_, ?_, ?_, ?_, ?_, ?_, ?_, ?_⟩ <;> (unfold L2.Nn; k_is))
      | (unfold L2.Nn; k_is)
      | (refine' L2.Rf1P.of ?a ?b ?c ⟨?_, ?_, ?_, ?_, ?_⟩ ?e ?f ?g; (case a => k_is); (case b => k_is); (case c => first | kernel_rfl | exact rfl); (case e => kit_is); (case f => kts_exm); (case g => repeat' (first | refine' List.forall_mem_cons.mpr ⟨?_, ?_⟩ | exact List.forall_mem_nil _ | kit_is)); all_goals k_is)
      | (refine' L2.CE0.of ?a ?b ?c ?d; (case a => k_is); (case b => exact rfl); (case c => k_is); case d => first | kernel_rfl | exact rfl)
      | k_is
      | kit_is
      | kts_exm
      | skip
