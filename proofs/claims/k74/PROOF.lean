import PyProof.Rows.All
import Wide.All
import OpenK.AllK
import Wide.FinOn
import Lean
import PyProof.EqAt
import PyProof.EqKinds
import PyProof.TupleCall
import PyProof.ZipIter
import PyProof.ConsumeS
import PyProof.StrCalls2
import PyProof.StrWalks
import PyProof.SliceStr2
import PyProof.StrBlock
import PyProof.StrBlockL
import PyProof.ListIndex
import PyProof.StrLawsTight
import PyProof.StrLawsChain
import PyProof.StrLaws
import PyProof.StrLawsFirst
import PyProof.StationsW
import PyProof.ExcClass3
import PyProof.NsDelKeeps
import PyProof.RulesAs
import PyProof.ExcBaseAll.ValueError
import PyProof.ExcArgsOwn
import PyProof.ExcAttrAll.ValueError
import KE.KTryMore
import KE.RegKTryMore
import KE.RegKIsAll
import PyProof.Rows.Range3
import PyProof.Rows.SumGenD
import PyProof.Rows.RuleM_int
import PyProof.EnumMake
import PyProof.EnumFor
import PyProof.EnumStmt
import PyProof.Rows.EnumRows
import KE.KRevIter
import PyProof.ListNew
import PyProof.CollectIter
import PyProof.ListRange
import PyProof.CallStr
import PyProof.StrBlock2
import PyProof.Rows.StrMadeLen
import PyProof.Rows.SetFrom
import PyProof.SetRoads
import PyProof.MeetsStr2
import KE.KRevSl
import PyProof.Conv_int
import Open.Tops
import PySem.Challenge.RW_cluemaker_k74_a_desk_keeps_puzzles
set_option Elab.async false
section
open PySem PySem.W PyProof.Rows
set_option Elab.async false
set_option maxRecDepth 100000
set_option maxHeartbeats 0
section
local macro_rules|`(universe $x)=>do
 let mut a:=#[`PySem.Challenge.rw_cluemaker_k74_a_desk_keeps_puzzles,`PySem.Challenge.pw_cluemaker_k74_a_desk_keeps_puzzles]
 for i in [0:1806] do a:=a.push (x.getId.str s!"o_{i}")
 for g in ["env 1","sts 4 21 37 53 69 85 101 117 133 149 165 181 232 280 363 386 416 444 474 497 527 548 582 654 721 805 880 971 1030 1106 1177 1260 1338 1419 1495 1569 1646 1705 1764","tree 4 19 35 51 67 83 99 115 131 147 163 179 230 278 361 384 414 442 472 495 525 546 580 652 719 803 878 969 1026 1104 1175 1258 1336 1417 1493 1567 1644 1703 1762 1805"] do
  let l:=g.splitOn " "
  for i in l.tail! do a:=a.push (x.getId.str (l.head!++"_"++i))
 return Lean.mkNullNode (<-a.mapM fun n=>do return (<-`(theorem $(Lean.mkIdent (.mkStr4 "PySem" "W" "Fast" s!"tw{n.hash}")):ident:True:=trivial)).raw)
universe PySem.Challenge.s9
end
theorem H9.sa9 (h : PySem.Challenge.rw_cluemaker_k74_a_desk_keeps_puzzles.row.wellSaid = true → PySem.Challenge.rw_cluemaker_k74_a_desk_keeps_puzzles.row.Holds) : PySem.Challenge.rw_cluemaker_k74_a_desk_keeps_puzzles.Holds := by
  w_on; o_law
  exact h (by assumption)
open_shared PySem.Challenge.s9 for PySem.Challenge.pw_cluemaker_k74_a_desk_keeps_puzzles leaving 0
namespace H9
open PySem.Challenge
noncomputable abbrev p9 : Program := PySem.Challenge.pw_cluemaker_k74_a_desk_keeps_puzzles
noncomputable abbrev r9 : PySem.W.OpenRow := PySem.Challenge.rw_cluemaker_k74_a_desk_keeps_puzzles.row
noncomputable abbrev c9 : Code := Code.body (behindTheImports p9) s9.env_1
noncomputable abbrev o9 : Pos := ⟨0, 0, 0, 0⟩
noncomputable abbrev Sb (w : World) (os : OsState) : Shared := (⟨s9.tree_4 w.params, 15, {}, ⟨[]⟩, {}, 187, os⟩ : SharedT).abs
noncomputable abbrev Sk (w : World) (os : OsState) : Shared := (⟨s9.tree_1805 w.params, 1679, {}, ⟨[]⟩, {}, 2518, os⟩ : SharedT).abs
theorem obs9 {t : BT} {n : Nat} {l : Life} {as : List Addr} : ∀ {K : List (Addr × Obj)}, K.map (fun p => (Nat.blt p.1 n, t.get p.1, alive p.2)) = K.map (fun p => (true, some p.2, some p.2)) → as = K.map (·.1) → as.map (absHeap t n l).get? = K.map fun p => some p.2
  | K, h, e => by
    subst e
    rw [List.map_map]
    refine List.map_congr_left fun p hp => ?_
    have := List.map_inj_left.mp h p hp
    simp only [Prod.mk.injEq] at this
    obtain ⟨h1, h2, h3⟩ := this
    exact (abs_get (Nat.le_of_ble_eq_true h1) h2).trans h3
theorem pre9 (w : World) (os : OsState) : topGo treeTable p9 w 11 (some (Value.ref 6)) 12 ⟨boot_heap w.params, ⟨[]⟩, boot_drawn, boot_toks, os⟩ (topStub p9) = some (Sb w os, ⟨denote treeTable c9, c9, o9, [topFrame o9]⟩) := by kernel_rfl
theorem blk9 (w : World) (os : OsState) : segRun treeTable p9 w 11 (some (Value.ref 6)) 1 1 (Sb w os) (blockOf (behindTheImports p9) s9.env_1 c9 o9 [topFrame o9]) = some (.next, Sb w os, c9, o9) := by kernel_rfl
theorem fin9 (w : World) (os : OsState) : topRun treeTable p9 w 11 (some (Value.ref 6)) 2 (Sk w os) ⟨doneF .next, c9, { line := 1144, col := 0, endLine := 1163, endCol := 15 }, [topFrame o9]⟩ = some (Sk w os) := by kernel_rfl
theorem bod9 : behindTheImports p9 = s9.sts_4 ++ (s9.sts_21 ++ (s9.sts_37 ++ (s9.sts_53 ++ (s9.sts_69 ++ (s9.sts_85 ++ (s9.sts_101 ++ (s9.sts_117 ++ (s9.sts_133 ++ (s9.sts_149 ++ (s9.sts_165 ++ (s9.sts_181 ++ (s9.sts_232 ++ (s9.sts_280 ++ (s9.sts_363 ++ (s9.sts_386 ++ (s9.sts_416 ++ (s9.sts_444 ++ (s9.sts_474 ++ (s9.sts_497 ++ (s9.sts_527 ++ (s9.sts_548 ++ (s9.sts_582 ++ (s9.sts_654 ++ (s9.sts_721 ++ (s9.sts_805 ++ (s9.sts_880 ++ (s9.sts_971 ++ (s9.sts_1030 ++ (s9.sts_1106 ++ (s9.sts_1177 ++ (s9.sts_1260 ++ (s9.sts_1338 ++ (s9.sts_1419 ++ (s9.sts_1495 ++ (s9.sts_1569 ++ (s9.sts_1646 ++ (s9.sts_1705 ++ (s9.sts_1764 ++ [])))))))))))))))))))))))))))))))))))))) := by kernel_rfl
theorem run9 (w : World) (os : OsState) : topRun treeTable p9 w 11 (some (Value.ref 6)) (12 + (1 + (196 + (214 + (214 + (214 + (214 + (214 + (214 + (214 + (214 + (214 + (214 + (401 + (223 + (505 + (246 + (276 + (272 + (279 + (245 + (277 + (241 + (385 + (355 + (436 + (391 + (386 + (400 + (396 + (374 + (379 + (396 + (396 + (395 + (399 + (376 + (394 + (245 + (392 + (208 + 2))))))))))))))))))))))))))))))))))))))))) ⟨boot_heap w.params, ⟨[]⟩, boot_drawn, boot_toks, os⟩ (topStub p9) = some (Sk w os) :=
  go_top (pre9 w os) (piece_block (blk9 w os) (bod9 ▸ s9.chain p9 (behindTheImports p9) w os [] 2 _ (piece_nil (fin9 w os))))
noncomputable def q9 : Program := view p9 [257]
noncomputable def l9 : List Str := (p9.main.scope.names.map (·.1)).filter fun n => !(n == Str.ofString "law")
noncomputable def H1 (P : Params) : Heap := absHeap (s9.tree_1805 P) 1679 {}
noncomputable abbrev T9 (w : World) (os : OsState) : Shared := ⟨H1 w.params, ⟨[]⟩, {}, 2518, os⟩
noncomputable def K9 : Params → PySem.W.Frag := fun P => (nat_lit 2,boot_o_2 P)::(nat_lit 3,s9.o_1764 P)::(nat_lit 15,s9.o_7 P)::(nat_lit 22,s9.o_14 P)::(nat_lit 23,s9.o_15 P)::(nat_lit 24,s9.o_183 P)::(nat_lit 25,s9.o_17 P)::(nat_lit 28,s9.o_24 P)::(nat_lit 35,s9.o_31 P)::(nat_lit 36,s9.o_32 P)::(nat_lit 37,s9.o_33 P)::(nat_lit 40,s9.o_40 P)::(nat_lit 47,s9.o_47 P)::(nat_lit 48,s9.o_48 P)::(nat_lit 49,s9.o_49 P)::(nat_lit 52,s9.o_56 P)::(nat_lit 59,s9.o_63 P)::(nat_lit 60,s9.o_64 P)::(nat_lit 61,s9.o_65 P)::(nat_lit 64,s9.o_72 P)::(nat_lit 71,s9.o_79 P)::(nat_lit 72,s9.o_80 P)::(nat_lit 73,s9.o_81 P)::(nat_lit 76,s9.o_88 P)::(nat_lit 83,s9.o_95 P)::(nat_lit 84,s9.o_96 P)::(nat_lit 85,s9.o_97 P)::(nat_lit 88,s9.o_104 P)::(nat_lit 95,s9.o_111 P)::(nat_lit 96,s9.o_112 P)::(nat_lit 97,s9.o_113 P)::(nat_lit 100,s9.o_120 P)::(nat_lit 107,s9.o_127 P)::(nat_lit 108,s9.o_128 P)::(nat_lit 109,s9.o_129 P)::(nat_lit 112,s9.o_136 P)::(nat_lit 119,s9.o_143 P)::(nat_lit 120,s9.o_144 P)::(nat_lit 121,s9.o_145 P)::(nat_lit 124,s9.o_152 P)::(nat_lit 131,s9.o_159 P)::(nat_lit 132,s9.o_160 P)::(nat_lit 133,s9.o_161 P)::(nat_lit 136,s9.o_168 P)::(nat_lit 143,s9.o_175 P)::(nat_lit 144,s9.o_176 P)::(nat_lit 145,s9.o_177 P)::(nat_lit 148,s9.o_184 P)::(nat_lit 155,s9.o_191 P)::(nat_lit 157,s9.o_193 P)::(nat_lit 158,s9.o_194 P)::(nat_lit 160,s9.o_196 P)::(nat_lit 161,s9.o_197 P)::(nat_lit 162,s9.o_198 P)::(nat_lit 163,s9.o_199 P)::(nat_lit 164,s9.o_200 P)::(nat_lit 167,s9.o_203 P)::(nat_lit 169,s9.o_205 P)::(nat_lit 170,s9.o_206 P)::(nat_lit 172,s9.o_208 P)::(nat_lit 173,s9.o_209 P)::(nat_lit 174,s9.o_210 P)::(nat_lit 176,s9.o_212 P)::(nat_lit 177,s9.o_213 P)::(nat_lit 179,s9.o_215 P)::(nat_lit 180,s9.o_216 P)::(nat_lit 181,s9.o_217 P)::(nat_lit 183,s9.o_219 P)::(nat_lit 184,s9.o_220 P)::(nat_lit 186,s9.o_222 P)::(nat_lit 187,s9.o_223 P)::(nat_lit 188,s9.o_224 P)::(nat_lit 190,s9.o_226 P)::(nat_lit 191,s9.o_227 P)::(nat_lit 193,s9.o_229 P)::(nat_lit 194,s9.o_230 P)::(nat_lit 195,s9.o_234 P)::(nat_lit 197,s9.o_236 P)::(nat_lit 198,s9.o_237 P)::(nat_lit 200,s9.o_239 P)::(nat_lit 201,s9.o_240 P)::(nat_lit 202,s9.o_241 P)::(nat_lit 204,s9.o_243 P)::(nat_lit 205,s9.o_244 P)::(nat_lit 207,s9.o_246 P)::(nat_lit 208,s9.o_247 P)::(nat_lit 209,s9.o_248 P)::(nat_lit 211,s9.o_250 P)::(nat_lit 212,s9.o_251 P)::(nat_lit 214,s9.o_253 P)::(nat_lit 215,s9.o_254 P)::(nat_lit 216,s9.o_255 P)::(nat_lit 218,s9.o_257 P)::(nat_lit 219,s9.o_258 P)::(nat_lit 221,s9.o_260 P)::(nat_lit 222,s9.o_261 P)::(nat_lit 223,s9.o_262 P)::(nat_lit 226,s9.o_265 P)::(nat_lit 227,s9.o_266 P)::(nat_lit 228,s9.o_267 P)::(nat_lit 230,s9.o_269 P)::(nat_lit 231,s9.o_270 P)::(nat_lit 233,s9.o_272 P)::(nat_lit 234,s9.o_273 P)::(nat_lit 235,s9.o_274 P)::(nat_lit 238,s9.o_277 P)::(nat_lit 239,s9.o_278 P)::(nat_lit 247,s9.o_289 P)::(nat_lit 249,s9.o_291 P)::(nat_lit 250,s9.o_292 P)::(nat_lit 252,s9.o_294 P)::(nat_lit 253,s9.o_295 P)::(nat_lit 254,s9.o_296 P)::(nat_lit 256,s9.o_298 P)::(nat_lit 257,s9.o_299 P)::(nat_lit 259,s9.o_301 P)::(nat_lit 260,s9.o_302 P)::(nat_lit 261,s9.o_303 P)::(nat_lit 263,s9.o_305 P)::(nat_lit 264,s9.o_306 P)::(nat_lit 266,s9.o_308 P)::(nat_lit 267,s9.o_309 P)::(nat_lit 268,s9.o_310 P)::(nat_lit 270,s9.o_312 P)::(nat_lit 271,s9.o_313 P)::(nat_lit 273,s9.o_315 P)::(nat_lit 274,s9.o_316 P)::(nat_lit 275,s9.o_317 P)::(nat_lit 277,s9.o_319 P)::(nat_lit 278,s9.o_320 P)::(nat_lit 280,s9.o_322 P)::(nat_lit 281,s9.o_323 P)::(nat_lit 282,s9.o_324 P)::(nat_lit 284,s9.o_326 P)::(nat_lit 285,s9.o_327 P)::(nat_lit 287,s9.o_329 P)::(nat_lit 288,s9.o_330 P)::(nat_lit 289,s9.o_331 P)::(nat_lit 291,s9.o_333 P)::(nat_lit 292,s9.o_334 P)::(nat_lit 294,s9.o_336 P)::(nat_lit 295,s9.o_337 P)::(nat_lit 296,s9.o_338 P)::(nat_lit 298,s9.o_340 P)::(nat_lit 299,s9.o_341 P)::(nat_lit 301,s9.o_343 P)::(nat_lit 302,s9.o_344 P)::(nat_lit 303,s9.o_345 P)::(nat_lit 306,s9.o_348 P)::(nat_lit 307,s9.o_349 P)::(nat_lit 308,s9.o_350 P)::(nat_lit 311,s9.o_353 P)::(nat_lit 312,s9.o_354 P)::(nat_lit 313,s9.o_355 P)::(nat_lit 314,s9.o_356 P)::(nat_lit 315,s9.o_529 P)::(nat_lit 316,s9.o_358 P)::(nat_lit 317,s9.o_359 P)::(nat_lit 320,s9.o_366 P)::(nat_lit 327,s9.o_373 P)::(nat_lit 329,s9.o_375 P)::(nat_lit 330,s9.o_376 P)::(nat_lit 332,s9.o_378 P)::(nat_lit 333,s9.o_379 P)::(nat_lit 334,s9.o_380 P)::(nat_lit 335,s9.o_381 P)::(nat_lit 336,s9.o_382 P)::(nat_lit 339,s9.o_389 P)::(nat_lit 346,s9.o_396 P)::(nat_lit 348,s9.o_398 P)::(nat_lit 349,s9.o_399 P)::(nat_lit 351,s9.o_401 P)::(nat_lit 352,s9.o_402 P)::(nat_lit 353,s9.o_403 P)::(nat_lit 355,s9.o_405 P)::(nat_lit 356,s9.o_406 P)::(nat_lit 358,s9.o_408 P)::(nat_lit 359,s9.o_409 P)::(nat_lit 360,s9.o_410 P)::(nat_lit 361,s9.o_411 P)::(nat_lit 362,s9.o_412 P)::(nat_lit 365,s9.o_419 P)::(nat_lit 372,s9.o_426 P)::(nat_lit 374,s9.o_428 P)::(nat_lit 375,s9.o_429 P)::(nat_lit 377,s9.o_431 P)::(nat_lit 378,s9.o_432 P)::(nat_lit 379,s9.o_433 P)::(nat_lit 382,s9.o_436 P)::(nat_lit 383,s9.o_437 P)::(nat_lit 384,s9.o_438 P)::(nat_lit 385,s9.o_439 P)::(nat_lit 386,s9.o_440 P)::(nat_lit 389,s9.o_447 P)::(nat_lit 396,s9.o_454 P)::(nat_lit 398,s9.o_456 P)::(nat_lit 399,s9.o_457 P)::(nat_lit 401,s9.o_459 P)::(nat_lit 402,s9.o_460 P)::(nat_lit 403,s9.o_461 P)::(nat_lit 405,s9.o_463 P)::(nat_lit 406,s9.o_464 P)::(nat_lit 408,s9.o_466 P)::(nat_lit 409,s9.o_467 P)::(nat_lit 410,s9.o_468 P)::(nat_lit 411,s9.o_469 P)::(nat_lit 412,s9.o_470 P)::(nat_lit 415,s9.o_477 P)::(nat_lit 422,s9.o_484 P)::(nat_lit 424,s9.o_486 P)::(nat_lit 425,s9.o_487 P)::(nat_lit 427,s9.o_489 P)::(nat_lit 428,s9.o_490 P)::(nat_lit 429,s9.o_491 P)::(nat_lit 430,s9.o_492 P)::(nat_lit 431,s9.o_493 P)::(nat_lit 434,s9.o_500 P)::(nat_lit 441,s9.o_507 P)::(nat_lit 443,s9.o_509 P)::(nat_lit 444,s9.o_510 P)::(nat_lit 446,s9.o_512 P)::(nat_lit 447,s9.o_513 P)::(nat_lit 448,s9.o_514 P)::(nat_lit 450,s9.o_516 P)::(nat_lit 451,s9.o_517 P)::(nat_lit 453,s9.o_519 P)::(nat_lit 454,s9.o_520 P)::(nat_lit 455,s9.o_521 P)::(nat_lit 456,s9.o_522 P)::(nat_lit 457,s9.o_550 P)::(nat_lit 460,s9.o_530 P)::(nat_lit 467,s9.o_537 P)::(nat_lit 470,s9.o_540 P)::(nat_lit 471,s9.o_541 P)::(nat_lit 472,s9.o_542 P)::(nat_lit 473,s9.o_543 P)::(nat_lit 474,s9.o_544 P)::(nat_lit 477,s9.o_551 P)::(nat_lit 484,s9.o_558 P)::(nat_lit 487,s9.o_561 P)::(nat_lit 488,s9.o_562 P)::(nat_lit 489,s9.o_563 P)::(nat_lit 492,s9.o_566 P)::(nat_lit 493,s9.o_567 P)::(nat_lit 494,s9.o_568 P)::(nat_lit 495,s9.o_569 P)::(nat_lit 496,s9.o_570 P)::(nat_lit 499,s9.o_573 P)::(nat_lit 500,s9.o_574 P)::(nat_lit 501,s9.o_575 P)::(nat_lit 502,s9.o_576 P)::(nat_lit 505,s9.o_579 P)::(nat_lit 506,s9.o_580 P)::(nat_lit 507,s9.o_584 P)::(nat_lit 510,s9.o_587 P)::(nat_lit 511,s9.o_588 P)::(nat_lit 512,s9.o_589 P)::(nat_lit 514,s9.o_591 P)::(nat_lit 515,s9.o_592 P)::(nat_lit 517,s9.o_594 P)::(nat_lit 518,s9.o_595 P)::(nat_lit 519,s9.o_596 P)::(nat_lit 521,s9.o_598 P)::(nat_lit 522,s9.o_599 P)::(nat_lit 524,s9.o_601 P)::(nat_lit 525,s9.o_602 P)::(nat_lit 526,s9.o_603 P)::(nat_lit 529,s9.o_606 P)::(nat_lit 530,s9.o_607 P)::(nat_lit 531,s9.o_608 P)::(nat_lit 533,s9.o_610 P)::(nat_lit 534,s9.o_611 P)::(nat_lit 536,s9.o_613 P)::(nat_lit 537,s9.o_614 P)::(nat_lit 538,s9.o_615 P)::(nat_lit 540,s9.o_617 P)::(nat_lit 541,s9.o_618 P)::(nat_lit 543,s9.o_620 P)::(nat_lit 544,s9.o_621 P)::(nat_lit 545,s9.o_622 P)::(nat_lit 547,s9.o_624 P)::(nat_lit 548,s9.o_625 P)::(nat_lit 550,s9.o_627 P)::(nat_lit 551,s9.o_628 P)::(nat_lit 552,s9.o_629 P)::(nat_lit 554,s9.o_631 P)::(nat_lit 555,s9.o_632 P)::(nat_lit 557,s9.o_634 P)::(nat_lit 558,s9.o_635 P)::(nat_lit 559,s9.o_636 P)::(nat_lit 562,s9.o_639 P)::(nat_lit 563,s9.o_640 P)::(nat_lit 564,s9.o_641 P)::(nat_lit 567,s9.o_644 P)::(nat_lit 568,s9.o_645 P)::(nat_lit 569,s9.o_646 P)::(nat_lit 571,s9.o_648 P)::(nat_lit 572,s9.o_649 P)::(nat_lit 574,s9.o_651 P)::(nat_lit 575,s9.o_652 P)::(nat_lit 583,s9.o_663 P)::(nat_lit 585,s9.o_665 P)::(nat_lit 586,s9.o_666 P)::(nat_lit 588,s9.o_668 P)::(nat_lit 589,s9.o_669 P)::(nat_lit 590,s9.o_670 P)::(nat_lit 592,s9.o_672 P)::(nat_lit 593,s9.o_673 P)::(nat_lit 595,s9.o_675 P)::(nat_lit 596,s9.o_676 P)::(nat_lit 597,s9.o_677 P)::(nat_lit 600,s9.o_680 P)::(nat_lit 601,s9.o_681 P)::(nat_lit 602,s9.o_682 P)::(nat_lit 604,s9.o_684 P)::(nat_lit 605,s9.o_685 P)::(nat_lit 607,s9.o_687 P)::(nat_lit 608,s9.o_688 P)::(nat_lit 609,s9.o_689 P)::(nat_lit 611,s9.o_691 P)::(nat_lit 612,s9.o_692 P)::(nat_lit 614,s9.o_694 P)::(nat_lit 615,s9.o_695 P)::(nat_lit 616,s9.o_696 P)::(nat_lit 619,s9.o_699 P)::(nat_lit 620,s9.o_700 P)::(nat_lit 621,s9.o_701 P)::(nat_lit 624,s9.o_704 P)::(nat_lit 625,s9.o_705 P)::(nat_lit 626,s9.o_706 P)::(nat_lit 628,s9.o_708 P)::(nat_lit 629,s9.o_709 P)::(nat_lit 631,s9.o_711 P)::(nat_lit 632,s9.o_712 P)::(nat_lit 633,s9.o_713 P)::(nat_lit 634,s9.o_714 P)::(nat_lit 635,s9.o_715 P)::(nat_lit 636,s9.o_716 P)::(nat_lit 637,s9.o_717 P)::(nat_lit 640,s9.o_723 P)::(nat_lit 642,s9.o_725 P)::(nat_lit 643,s9.o_726 P)::(nat_lit 645,s9.o_728 P)::(nat_lit 646,s9.o_729 P)::(nat_lit 647,s9.o_730 P)::(nat_lit 649,s9.o_732 P)::(nat_lit 650,s9.o_733 P)::(nat_lit 652,s9.o_735 P)::(nat_lit 653,s9.o_736 P)::(nat_lit 654,s9.o_737 P)::(nat_lit 656,s9.o_739 P)::(nat_lit 657,s9.o_740 P)::(nat_lit 659,s9.o_742 P)::(nat_lit 660,s9.o_743 P)::(nat_lit 661,s9.o_744 P)::(nat_lit 663,s9.o_746 P)::(nat_lit 664,s9.o_747 P)::(nat_lit 666,s9.o_749 P)::(nat_lit 667,s9.o_750 P)::(nat_lit 668,s9.o_751 P)::(nat_lit 670,s9.o_753 P)::(nat_lit 671,s9.o_754 P)::(nat_lit 673,s9.o_756 P)::(nat_lit 674,s9.o_757 P)::(nat_lit 675,s9.o_758 P)::(nat_lit 677,s9.o_760 P)::(nat_lit 678,s9.o_761 P)::(nat_lit 680,s9.o_763 P)::(nat_lit 681,s9.o_764 P)::(nat_lit 682,s9.o_765 P)::(nat_lit 685,s9.o_768 P)::(nat_lit 686,s9.o_769 P)::(nat_lit 687,s9.o_770 P)::(nat_lit 689,s9.o_772 P)::(nat_lit 690,s9.o_773 P)::(nat_lit 692,s9.o_775 P)::(nat_lit 693,s9.o_776 P)::(nat_lit 694,s9.o_777 P)::(nat_lit 697,s9.o_780 P)::(nat_lit 698,s9.o_781 P)::(nat_lit 699,s9.o_782 P)::(nat_lit 701,s9.o_784 P)::(nat_lit 702,s9.o_785 P)::(nat_lit 704,s9.o_787 P)::(nat_lit 705,s9.o_788 P)::(nat_lit 706,s9.o_789 P)::(nat_lit 708,s9.o_791 P)::(nat_lit 709,s9.o_792 P)::(nat_lit 711,s9.o_794 P)::(nat_lit 712,s9.o_795 P)::(nat_lit 713,s9.o_796 P)::(nat_lit 714,s9.o_797 P)::(nat_lit 716,s9.o_799 P)::(nat_lit 717,s9.o_800 P)::(nat_lit 719,s9.o_802 P)::(nat_lit 720,s9.o_803 P)::(nat_lit 721,s9.o_807 P)::(nat_lit 724,s9.o_810 P)::(nat_lit 725,s9.o_811 P)::(nat_lit 726,s9.o_812 P)::(nat_lit 729,s9.o_815 P)::(nat_lit 730,s9.o_816 P)::(nat_lit 731,s9.o_817 P)::(nat_lit 732,s9.o_818 P)::(nat_lit 735,s9.o_821 P)::(nat_lit 736,s9.o_822 P)::(nat_lit 737,s9.o_823 P)::(nat_lit 740,s9.o_826 P)::(nat_lit 741,s9.o_827 P)::(nat_lit 742,s9.o_828 P)::(nat_lit 744,s9.o_830 P)::(nat_lit 745,s9.o_831 P)::(nat_lit 747,s9.o_833 P)::(nat_lit 748,s9.o_834 P)::(nat_lit 749,s9.o_835 P)::(nat_lit 750,s9.o_836 P)::(nat_lit 752,s9.o_838 P)::(nat_lit 753,s9.o_839 P)::(nat_lit 755,s9.o_841 P)::(nat_lit 756,s9.o_842 P)::(nat_lit 757,s9.o_843 P)::(nat_lit 760,s9.o_846 P)::(nat_lit 761,s9.o_847 P)::(nat_lit 762,s9.o_848 P)::(nat_lit 764,s9.o_850 P)::(nat_lit 765,s9.o_851 P)::(nat_lit 767,s9.o_853 P)::(nat_lit 768,s9.o_854 P)::(nat_lit 769,s9.o_855 P)::(nat_lit 772,s9.o_858 P)::(nat_lit 773,s9.o_859 P)::(nat_lit 774,s9.o_860 P)::(nat_lit 777,s9.o_863 P)::(nat_lit 778,s9.o_864 P)::(nat_lit 779,s9.o_865 P)::(nat_lit 781,s9.o_867 P)::(nat_lit 782,s9.o_868 P)::(nat_lit 784,s9.o_870 P)::(nat_lit 785,s9.o_871 P)::(nat_lit 786,s9.o_872 P)::(nat_lit 788,s9.o_874 P)::(nat_lit 789,s9.o_875 P)::(nat_lit 791,s9.o_877 P)::(nat_lit 792,s9.o_878 P)::(nat_lit 793,s9.o_882 P)::(nat_lit 795,s9.o_884 P)::(nat_lit 796,s9.o_885 P)::(nat_lit 798,s9.o_887 P)::(nat_lit 799,s9.o_888 P)::(nat_lit 800,s9.o_889 P)::(nat_lit 802,s9.o_891 P)::(nat_lit 803,s9.o_892 P)::(nat_lit 805,s9.o_894 P)::(nat_lit 806,s9.o_895 P)::(nat_lit 807,s9.o_896 P)::(nat_lit 809,s9.o_898 P)::(nat_lit 810,s9.o_899 P)::(nat_lit 812,s9.o_901 P)::(nat_lit 813,s9.o_902 P)::(nat_lit 814,s9.o_903 P)::(nat_lit 816,s9.o_905 P)::(nat_lit 817,s9.o_906 P)::(nat_lit 819,s9.o_908 P)::(nat_lit 820,s9.o_909 P)::(nat_lit 821,s9.o_910 P)::(nat_lit 823,s9.o_912 P)::(nat_lit 824,s9.o_913 P)::(nat_lit 826,s9.o_915 P)::(nat_lit 827,s9.o_916 P)::(nat_lit 828,s9.o_917 P)::(nat_lit 830,s9.o_919 P)::(nat_lit 831,s9.o_920 P)::(nat_lit 833,s9.o_922 P)::(nat_lit 834,s9.o_923 P)::(nat_lit 835,s9.o_924 P)::(nat_lit 838,s9.o_927 P)::(nat_lit 839,s9.o_928 P)::(nat_lit 840,s9.o_929 P)::(nat_lit 843,s9.o_932 P)::(nat_lit 844,s9.o_933 P)::(nat_lit 845,s9.o_934 P)::(nat_lit 847,s9.o_936 P)::(nat_lit 848,s9.o_937 P)::(nat_lit 850,s9.o_939 P)::(nat_lit 851,s9.o_940 P)::(nat_lit 852,s9.o_941 P)::(nat_lit 855,s9.o_944 P)::(nat_lit 856,s9.o_945 P)::(nat_lit 857,s9.o_946 P)::(nat_lit 859,s9.o_948 P)::(nat_lit 860,s9.o_949 P)::(nat_lit 862,s9.o_951 P)::(nat_lit 863,s9.o_952 P)::(nat_lit 864,s9.o_953 P)::(nat_lit 866,s9.o_955 P)::(nat_lit 867,s9.o_956 P)::(nat_lit 869,s9.o_958 P)::(nat_lit 870,s9.o_959 P)::(nat_lit 871,s9.o_960 P)::(nat_lit 874,s9.o_963 P)::(nat_lit 875,s9.o_964 P)::(nat_lit 876,s9.o_965 P)::(nat_lit 879,s9.o_968 P)::(nat_lit 880,s9.o_969 P)::(nat_lit 881,s9.o_973 P)::(nat_lit 882,s9.o_974 P)::(nat_lit 883,s9.o_975 P)::(nat_lit 884,s9.o_976 P)::(nat_lit 885,s9.o_977 P)::(nat_lit 886,s9.o_978 P)::(nat_lit 887,s9.o_979 P)::(nat_lit 888,s9.o_980 P)::(nat_lit 889,s9.o_981 P)::(nat_lit 890,s9.o_982 P)::(nat_lit 891,s9.o_983 P)::(nat_lit 892,s9.o_984 P)::(nat_lit 894,s9.o_986 P)::(nat_lit 895,s9.o_987 P)::(nat_lit 897,s9.o_989 P)::(nat_lit 898,s9.o_990 P)::(nat_lit 899,s9.o_991 P)::(nat_lit 901,s9.o_993 P)::(nat_lit 902,s9.o_994 P)::(nat_lit 904,s9.o_996 P)::(nat_lit 905,s9.o_997 P)::(nat_lit 906,s9.o_998 P)::(nat_lit 908,s9.o_1000 P)::(nat_lit 909,s9.o_1001 P)::(nat_lit 911,s9.o_1003 P)::(nat_lit 912,s9.o_1004 P)::(nat_lit 913,s9.o_1005 P)::(nat_lit 915,s9.o_1007 P)::(nat_lit 916,s9.o_1008 P)::(nat_lit 918,s9.o_1010 P)::(nat_lit 919,s9.o_1011 P)::(nat_lit 920,s9.o_1012 P)::(nat_lit 923,s9.o_1015 P)::(nat_lit 924,s9.o_1016 P)::(nat_lit 925,s9.o_1017 P)::(nat_lit 928,s9.o_1020 P)::(nat_lit 929,s9.o_1021 P)::(nat_lit 930,s9.o_1022 P)::(nat_lit 933,s9.o_1025 P)::(nat_lit 934,s9.o_1026 P)::(nat_lit 935,s9.o_1032 P)::(nat_lit 938,s9.o_1035 P)::(nat_lit 939,s9.o_1036 P)::(nat_lit 940,s9.o_1037 P)::(nat_lit 943,s9.o_1040 P)::(nat_lit 944,s9.o_1041 P)::(nat_lit 945,s9.o_1042 P)::(nat_lit 946,s9.o_1043 P)::(nat_lit 948,s9.o_1045 P)::(nat_lit 949,s9.o_1046 P)::(nat_lit 951,s9.o_1048 P)::(nat_lit 952,s9.o_1049 P)::(nat_lit 953,s9.o_1050 P)::(nat_lit 955,s9.o_1052 P)::(nat_lit 956,s9.o_1053 P)::(nat_lit 958,s9.o_1055 P)::(nat_lit 959,s9.o_1056 P)::(nat_lit 960,s9.o_1057 P)::(nat_lit 962,s9.o_1059 P)::(nat_lit 963,s9.o_1060 P)::(nat_lit 965,s9.o_1062 P)::(nat_lit 966,s9.o_1063 P)::(nat_lit 967,s9.o_1064 P)::(nat_lit 969,s9.o_1066 P)::(nat_lit 970,s9.o_1067 P)::(nat_lit 972,s9.o_1069 P)::(nat_lit 973,s9.o_1070 P)::(nat_lit 974,s9.o_1071 P)::(nat_lit 976,s9.o_1073 P)::(nat_lit 977,s9.o_1074 P)::(nat_lit 979,s9.o_1076 P)::(nat_lit 980,s9.o_1077 P)::(nat_lit 981,s9.o_1078 P)::(nat_lit 984,s9.o_1081 P)::(nat_lit 985,s9.o_1082 P)::(nat_lit 986,s9.o_1083 P)::(nat_lit 989,s9.o_1086 P)::(nat_lit 990,s9.o_1087 P)::(nat_lit 991,s9.o_1088 P)::(nat_lit 994,s9.o_1091 P)::(nat_lit 995,s9.o_1092 P)::(nat_lit 996,s9.o_1093 P)::(nat_lit 998,s9.o_1095 P)::(nat_lit 999,s9.o_1096 P)::(nat_lit 1001,s9.o_1098 P)::(nat_lit 1002,s9.o_1099 P)::(nat_lit 1003,s9.o_1100 P)::(nat_lit 1006,s9.o_1103 P)::(nat_lit 1007,s9.o_1104 P)::(nat_lit 1008,s9.o_1108 P)::(nat_lit 1010,s9.o_1110 P)::(nat_lit 1011,s9.o_1111 P)::(nat_lit 1013,s9.o_1113 P)::(nat_lit 1014,s9.o_1114 P)::(nat_lit 1015,s9.o_1115 P)::(nat_lit 1016,s9.o_1116 P)::(nat_lit 1018,s9.o_1118 P)::(nat_lit 1019,s9.o_1119 P)::(nat_lit 1021,s9.o_1121 P)::(nat_lit 1022,s9.o_1122 P)::(nat_lit 1023,s9.o_1123 P)::(nat_lit 1026,s9.o_1126 P)::(nat_lit 1027,s9.o_1127 P)::(nat_lit 1028,s9.o_1128 P)::(nat_lit 1031,s9.o_1131 P)::(nat_lit 1032,s9.o_1132 P)::(nat_lit 1033,s9.o_1133 P)::(nat_lit 1036,s9.o_1136 P)::(nat_lit 1037,s9.o_1137 P)::(nat_lit 1038,s9.o_1138 P)::(nat_lit 1040,s9.o_1140 P)::(nat_lit 1041,s9.o_1141 P)::(nat_lit 1043,s9.o_1143 P)::(nat_lit 1044,s9.o_1144 P)::(nat_lit 1045,s9.o_1145 P)::(nat_lit 1047,s9.o_1147 P)::(nat_lit 1048,s9.o_1148 P)::(nat_lit 1050,s9.o_1150 P)::(nat_lit 1051,s9.o_1151 P)::(nat_lit 1052,s9.o_1152 P)::(nat_lit 1055,s9.o_1155 P)::(nat_lit 1056,s9.o_1156 P)::(nat_lit 1057,s9.o_1157 P)::(nat_lit 1059,s9.o_1159 P)::(nat_lit 1060,s9.o_1160 P)::(nat_lit 1062,s9.o_1162 P)::(nat_lit 1063,s9.o_1163 P)::(nat_lit 1064,s9.o_1164 P)::(nat_lit 1066,s9.o_1166 P)::(nat_lit 1067,s9.o_1167 P)::(nat_lit 1069,s9.o_1169 P)::(nat_lit 1070,s9.o_1170 P)::(nat_lit 1071,s9.o_1171 P)::(nat_lit 1074,s9.o_1174 P)::(nat_lit 1075,s9.o_1175 P)::(nat_lit 1076,s9.o_1179 P)::(nat_lit 1079,s9.o_1182 P)::(nat_lit 1080,s9.o_1183 P)::(nat_lit 1081,s9.o_1184 P)::(nat_lit 1083,s9.o_1186 P)::(nat_lit 1084,s9.o_1187 P)::(nat_lit 1086,s9.o_1189 P)::(nat_lit 1087,s9.o_1190 P)::(nat_lit 1088,s9.o_1191 P)::(nat_lit 1090,s9.o_1193 P)::(nat_lit 1091,s9.o_1194 P)::(nat_lit 1093,s9.o_1196 P)::(nat_lit 1094,s9.o_1197 P)::(nat_lit 1095,s9.o_1198 P)::(nat_lit 1097,s9.o_1200 P)::(nat_lit 1098,s9.o_1201 P)::(nat_lit 1100,s9.o_1203 P)::(nat_lit 1101,s9.o_1204 P)::(nat_lit 1102,s9.o_1205 P)::(nat_lit 1104,s9.o_1207 P)::(nat_lit 1105,s9.o_1208 P)::(nat_lit 1107,s9.o_1210 P)::(nat_lit 1108,s9.o_1211 P)::(nat_lit 1109,s9.o_1212 P)::(nat_lit 1111,s9.o_1214 P)::(nat_lit 1112,s9.o_1215 P)::(nat_lit 1114,s9.o_1217 P)::(nat_lit 1115,s9.o_1218 P)::(nat_lit 1116,s9.o_1219 P)::(nat_lit 1118,s9.o_1221 P)::(nat_lit 1119,s9.o_1222 P)::(nat_lit 1121,s9.o_1224 P)::(nat_lit 1122,s9.o_1225 P)::(nat_lit 1123,s9.o_1226 P)::(nat_lit 1125,s9.o_1228 P)::(nat_lit 1126,s9.o_1229 P)::(nat_lit 1128,s9.o_1231 P)::(nat_lit 1129,s9.o_1232 P)::(nat_lit 1130,s9.o_1233 P)::(nat_lit 1132,s9.o_1235 P)::(nat_lit 1133,s9.o_1236 P)::(nat_lit 1135,s9.o_1238 P)::(nat_lit 1136,s9.o_1239 P)::(nat_lit 1137,s9.o_1240 P)::(nat_lit 1140,s9.o_1243 P)::(nat_lit 1141,s9.o_1244 P)::(nat_lit 1142,s9.o_1245 P)::(nat_lit 1144,s9.o_1247 P)::(nat_lit 1145,s9.o_1248 P)::(nat_lit 1147,s9.o_1250 P)::(nat_lit 1148,s9.o_1251 P)::(nat_lit 1149,s9.o_1252 P)::(nat_lit 1151,s9.o_1254 P)::(nat_lit 1152,s9.o_1255 P)::(nat_lit 1154,s9.o_1257 P)::(nat_lit 1155,s9.o_1258 P)::(nat_lit 1156,s9.o_1262 P)::(nat_lit 1158,s9.o_1264 P)::(nat_lit 1159,s9.o_1265 P)::(nat_lit 1161,s9.o_1267 P)::(nat_lit 1162,s9.o_1268 P)::(nat_lit 1163,s9.o_1269 P)::(nat_lit 1165,s9.o_1271 P)::(nat_lit 1166,s9.o_1272 P)::(nat_lit 1168,s9.o_1274 P)::(nat_lit 1169,s9.o_1275 P)::(nat_lit 1170,s9.o_1276 P)::(nat_lit 1172,s9.o_1278 P)::(nat_lit 1173,s9.o_1279 P)::(nat_lit 1175,s9.o_1281 P)::(nat_lit 1176,s9.o_1282 P)::(nat_lit 1177,s9.o_1283 P)::(nat_lit 1180,s9.o_1286 P)::(nat_lit 1181,s9.o_1287 P)::(nat_lit 1182,s9.o_1288 P)::(nat_lit 1185,s9.o_1291 P)::(nat_lit 1186,s9.o_1292 P)::(nat_lit 1187,s9.o_1293 P)::(nat_lit 1189,s9.o_1295 P)::(nat_lit 1190,s9.o_1296 P)::(nat_lit 1192,s9.o_1298 P)::(nat_lit 1193,s9.o_1299 P)::(nat_lit 1194,s9.o_1300 P)::(nat_lit 1197,s9.o_1303 P)::(nat_lit 1198,s9.o_1304 P)::(nat_lit 1199,s9.o_1305 P)::(nat_lit 1201,s9.o_1307 P)::(nat_lit 1202,s9.o_1308 P)::(nat_lit 1204,s9.o_1310 P)::(nat_lit 1205,s9.o_1311 P)::(nat_lit 1206,s9.o_1312 P)::(nat_lit 1209,s9.o_1315 P)::(nat_lit 1210,s9.o_1316 P)::(nat_lit 1211,s9.o_1317 P)::(nat_lit 1214,s9.o_1320 P)::(nat_lit 1215,s9.o_1321 P)::(nat_lit 1216,s9.o_1322 P)::(nat_lit 1219,s9.o_1325 P)::(nat_lit 1220,s9.o_1326 P)::(nat_lit 1221,s9.o_1327 P)::(nat_lit 1224,s9.o_1330 P)::(nat_lit 1225,s9.o_1331 P)::(nat_lit 1226,s9.o_1332 P)::(nat_lit 1229,s9.o_1335 P)::(nat_lit 1230,s9.o_1336 P)::(nat_lit 1231,s9.o_1340 P)::(nat_lit 1234,s9.o_1343 P)::(nat_lit 1235,s9.o_1344 P)::(nat_lit 1236,s9.o_1345 P)::(nat_lit 1238,s9.o_1347 P)::(nat_lit 1239,s9.o_1348 P)::(nat_lit 1241,s9.o_1350 P)::(nat_lit 1242,s9.o_1351 P)::(nat_lit 1243,s9.o_1352 P)::(nat_lit 1245,s9.o_1354 P)::(nat_lit 1246,s9.o_1355 P)::(nat_lit 1248,s9.o_1357 P)::(nat_lit 1249,s9.o_1358 P)::(nat_lit 1250,s9.o_1359 P)::(nat_lit 1253,s9.o_1362 P)::(nat_lit 1254,s9.o_1363 P)::(nat_lit 1255,s9.o_1364 P)::(nat_lit 1257,s9.o_1366 P)::(nat_lit 1258,s9.o_1367 P)::(nat_lit 1260,s9.o_1369 P)::(nat_lit 1261,s9.o_1370 P)::(nat_lit 1262,s9.o_1371 P)::(nat_lit 1264,s9.o_1373 P)::(nat_lit 1265,s9.o_1374 P)::(nat_lit 1267,s9.o_1376 P)::(nat_lit 1268,s9.o_1377 P)::(nat_lit 1269,s9.o_1378 P)::(nat_lit 1272,s9.o_1381 P)::(nat_lit 1273,s9.o_1382 P)::(nat_lit 1274,s9.o_1383 P)::(nat_lit 1276,s9.o_1385 P)::(nat_lit 1277,s9.o_1386 P)::(nat_lit 1279,s9.o_1388 P)::(nat_lit 1280,s9.o_1389 P)::(nat_lit 1281,s9.o_1390 P)::(nat_lit 1283,s9.o_1392 P)::(nat_lit 1284,s9.o_1393 P)::(nat_lit 1286,s9.o_1395 P)::(nat_lit 1287,s9.o_1396 P)::(nat_lit 1288,s9.o_1397 P)::(nat_lit 1290,s9.o_1399 P)::(nat_lit 1291,s9.o_1400 P)::(nat_lit 1293,s9.o_1402 P)::(nat_lit 1294,s9.o_1403 P)::(nat_lit 1295,s9.o_1404 P)::(nat_lit 1297,s9.o_1406 P)::(nat_lit 1298,s9.o_1407 P)::(nat_lit 1300,s9.o_1409 P)::(nat_lit 1301,s9.o_1410 P)::(nat_lit 1302,s9.o_1411 P)::(nat_lit 1304,s9.o_1413 P)::(nat_lit 1305,s9.o_1414 P)::(nat_lit 1307,s9.o_1416 P)::(nat_lit 1308,s9.o_1417 P)::(nat_lit 1309,s9.o_1421 P)::(nat_lit 1312,s9.o_1424 P)::(nat_lit 1313,s9.o_1425 P)::(nat_lit 1314,s9.o_1426 P)::(nat_lit 1317,s9.o_1429 P)::(nat_lit 1318,s9.o_1430 P)::(nat_lit 1319,s9.o_1431 P)::(nat_lit 1321,s9.o_1433 P)::(nat_lit 1322,s9.o_1434 P)::(nat_lit 1324,s9.o_1436 P)::(nat_lit 1325,s9.o_1437 P)::(nat_lit 1326,s9.o_1438 P)::(nat_lit 1329,s9.o_1441 P)::(nat_lit 1330,s9.o_1442 P)::(nat_lit 1331,s9.o_1443 P)::(nat_lit 1333,s9.o_1445 P)::(nat_lit 1334,s9.o_1446 P)::(nat_lit 1336,s9.o_1448 P)::(nat_lit 1337,s9.o_1449 P)::(nat_lit 1338,s9.o_1450 P)::(nat_lit 1340,s9.o_1452 P)::(nat_lit 1341,s9.o_1453 P)::(nat_lit 1343,s9.o_1455 P)::(nat_lit 1344,s9.o_1456 P)::(nat_lit 1345,s9.o_1457 P)::(nat_lit 1348,s9.o_1460 P)::(nat_lit 1349,s9.o_1461 P)::(nat_lit 1350,s9.o_1462 P)::(nat_lit 1353,s9.o_1465 P)::(nat_lit 1354,s9.o_1466 P)::(nat_lit 1355,s9.o_1467 P)::(nat_lit 1358,s9.o_1470 P)::(nat_lit 1359,s9.o_1471 P)::(nat_lit 1360,s9.o_1472 P)::(nat_lit 1363,s9.o_1475 P)::(nat_lit 1364,s9.o_1476 P)::(nat_lit 1365,s9.o_1477 P)::(nat_lit 1367,s9.o_1479 P)::(nat_lit 1368,s9.o_1480 P)::(nat_lit 1370,s9.o_1482 P)::(nat_lit 1371,s9.o_1483 P)::(nat_lit 1372,s9.o_1484 P)::(nat_lit 1375,s9.o_1487 P)::(nat_lit 1376,s9.o_1488 P)::(nat_lit 1377,s9.o_1489 P)::(nat_lit 1380,s9.o_1492 P)::(nat_lit 1381,s9.o_1493 P)::(nat_lit 1382,s9.o_1497 P)::(nat_lit 1384,s9.o_1499 P)::(nat_lit 1385,s9.o_1500 P)::(nat_lit 1387,s9.o_1502 P)::(nat_lit 1388,s9.o_1503 P)::(nat_lit 1389,s9.o_1504 P)::(nat_lit 1391,s9.o_1506 P)::(nat_lit 1392,s9.o_1507 P)::(nat_lit 1394,s9.o_1509 P)::(nat_lit 1395,s9.o_1510 P)::(nat_lit 1396,s9.o_1511 P)::(nat_lit 1398,s9.o_1513 P)::(nat_lit 1399,s9.o_1514 P)::(nat_lit 1401,s9.o_1516 P)::(nat_lit 1402,s9.o_1517 P)::(nat_lit 1403,s9.o_1518 P)::(nat_lit 1405,s9.o_1520 P)::(nat_lit 1406,s9.o_1521 P)::(nat_lit 1408,s9.o_1523 P)::(nat_lit 1409,s9.o_1524 P)::(nat_lit 1410,s9.o_1525 P)::(nat_lit 1413,s9.o_1528 P)::(nat_lit 1414,s9.o_1529 P)::(nat_lit 1415,s9.o_1530 P)::(nat_lit 1417,s9.o_1532 P)::(nat_lit 1418,s9.o_1533 P)::(nat_lit 1420,s9.o_1535 P)::(nat_lit 1421,s9.o_1536 P)::(nat_lit 1422,s9.o_1537 P)::(nat_lit 1424,s9.o_1539 P)::(nat_lit 1425,s9.o_1540 P)::(nat_lit 1427,s9.o_1542 P)::(nat_lit 1428,s9.o_1543 P)::(nat_lit 1429,s9.o_1544 P)::(nat_lit 1432,s9.o_1547 P)::(nat_lit 1433,s9.o_1548 P)::(nat_lit 1434,s9.o_1549 P)::(nat_lit 1436,s9.o_1551 P)::(nat_lit 1437,s9.o_1552 P)::(nat_lit 1439,s9.o_1554 P)::(nat_lit 1440,s9.o_1555 P)::(nat_lit 1441,s9.o_1556 P)::(nat_lit 1443,s9.o_1558 P)::(nat_lit 1444,s9.o_1559 P)::(nat_lit 1446,s9.o_1561 P)::(nat_lit 1447,s9.o_1562 P)::(nat_lit 1448,s9.o_1563 P)::(nat_lit 1451,s9.o_1566 P)::(nat_lit 1452,s9.o_1567 P)::(nat_lit 1453,s9.o_1571 P)::(nat_lit 1456,s9.o_1574 P)::(nat_lit 1457,s9.o_1575 P)::(nat_lit 1458,s9.o_1576 P)::(nat_lit 1460,s9.o_1578 P)::(nat_lit 1461,s9.o_1579 P)::(nat_lit 1463,s9.o_1581 P)::(nat_lit 1464,s9.o_1582 P)::(nat_lit 1465,s9.o_1583 P)::(nat_lit 1467,s9.o_1585 P)::(nat_lit 1468,s9.o_1586 P)::(nat_lit 1470,s9.o_1588 P)::(nat_lit 1471,s9.o_1589 P)::(nat_lit 1472,s9.o_1590 P)::(nat_lit 1474,s9.o_1592 P)::(nat_lit 1475,s9.o_1593 P)::(nat_lit 1477,s9.o_1595 P)::(nat_lit 1478,s9.o_1596 P)::(nat_lit 1479,s9.o_1597 P)::(nat_lit 1481,s9.o_1599 P)::(nat_lit 1482,s9.o_1600 P)::(nat_lit 1484,s9.o_1602 P)::(nat_lit 1485,s9.o_1603 P)::(nat_lit 1486,s9.o_1604 P)::(nat_lit 1489,s9.o_1607 P)::(nat_lit 1490,s9.o_1608 P)::(nat_lit 1491,s9.o_1609 P)::(nat_lit 1493,s9.o_1611 P)::(nat_lit 1494,s9.o_1612 P)::(nat_lit 1496,s9.o_1614 P)::(nat_lit 1497,s9.o_1615 P)::(nat_lit 1498,s9.o_1616 P)::(nat_lit 1499,s9.o_1617 P)::(nat_lit 1500,s9.o_1618 P)::(nat_lit 1501,s9.o_1619 P)::(nat_lit 1503,s9.o_1621 P)::(nat_lit 1504,s9.o_1622 P)::(nat_lit 1506,s9.o_1624 P)::(nat_lit 1507,s9.o_1625 P)::(nat_lit 1508,s9.o_1626 P)::(nat_lit 1511,s9.o_1629 P)::(nat_lit 1512,s9.o_1630 P)::(nat_lit 1513,s9.o_1631 P)::(nat_lit 1515,s9.o_1633 P)::(nat_lit 1516,s9.o_1634 P)::(nat_lit 1518,s9.o_1636 P)::(nat_lit 1519,s9.o_1637 P)::(nat_lit 1520,s9.o_1638 P)::(nat_lit 1522,s9.o_1640 P)::(nat_lit 1523,s9.o_1641 P)::(nat_lit 1525,s9.o_1643 P)::(nat_lit 1526,s9.o_1644 P)::(nat_lit 1527,s9.o_1648 P)::(nat_lit 1529,s9.o_1650 P)::(nat_lit 1530,s9.o_1651 P)::(nat_lit 1532,s9.o_1653 P)::(nat_lit 1533,s9.o_1654 P)::(nat_lit 1534,s9.o_1655 P)::(nat_lit 1536,s9.o_1657 P)::(nat_lit 1537,s9.o_1658 P)::(nat_lit 1539,s9.o_1660 P)::(nat_lit 1540,s9.o_1661 P)::(nat_lit 1541,s9.o_1662 P)::(nat_lit 1543,s9.o_1664 P)::(nat_lit 1544,s9.o_1665 P)::(nat_lit 1546,s9.o_1667 P)::(nat_lit 1547,s9.o_1668 P)::(nat_lit 1548,s9.o_1669 P)::(nat_lit 1550,s9.o_1671 P)::(nat_lit 1551,s9.o_1672 P)::(nat_lit 1553,s9.o_1674 P)::(nat_lit 1554,s9.o_1675 P)::(nat_lit 1555,s9.o_1676 P)::(nat_lit 1557,s9.o_1678 P)::(nat_lit 1558,s9.o_1679 P)::(nat_lit 1560,s9.o_1681 P)::(nat_lit 1561,s9.o_1682 P)::(nat_lit 1562,s9.o_1683 P)::(nat_lit 1564,s9.o_1685 P)::(nat_lit 1565,s9.o_1686 P)::(nat_lit 1567,s9.o_1688 P)::(nat_lit 1568,s9.o_1689 P)::(nat_lit 1569,s9.o_1690 P)::(nat_lit 1571,s9.o_1692 P)::(nat_lit 1572,s9.o_1693 P)::(nat_lit 1574,s9.o_1695 P)::(nat_lit 1575,s9.o_1696 P)::(nat_lit 1576,s9.o_1697 P)::(nat_lit 1578,s9.o_1699 P)::(nat_lit 1579,s9.o_1700 P)::(nat_lit 1581,s9.o_1702 P)::(nat_lit 1582,s9.o_1703 P)::(nat_lit 1590,s9.o_1714 P)::(nat_lit 1592,s9.o_1716 P)::(nat_lit 1593,s9.o_1717 P)::(nat_lit 1595,s9.o_1719 P)::(nat_lit 1596,s9.o_1720 P)::(nat_lit 1597,s9.o_1721 P)::(nat_lit 1599,s9.o_1723 P)::(nat_lit 1600,s9.o_1724 P)::(nat_lit 1602,s9.o_1726 P)::(nat_lit 1603,s9.o_1727 P)::(nat_lit 1604,s9.o_1728 P)::(nat_lit 1606,s9.o_1730 P)::(nat_lit 1607,s9.o_1731 P)::(nat_lit 1609,s9.o_1733 P)::(nat_lit 1610,s9.o_1734 P)::(nat_lit 1611,s9.o_1735 P)::(nat_lit 1613,s9.o_1737 P)::(nat_lit 1614,s9.o_1738 P)::(nat_lit 1616,s9.o_1740 P)::(nat_lit 1617,s9.o_1741 P)::(nat_lit 1618,s9.o_1742 P)::(nat_lit 1620,s9.o_1744 P)::(nat_lit 1621,s9.o_1745 P)::(nat_lit 1623,s9.o_1747 P)::(nat_lit 1624,s9.o_1748 P)::(nat_lit 1625,s9.o_1749 P)::(nat_lit 1626,s9.o_1750 P)::(nat_lit 1627,s9.o_1751 P)::(nat_lit 1628,s9.o_1752 P)::(nat_lit 1629,s9.o_1753 P)::(nat_lit 1632,s9.o_1756 P)::(nat_lit 1634,s9.o_1758 P)::(nat_lit 1635,s9.o_1759 P)::(nat_lit 1637,s9.o_1761 P)::(nat_lit 1638,s9.o_1762 P)::(nat_lit 1639,s9.o_1766 P)::(nat_lit 1641,s9.o_1768 P)::(nat_lit 1642,s9.o_1769 P)::(nat_lit 1644,s9.o_1771 P)::(nat_lit 1645,s9.o_1772 P)::(nat_lit 1646,s9.o_1773 P)::(nat_lit 1649,s9.o_1776 P)::(nat_lit 1650,s9.o_1777 P)::(nat_lit 1651,s9.o_1778 P)::(nat_lit 1653,s9.o_1780 P)::(nat_lit 1654,s9.o_1781 P)::(nat_lit 1656,s9.o_1783 P)::(nat_lit 1657,s9.o_1784 P)::(nat_lit 1658,s9.o_1785 P)::(nat_lit 1660,s9.o_1787 P)::(nat_lit 1661,s9.o_1788 P)::(nat_lit 1663,s9.o_1790 P)::(nat_lit 1664,s9.o_1791 P)::(nat_lit 1665,s9.o_1792 P)::(nat_lit 1667,s9.o_1794 P)::(nat_lit 1668,s9.o_1795 P)::(nat_lit 1670,s9.o_1797 P)::(nat_lit 1671,s9.o_1798 P)::(nat_lit 1672,s9.o_1799 P)::(nat_lit 1674,s9.o_1801 P)::(nat_lit 1675,s9.o_1802 P)::(nat_lit 1677,s9.o_1804 P)::(nat_lit 1678,s9.o_1805 P)::[]
noncomputable def a9 : List Addr := [2, 3, 15, 22, 23, 24, 25, 28, 35, 36, 37, 40, 47, 48, 49, 52, 59, 60, 61, 64, 71, 72, 73, 76, 83, 84, 85, 88, 95, 96, 97, 100, 107, 108, 109, 112, 119, 120, 121, 124, 131, 132, 133, 136, 143, 144, 145, 148, 155, 157, 158, 160, 161, 162, 163, 164, 167, 169, 170, 172, 173, 174, 176, 177, 179, 180, 181, 183, 184, 186, 187, 188, 190, 191, 193, 194, 195, 197, 198, 200, 201, 202, 204, 205, 207, 208, 209, 211, 212, 214, 215, 216, 218, 219, 221, 222, 223, 226, 227, 228, 230, 231, 233, 234, 235, 238, 239, 247, 249, 250, 252, 253, 254, 256, 257, 259, 260, 261, 263, 264, 266, 267, 268, 270, 271, 273, 274, 275, 277, 278, 280, 281, 282, 284, 285, 287, 288, 289, 291, 292, 294, 295, 296, 298, 299, 301, 302, 303, 306, 307, 308, 311, 312, 313, 314, 315, 316, 317, 320, 327, 329, 330, 332, 333, 334, 335, 336, 339, 346, 348, 349, 351, 352, 353, 355, 356, 358, 359, 360, 361, 362, 365, 372, 374, 375, 377, 378, 379, 382, 383, 384, 385, 386, 389, 396, 398, 399, 401, 402, 403, 405, 406, 408, 409, 410, 411, 412, 415, 422, 424, 425, 427, 428, 429, 430, 431, 434, 441, 443, 444, 446, 447, 448, 450, 451, 453, 454, 455, 456, 457, 460, 467, 470, 471, 472, 473, 474, 477, 484, 487, 488, 489, 492, 493, 494, 495, 496, 499, 500, 501, 502, 505, 506, 507, 510, 511, 512, 514, 515, 517, 518, 519, 521, 522, 524, 525, 526, 529, 530, 531, 533, 534, 536, 537, 538, 540, 541, 543, 544, 545, 547, 548, 550, 551, 552, 554, 555, 557, 558, 559, 562, 563, 564, 567, 568, 569, 571, 572, 574, 575, 583, 585, 586, 588, 589, 590, 592, 593, 595, 596, 597, 600, 601, 602, 604, 605, 607, 608, 609, 611, 612, 614, 615, 616, 619, 620, 621, 624, 625, 626, 628, 629, 631, 632, 633, 634, 635, 636, 637, 640, 642, 643, 645, 646, 647, 649, 650, 652, 653, 654, 656, 657, 659, 660, 661, 663, 664, 666, 667, 668, 670, 671, 673, 674, 675, 677, 678, 680, 681, 682, 685, 686, 687, 689, 690, 692, 693, 694, 697, 698, 699, 701, 702, 704, 705, 706, 708, 709, 711, 712, 713, 714, 716, 717, 719, 720, 721, 724, 725, 726, 729, 730, 731, 732, 735, 736, 737, 740, 741, 742, 744, 745, 747, 748, 749, 750, 752, 753, 755, 756, 757, 760, 761, 762, 764, 765, 767, 768, 769, 772, 773, 774, 777, 778, 779, 781, 782, 784, 785, 786, 788, 789, 791, 792, 793, 795, 796, 798, 799, 800, 802, 803, 805, 806, 807, 809, 810, 812, 813, 814, 816, 817, 819, 820, 821, 823, 824, 826, 827, 828, 830, 831, 833, 834, 835, 838, 839, 840, 843, 844, 845, 847, 848, 850, 851, 852, 855, 856, 857, 859, 860, 862, 863, 864, 866, 867, 869, 870, 871, 874, 875, 876, 879, 880, 881, 882, 883, 884, 885, 886, 887, 888, 889, 890, 891, 892, 894, 895, 897, 898, 899, 901, 902, 904, 905, 906, 908, 909, 911, 912, 913, 915, 916, 918, 919, 920, 923, 924, 925, 928, 929, 930, 933, 934, 935, 938, 939, 940, 943, 944, 945, 946, 948, 949, 951, 952, 953, 955, 956, 958, 959, 960, 962, 963, 965, 966, 967, 969, 970, 972, 973, 974, 976, 977, 979, 980, 981, 984, 985, 986, 989, 990, 991, 994, 995, 996, 998, 999, 1001, 1002, 1003, 1006, 1007, 1008, 1010, 1011, 1013, 1014, 1015, 1016, 1018, 1019, 1021, 1022, 1023, 1026, 1027, 1028, 1031, 1032, 1033, 1036, 1037, 1038, 1040, 1041, 1043, 1044, 1045, 1047, 1048, 1050, 1051, 1052, 1055, 1056, 1057, 1059, 1060, 1062, 1063, 1064, 1066, 1067, 1069, 1070, 1071, 1074, 1075, 1076, 1079, 1080, 1081, 1083, 1084, 1086, 1087, 1088, 1090, 1091, 1093, 1094, 1095, 1097, 1098, 1100, 1101, 1102, 1104, 1105, 1107, 1108, 1109, 1111, 1112, 1114, 1115, 1116, 1118, 1119, 1121, 1122, 1123, 1125, 1126, 1128, 1129, 1130, 1132, 1133, 1135, 1136, 1137, 1140, 1141, 1142, 1144, 1145, 1147, 1148, 1149, 1151, 1152, 1154, 1155, 1156, 1158, 1159, 1161, 1162, 1163, 1165, 1166, 1168, 1169, 1170, 1172, 1173, 1175, 1176, 1177, 1180, 1181, 1182, 1185, 1186, 1187, 1189, 1190, 1192, 1193, 1194, 1197, 1198, 1199, 1201, 1202, 1204, 1205, 1206, 1209, 1210, 1211, 1214, 1215, 1216, 1219, 1220, 1221, 1224, 1225, 1226, 1229, 1230, 1231, 1234, 1235, 1236, 1238, 1239, 1241, 1242, 1243, 1245, 1246, 1248, 1249, 1250, 1253, 1254, 1255, 1257, 1258, 1260, 1261, 1262, 1264, 1265, 1267, 1268, 1269, 1272, 1273, 1274, 1276, 1277, 1279, 1280, 1281, 1283, 1284, 1286, 1287, 1288, 1290, 1291, 1293, 1294, 1295, 1297, 1298, 1300, 1301, 1302, 1304, 1305, 1307, 1308, 1309, 1312, 1313, 1314, 1317, 1318, 1319, 1321, 1322, 1324, 1325, 1326, 1329, 1330, 1331, 1333, 1334, 1336, 1337, 1338, 1340, 1341, 1343, 1344, 1345, 1348, 1349, 1350, 1353, 1354, 1355, 1358, 1359, 1360, 1363, 1364, 1365, 1367, 1368, 1370, 1371, 1372, 1375, 1376, 1377, 1380, 1381, 1382, 1384, 1385, 1387, 1388, 1389, 1391, 1392, 1394, 1395, 1396, 1398, 1399, 1401, 1402, 1403, 1405, 1406, 1408, 1409, 1410, 1413, 1414, 1415, 1417, 1418, 1420, 1421, 1422, 1424, 1425, 1427, 1428, 1429, 1432, 1433, 1434, 1436, 1437, 1439, 1440, 1441, 1443, 1444, 1446, 1447, 1448, 1451, 1452, 1453, 1456, 1457, 1458, 1460, 1461, 1463, 1464, 1465, 1467, 1468, 1470, 1471, 1472, 1474, 1475, 1477, 1478, 1479, 1481, 1482, 1484, 1485, 1486, 1489, 1490, 1491, 1493, 1494, 1496, 1497, 1498, 1499, 1500, 1501, 1503, 1504, 1506, 1507, 1508, 1511, 1512, 1513, 1515, 1516, 1518, 1519, 1520, 1522, 1523, 1525, 1526, 1527, 1529, 1530, 1532, 1533, 1534, 1536, 1537, 1539, 1540, 1541, 1543, 1544, 1546, 1547, 1548, 1550, 1551, 1553, 1554, 1555, 1557, 1558, 1560, 1561, 1562, 1564, 1565, 1567, 1568, 1569, 1571, 1572, 1574, 1575, 1576, 1578, 1579, 1581, 1582, 1590, 1592, 1593, 1595, 1596, 1597, 1599, 1600, 1602, 1603, 1604, 1606, 1607, 1609, 1610, 1611, 1613, 1614, 1616, 1617, 1618, 1620, 1621, 1623, 1624, 1625, 1626, 1627, 1628, 1629, 1632, 1634, 1635, 1637, 1638, 1639, 1641, 1642, 1644, 1645, 1646, 1649, 1650, 1651, 1653, 1654, 1656, 1657, 1658, 1660, 1661, 1663, 1664, 1665, 1667, 1668, 1670, 1671, 1672, 1674, 1675, 1677, 1678]
noncomputable abbrev Xt9 (s : Shared) : Bool := xlAt q9 [] s && recOk (RowW.records r9.toRowW) s
theorem lk1 (w : World) (os : OsState) : (staticsOk (importedModules p9.main.body) (boot_heap w.params) (H1 w.params) && namesBound p9 (H1 w.params) && gensDone (T9 w os) && laidKept (boot_heap w.params) (H1 w.params)) = true := by kernel_rfl
theorem lk2 (w : World) (os : OsState) : seen ((recsOf q9).map (·.name)) (ownsOf q9) [] { T9 w os with gens := #[] } = expectedOf q9 := by kernel_rfl
theorem lk3 (w : World) : (H1 w.params).bltView = bltViewBooted := by kernel_rfl
theorem lk4 (w : World) (os : OsState) : ((H1 w.params).keysOk (looseW q9 l9) ((recsOf q9).map (·.name)) ((litsOf q9).map (·.1)) ((clssOf q9 (looseW q9 l9)).map (·.name)) && (H1 w.params).accountedOkI (importedModules p9.main.body) && (H1 w.params).isNs mainGlobals && (H1 w.params).isNs builtinsNs && tablesOk q9 (H1 w.params) && Xt9 (T9 w os) && (if true then (T9 w os).gens.size == 0 else !leftWithCleanup (T9 w os).gens)) = true := by kernel_rfl
theorem lk5 (w : World) (os : OsState) : (tabsOk q9 (T9 w os), pinSeenD q9 (drecsOf q9) (T9 w os), plainSeenE q9 (looseW q9 l9) (T9 w os), plainSeenD q9 l9 (T9 w os), wideSeen q9 (T9 w os), clsSeenW q9 l9 (T9 w os)) = (true, pinGoodD (drecsOf q9), plainGoodE q9 (looseW q9 l9), plainGoodD q9 l9, wideGood q9, clsGoodW q9 l9) := by kernel_rfl
theorem cK9 (P : Params) : (K9 P).map (fun p => (Nat.blt p.1 1679, (s9.tree_1805 P).get p.1, alive p.2)) = (K9 P).map fun p => (true, some p.2, some p.2) := by kernel_rfl
theorem aK9 (P : Params) : a9 = (K9 P).map (·.1) := by kernel_rfl
noncomputable abbrev k9 : PySem.W.Hook := PySem.W.kHook K9 a9 aK9
theorem lk6 (w : World) (os : OsState) : k9.obs (T9 w os) = k9.val w := obs9 (cK9 w.params) (aK9 w.params)
theorem sz9 (w : World) : ((boot_heap w.params).isNs mainGlobals && (Array.mk [] : Array GenState).size == 0, (boot_heap w.params).objs.size, (boot_heap w.params).nsMap mainGlobals "__annotations__") = (true, 11, (some (Value.ref 6))) := by kernel_rfl
theorem ope9 : opening p9 = plainProg p9.main.scope.names := by kernel_rfl
theorem fen9 (s : Shared) : fenceModules? p9 s = some s := by kernel_rfl
theorem left9 : LeftO p9 q9 l9 Xt9 k9.obs k9.val 24130 :=
  LeftO.of_pieces (H₁ := H1) (boot_open ope9 (by decide) fen9) sz9 run9 (by decide +kernel) fun w => funext fun os => looks_pair (lk1 w os) (looks_pair (looks_pair (lk2 w os) (looks_pair (lk3 w) (looks_pair (lk4 w os) (lk5 w os)))) (lk6 w os))
noncomputable def d9 : DefRec := (fun x => ⟨Str.ofString "law", x.1, x.2.1, x.2.2, { line := 1144, col := 0, endLine := 1163, endCol := 15 }⟩) ((p9.theDef (Str.ofString "law")).get (by kernel_rfl))
theorem df9 : defOf q9 r9.name = some (d9, []) := by kernel_rfl
theorem td9 : r9.prog.theDef r9.name = some (d9.params, d9.body, d9.scope) := by kernel_rfl
theorem kw9 : kwWritten? d9.params.kwonlyargs d9.params.kw_defaults = some [] := by kernel_rfl
theorem ok9 : (chainsOk q9 && opensWell r9.prog && (frees r9.toRowW && r9.within.isEmpty)) = true := by kernel_rfl
theorem wi9 : PySem.Challenge.rw_cluemaker_k74_a_desk_keeps_puzzles.row.toRowW.promised := by w_witness2
theorem t9 (walk : WalkO q9 l9 (XL q9 []) (PySem.W.kHook K9 a9 aK9).says PySem.Challenge.rw_cluemaker_k74_a_desk_keeps_puzzles.row.toRowW d9 [] fun f vs => PySem.call f vs) : PySem.Challenge.rw_cluemaker_k74_a_desk_keeps_puzzles.Holds :=
  sa9 fun said => holds_open (r := r9) (Xt := Xt9) (XP := XL q9 []) left9 k9.of k9.keeps (fun s e => xl_of s (Bool.and_eq_true_iff.mp e).1) XL.keeps df9 td9 kw9 (fun s e => recFacts_of (Bool.and_eq_true_iff.mp e).2) (by rfl) said ok9 ⟨rfl, rfl, rfl, rfl, rfl, by decide +kernel⟩ wi9 walk
end H9
end
set_option Elab.async false
set_option linter.all false
set_option maxRecDepth 100000
namespace L2
open PySem PySem.Spec PyProof.Rows
abbrev Key := Sum Int Str
def keyIs : Key → Value → Bool
  | .inl k, v => Value.isInt k v
  | .inr x, v => Value.isStrOf x v
def keyH (w : World) : Key → Int
  | .inl k => hashInt k
  | .inr x => hashStr w x
theorem keyIs_shape : ∀ {k : Key} {v : Value}, keyIs k v = true → (∃ i t, k = Sum.inl i ∧ v = Value.int i t) ∨ (∃ x t, k = Sum.inr x ∧ v = Value.str x t)
  | .inl i, v, h => by
    obtain ⟨t, e⟩ := Value.isInt_shape (k := i) (v := v) h
    exact .inl ⟨i, t, rfl, e⟩
  | .inr x, v, h => by
    obtain ⟨t, e⟩ := Value.isStrOf_shape (x := x) (v := v) h
    exact .inr ⟨x, t, rfl, e⟩
theorem keyIs_int (i : Int) (t : Tok) : keyIs (.inl i) (.int i t) = true := by simp [keyIs, Value.isInt]
theorem keyIs_str (x : Str) (t : Tok) : keyIs (.inr x) (.str x t) = true := by simp [keyIs, Value.isStrOf]
theorem key_ll (a b : Int) : decide ((Sum.inl a : Key) = Sum.inl b) = (a == b) := by
  by_cases e : a = b
  · subst e; simp
  · have h : ¬ (Sum.inl a : Key) = Sum.inl b := fun q => e (Sum.inl.inj q)
    rw [decide_eq_false h]
    exact (beq_eq_false_iff_ne.mpr e).symm
theorem key_rr (a b : Str) : decide ((Sum.inr a : Key) = Sum.inr b) = decide (a = b) := by
  by_cases e : a = b
  · subst e; simp
  · have h : ¬ (Sum.inr a : Key) = Sum.inr b := fun q => e (Sum.inr.inj q)
    rw [decide_eq_false h, decide_eq_false e]
theorem key_lr (a : Int) (b : Str) : decide ((Sum.inl a : Key) = Sum.inr b) = false := decide_eq_false (fun q => nomatch q)
theorem key_rl (a : Str) (b : Int) : decide ((Sum.inr a : Key) = Sum.inl b) = false := decide_eq_false (fun q => nomatch q)
def mixKind (prog : Program) (w : World) : PySem.KeyKind prog w Key where
  is := keyIs
  hash := keyH w
  inj := fun v a b ha hb => by
    rcases keyIs_shape ha with ⟨i, t, rfl, rfl⟩ | ⟨x, t, rfl, rfl⟩
    · rcases keyIs_shape hb with ⟨j, u, rfl, e⟩ | ⟨y, u, rfl, e⟩
      · injection e with e1 _; rw [e1]
      · exact nomatch e
    · rcases keyIs_shape hb with ⟨j, u, rfl, e⟩ | ⟨y, u, rfl, e⟩
      · exact nomatch e
      · injection e with e1 _; rw [e1]
  byValue := fun k v h => by
    rcases keyIs_shape h with ⟨i, t, rfl, rfl⟩ | ⟨x, t, rfl, rfl⟩ <;> rfl
  pyHash := fun hv h => by
    rcases keyIs_shape hv with ⟨i, t, rfl, rfl⟩ | ⟨x, t, rfl, rfl⟩
    · exact wpAny_pyHash_int h
    · exact wpAny_pyHash_str h
  eqBool := fun hu hv h => by
    rcases keyIs_shape hu with ⟨i, t, rfl, rfl⟩ | ⟨x, t, rfl, rfl⟩
    · rcases keyIs_shape hv with ⟨j, u, rfl, rfl⟩ | ⟨y, u, rfl, rfl⟩
      · rw [key_ll] at h; exact wpAny_eqBool_int h
      · rw [key_lr] at h; exact SeqAt.EqAt.int_str i t y u _ _ _ _ h
    · rcases keyIs_shape hv with ⟨j, u, rfl, rfl⟩ | ⟨y, u, rfl, rfl⟩
      · rw [key_rl] at h; exact SeqAt.EqAt.str_int x t j u _ _ _ _ h
      · rw [key_rr] at h; exact wpAny_eqBool_str h
  «strs» := fun k x t v h => by
    rcases keyIs_shape h with ⟨i, u, rfl, e⟩ | ⟨y, u, rfl, e⟩
    · exact nomatch e
    · injection e with e1 _
      subst e1
      cases v <;> rfl
theorem mixKind_int (prog : Program) (w : World) (i : Int) (t : Tok) : (mixKind prog w).is (.inl i) (.int i t) = true := keyIs_int i t
theorem mixKind_str (prog : Program) (w : World) (x : Str) (t : Tok) : (mixKind prog w).is (.inr x) (.str x t) = true := keyIs_str x t
end L2
namespace L2
open PySem PySem.Spec PyProof.Rows
inductive V where
  | non | bl (b : Bool) | int (i : Int) | str (x : Str) | byt (b : Array UInt8) | flt (b : UInt64) | ref (a : Addr) | ty (n : String)
  deriving DecidableEq
def RelV : V → Value → Prop
  | .non, u => u = Value.none
  | .bl b, u => u = Value.bool b
  | .int i, u => ∃ t, u = Value.int i t
  | .str x, u => ∃ t, u = Value.str x t
  | .byt b, u => ∃ t, u = Value.bytes b t
  | .flt b, u => ∃ t, u = Value.float b t
  | .ref a, u => u = Value.ref a
  | .ty n, u => u = Value.type n
abbrev Vals : List V → List Value → Prop := Paired RelV
theorem Vals.length {xs : List V} {us : List Value} (r : Vals xs us) : xs.length = us.length := Paired.length r
theorem Vals.get : ∀ {xs : List V} {us : List Value} {i : Nat} {x : V}, Vals xs us → xs[i]? = some x → ∃ u, us[i]? = some u ∧ RelV x u
  | _, _, _, _, .nil, e => by simp at e
  | _, _, 0, _, .cons r _, e => by simp at e; subst e; exact ⟨_, rfl, r⟩
  | _, _, i + 1, x, .cons _ t, e => by
    obtain ⟨u, h1, h2⟩ := Vals.get (i := i) (x := x) t (by simpa using e)
    exact ⟨u, by simpa using h1, h2⟩
theorem Vals.append : ∀ {xs ys : List V} {us ws : List Value}, Vals xs us → Vals ys ws → Vals (xs ++ ys) (us ++ ws)
  | _, _, _, _, .nil, s => s
  | _, _, _, _, .cons r t, s => .cons r (Vals.append t s)
theorem Vals.take : ∀ {xs : List V} {us : List Value} (n : Nat), Vals xs us → Vals (xs.take n) (us.take n)
  | _, _, 0, _ => .nil
  | _, _, _ + 1, .nil => .nil
  | _, _, n + 1, .cons r t => .cons r (Vals.take n t)
theorem Vals.drop : ∀ {xs : List V} {us : List Value} (n : Nat), Vals xs us → Vals (xs.drop n) (us.drop n)
  | _, _, 0, r => r
  | _, _, _ + 1, .nil => .nil
  | _, _, n + 1, .cons _ t => Vals.drop n t
def RelO : Option V → Option Value → Prop
  | some v, some u => RelV v u
  | none, none => True
  | _, _ => False
def KV {κ : Type} : List (κ × V) → List (κ × Value) → Prop := Paired fun (p : κ × V) (q : κ × Value) => p.1 = q.1 ∧ RelV p.2 q.2
def kV : Key → V
  | .inl i => .int i
  | .inr x => .str x
inductive HO where
    | lst (xs : List V)
    | tup (xs : List V)
    | dK (kvs : List (Key × V)) | dT (kvs : List (List Key × V))
    | set (S : Int → Bool) (n : Nat)
    | ins (C dx : Addr) (fs : List (Str × V))
    | own (x : Addr)
    | xd (fs : List (Str × V))
    | met (f x : Addr)
    | rng (lo hi : Int)
    | frz (o : Obj) (u : HO)
    | tbl (ps : Array Value)
    | ext (φ : Heap → Prop)
abbrev Hp := Addr → Option HO
def upd (H : Hp) (a : Addr) (o : HO) : Hp := fun b => if b = a then some o else H b
theorem upd_same {H : Hp} {a : Addr} {o : HO} : upd H a o a = some o := by unfold upd; rw [if_pos rfl]
theorem upd_ne {H : Hp} {a b : Addr} {o : HO} (h : b ≠ a) : upd H a o b = H b := by unfold upd; rw [if_neg h]
theorem ne_of {H : Hp} {a b : Addr} {o u : HO} (h : H a = some o) (h' : H b = some u) (d : o ≠ u) : a ≠ b := by
  intro e; subst e; rw [h] at h'; exact d (Option.some.inj h')
theorem ne_of_none {H : Hp} {a b : Addr} {o : HO} (h : H a = some o) (h' : H b = none) : a ≠ b := by
  intro e; subst e; rw [h] at h'; cases h'
section
variable (P : Program) (w : World)
def ObjOk (H : Hp) (h : Heap) (a : Addr) : HO → Prop
  | .lst xs => xs.length ≤ sizeLine ∧ ∃ (its : List Value) (n : Nat), Vals xs its ∧ h.get? a = some { cls := .type "list", data := .seq its.toArray n }
  | .tup xs => xs.length ≤ sizeLine ∧ ∃ its : List Value, Vals xs its ∧ IsTup h a its.toArray
  | .dK kvs => kvs.length ≤ sizeLine ∧ (a == sysModules) = false ∧ ∃ vs, KV kvs vs ∧ h.DictOf (mixKind P w) a vs
  | .dT kvs => kvs.length ≤ sizeLine ∧ (a == sysModules) = false ∧ ∃ xs : List (List Key × Addr × Value),
      Paired (fun (p : List Key × V) (q : List Key × Addr × Value) => p.1 = q.1 ∧ H q.2.1 = some (.tup (p.1.map kV)) ∧ RelV p.2 q.2.2) kvs xs ∧
      ∃ o es ep, h.get? a = some o ∧ o.ExactDict ∧ o.data = .dict es ep ∧ es.toList = xs.map (entryOfKey (tupleKind (mixKind P w))) ∧ (xs.map (·.1)).Nodup
  | .set S n => h.SetOf (intKind P w) a S n
  | .ins C dx fs => H dx = some (.own a) ∧ fs.length ≤ 1000 ∧ dx ≠ a ∧ h.get? a = some (PySem.W.instObj C dx) ∧
      ∃ mA, h.Ns1 dx mA ∧ (∀ f, RelO (fs.lookup f) (mA f)) ∧ PySem.Within mA (fs.map (·.1))
  | .own _ => ∃ o, h.get? a = some o
  | .xd fs => ∃ mA, h.Ns1 a mA ∧ ∀ f, RelO (fs.lookup f) (mA f)
  | .rng lo hi => ∃ t u v, h.get? a = some { cls := .type "range", data := .fields #[.int lo t, .int hi u, .int 1 v] }
  | .frz o u => h.get? a = some o ∧ ObjOk H h a u
  | .tbl ps => h.get? a = some { cls := .none, data := .fields ps }
  | .met f x => h.get? a = some (PySem.W.methodObj (.ref f) (.ref x))
  | .ext φ => φ h ∧ (∃ o, h.get? a = some o) ∧ ∀ h1 h2 : Heap, φ h1 → (∀ o, h1.get? a = some o → h2.get? a = some o) → φ h2
def HOk (H : Hp) (h : Heap) : Prop := ∀ a o, H a = some o → ObjOk P w H h a o
end
section
variable {P : Program} {w : World} {H H' : Hp} {h h' : Heap} {a : Addr} {o : HO}
theorem ObjOk.lt (x : ObjOk P w H h a o) : a < h.objs.size := by
  cases o with
  | lst xs => obtain ⟨_, _, _, _, e⟩ := x; exact Heap.lt_size e
  | tup xs => obtain ⟨_, _, _, p⟩ := x; exact p.lt
  | dK kvs => obtain ⟨_, _, _, _, o, _, _, e, _⟩ := x; exact Heap.lt_size e
  | dT kvs => obtain ⟨_, _, _, _, o, _, _, e, _⟩ := x; exact Heap.lt_size e
  | set S n => obtain ⟨o, _, _, _, e, _⟩ := x; exact Heap.lt_size e
  | ins C dx fs => obtain ⟨_, _, _, e, _⟩ := x; exact Heap.lt_size e
  | own y => obtain ⟨_, e⟩ := x; exact Heap.lt_size e
  | xd fs => obtain ⟨_, ⟨_, _, _, e, _⟩, _⟩ := x; exact Heap.lt_size e
  | rng lo hi => obtain ⟨_, _, _, e⟩ := x; exact Heap.lt_size e
  | frz ob u => obtain ⟨e, _⟩ := x; exact Heap.lt_size e
  | tbl ps => exact Heap.lt_size (show h.get? a = some _ from x)
  | met f y => exact Heap.lt_size (show h.get? a = some _ from x)
  | ext φ => obtain ⟨_, ⟨_, e⟩, _⟩ := x; exact Heap.lt_size e
theorem Paired.mapP {α β : Type} {F G : α → β → Prop} : ∀ {l₁ : List α} {l₂ : List β}, Paired F l₁ l₂ → (∀ a b, F a b → G a b) → Paired G l₁ l₂
  | _, _, .nil, _ => .nil
  | _, _, .cons r t, f => .cons (f _ _ r) (Paired.mapP t f)
theorem ObjOk.stay (x : ObjOk P w H h a o) (k : ∀ b u, (b = a ∨ H b = some (.own a)) → h.get? b = some u → h'.get? b = some u)
    (ho : ∀ b, H b = some (.own a) → H' b = some (.own a)) (ht : ∀ b xs, H b = some (.tup xs) → H' b = some (.tup xs)) : ObjOk P w H' h' a o := by
  induction o with
  | lst xs => obtain ⟨z, its, n, r, e⟩ := x; exact ⟨z, its, n, r, k _ _ (.inl rfl) e⟩
  | tup xs => obtain ⟨z, its, r, ob, e, c⟩ := x; exact ⟨z, its, r, ob, k _ _ (.inl rfl) e, c⟩
  | dK kvs => obtain ⟨z, y, vs, r, ob, es, ep, e, c⟩ := x; exact ⟨z, y, vs, r, ob, es, ep, k _ _ (.inl rfl) e, c⟩
  | dT kvs =>
    obtain ⟨z, y, xs, r, ob, es, ep, e, c⟩ := x
    exact ⟨z, y, xs, Paired.mapP r fun p q z => ⟨z.1, ht _ _ z.2.1, z.2.2⟩, ob, es, ep, k _ _ (.inl rfl) e, c⟩
  | set S n => obtain ⟨ob, es, ep, t, e, c⟩ := x; exact ⟨ob, es, ep, t, k _ _ (.inl rfl) e, c⟩
  | ins C dx fs =>
    obtain ⟨d, z, ne, e, mA, ⟨od, es, ep, e2, c⟩, r⟩ := x
    exact ⟨ho _ d, z, ne, k _ _ (.inl rfl) e, mA, ⟨od, es, ep, k _ _ (.inr d) e2, c⟩, r⟩
  | own y => obtain ⟨ob, e⟩ := x; exact ⟨ob, k _ _ (.inl rfl) e⟩
  | xd fs => obtain ⟨mA, ⟨od, es, ep, e, c⟩, r⟩ := x; exact ⟨mA, ⟨od, es, ep, k _ _ (.inl rfl) e, c⟩, r⟩
  | rng lo hi => obtain ⟨t, u, v, e⟩ := x; exact ⟨t, u, v, k _ _ (.inl rfl) e⟩
  | frz ob u ih => obtain ⟨e, q⟩ := x; exact ⟨k _ _ (.inl rfl) e, ih q⟩
  | tbl ps =>
    have e : h.get? a = some { cls := .none, data := .fields ps } := x
    show h'.get? a = some { cls := .none, data := .fields ps }
    exact k a _ (.inl rfl) e
  | met f y =>
    have e : h.get? a = some (PySem.W.methodObj (.ref f) (.ref y)) := x
    show h'.get? a = some (PySem.W.methodObj (.ref f) (.ref y))
    exact k a _ (.inl rfl) e
  | ext φ => obtain ⟨p, ⟨o, e⟩, st⟩ := x; exact ⟨st _ _ p fun o q => k _ _ (.inl rfl) q, ⟨o, k _ _ (.inl rfl) e⟩, st⟩
theorem HOk.lt (x : HOk P w H h) (e : H a = some o) : a < h.objs.size := (x a o e).lt
theorem HOk.fresh (x : HOk P w H h) (e : h.objs.size ≤ a) : H a = none := by
  cases q : H a with
  | none => rfl
  | some u => exact absurd (Nat.lt_of_lt_of_le (x.lt q) e) (Nat.lt_irrefl _)
theorem HOk.kept (x : HOk P w H h) (k : ∀ b u, h.get? b = some u → h'.get? b = some u) : HOk P w H h' := fun a o e =>
  (x a o e).stay (fun b u _ q => k b u q) (fun _ q => q) fun _ _ q => q
theorem HOk.laid (x : HOk P w H h) (k : ∀ b u, h.get? b = some u → h'.get? b = some u) (hp : h.objs.size ≤ a) (new : ObjOk P w (upd H a o) h' a o) : HOk P w (upd H a o) h' := fun b u e => by
  have hn := x.fresh hp
  by_cases hb : b = a
  · subst hb; rw [upd_same] at e; cases e; exact new
  · rw [upd_ne hb] at e
    exact (x b u e).stay (fun c v _ q => k c v q) (fun c q => by rw [upd_ne (ne_of_none q hn)]; exact q) fun c xs q => by rw [upd_ne (ne_of_none q hn)]; exact q
end
def Rd (H : Hp) (a : Addr) (u : HO) : Prop := H a = some u ∨ ∃ o, H a = some (.frz o u)
theorem Rd.ok {P : Program} {w : World} {H : Hp} {h : Heap} {a : Addr} {u : HO} (r : Rd H a u) (x : HOk P w H h) : ObjOk P w H h a u := by
  rcases r with r | ⟨o, r⟩
  · exact x a u r
  · obtain ⟨_, q⟩ := x a _ r
    exact q
def Mut : Option HO → Prop
  | some (.lst _) => True
  | some (.dK _) => True
  | some (.dT _) => True
  | some (.set _ _) => True
  | some (.ins _ _ _) => True
  | some (.ext _) => True
  | _ => False
section
variable {P : Program} {w : World} {H : Hp} {h h' : Heap} {x e : Addr} {o' : HO}
theorem HOk.write (ok : HOk P w H h) (mu : Mut (H x)) (he : e = x ∨ H e = some (.own x)) (k : ∀ b u, b ≠ e → h.get? b = some u → h'.get? b = some u) (heo : ∃ u, h'.get? e = some u)
    (new : ObjOk P w (upd H x o') h' x o') : HOk P w (upd H x o') h' := fun b u q => by
  have nown : ∀ c y, H c = some (.own y) → c ≠ x := fun c y r z => by subst z; rw [r] at mu; exact mu
  have ntup : ∀ c xs, H c = some (.tup xs) → c ≠ x := fun c xs r z => by subst z; rw [r] at mu; exact mu
  by_cases hb : b = x
  · subst hb; rw [upd_same] at q; cases q; exact new
  · rw [upd_ne hb] at q
    by_cases hbe : b = e
    · have q' : H b = some (.own x) := by
        rcases he with z | z
        · exact absurd (hbe.trans z) hb
        · rw [hbe]; exact z
      rw [q] at q'; cases q'
      obtain ⟨v, hv⟩ := heo
      exact ⟨v, by rw [hbe]; exact hv⟩
    · refine (ok b u q).stay (fun c v hc r => k c v ?_ r) (fun c r => by rw [upd_ne (nown c b r)]; exact r) fun c xs r => by rw [upd_ne (ntup c xs r)]; exact r
      rcases hc with rfl | hc
      · exact hbe
      · rintro rfl
        rcases he with z | z
        · exact nown c b hc z
        · rw [hc] at z; cases z; exact hb rfl
end
structure Un (fs ex : List Addr) (H H' : Hp) (h h' : Heap) : Prop where
  keep : ∀ b o, h.get? b = some o → H b = none → b ∉ fs → b ∉ ex → h'.get? b = some o
  slot : ∀ b o, h.get? b = some o → H b = none → b ∈ fs → b ∉ ex → ∃ sl, h'.get? b = some { o with slots := sl }
  free : ∀ b o, h.get? b = some o → H b = none → b ∉ ex → H' b = none
  there : ∀ b o, h.get? b = some o → b ∉ ex → ∃ o', h'.get? b = some o'
  tups : ∀ b xs, H b = some (.tup xs) → H' b = some (.tup xs)
  frzs : ∀ b o u, H b = some (.frz o u) → H' b = some (.frz o u)
  tbls : ∀ b ps, H b = some (.tbl ps) → ∃ more, H' b = some (.tbl (ps ++ more))
section
variable {fs fs' ex ex' : List Addr} {H H1 H2 : Hp} {h h1 h2 h' : Heap} {a x e : Addr} {o : HO}
theorem Un.any (u : Un fs ex H H1 h h1) {b : Addr} {ob : Obj} (q : h.get? b = some ob) (n : H b = none) (hx : b ∉ ex) : ∃ sl, h1.get? b = some { ob with slots := sl } := by
  by_cases hb : b ∈ fs
  · exact u.slot b ob q n hb hx
  · exact ⟨ob.slots, u.keep b ob q n hb hx⟩
theorem Un.kept (k : ∀ b u, h.get? b = some u → h'.get? b = some u) : Un fs ex H H h h' :=
  ⟨fun b ob q _ _ _ => k b ob q, fun b ob q _ _ _ => ⟨ob.slots, k b ob q⟩, fun _ _ _ n _ => n, fun b ob q _ => ⟨ob, k b ob q⟩, fun _ _ q => q, fun _ _ _ q => q, fun _ ps q => ⟨#[], by rw [q]; simp⟩⟩
theorem Un.refl : Un fs ex H H h h := Un.kept fun _ _ q => q
theorem Un.laid (k : ∀ b u, h.get? b = some u → h'.get? b = some u) (hp : h.objs.size ≤ a) (hn : H a = none) : Un fs ex H (upd H a o) h h' where
  keep := fun b u q _ _ _ => k b u q
  slot := fun b u q _ _ _ => ⟨u.slots, k b u q⟩
  free := fun b u q n _ => by rw [upd_ne (Nat.ne_of_lt (Nat.lt_of_lt_of_le (Heap.lt_size q) hp))]; exact n
  there := fun b u q _ => ⟨u, k b u q⟩
  tups := fun b xs q => by rw [upd_ne (ne_of_none q hn)]; exact q
  frzs := fun b u xs q => by rw [upd_ne (ne_of_none q hn)]; exact q
  tbls := fun b ps q => ⟨#[], by rw [upd_ne (ne_of_none q hn), q]; simp⟩
theorem Un.write (mu : Mut (H x)) (he : e = x ∨ H e = some (.own x)) (k : ∀ b u, b ≠ e → h.get? b = some u → h'.get? b = some u) (heo : ∃ u, h'.get? e = some u) : Un fs ex H (upd H x o) h h' := by
  have hx : ∀ b, H b = none → b ≠ x := fun b n z => by subst z; rw [n] at mu; exact mu
  have hb : ∀ b, H b = none → b ≠ e := fun b n z => by
    subst z
    rcases he with r | r
    · exact hx b n r
    · rw [n] at r; cases r
  have hm : ∀ b u, H b = some u → ¬ Mut (some u) → b ≠ x := fun b u q nm z => by subst z; rw [q] at mu; exact nm mu
  refine ⟨fun b u q n _ _ => k b u (hb b n) q, fun b u q n _ _ => ⟨u.slots, k b u (hb b n) q⟩, fun b u q n _ => by rw [upd_ne (hx b n)]; exact n, fun b u q _ => ?_,
    fun b xs q => by rw [upd_ne (hm b _ q fun z => z)]; exact q, fun b u xs q => by rw [upd_ne (hm b _ q fun z => z)]; exact q, fun b ps q => ⟨#[], by rw [upd_ne (hm b _ q fun z => z), q]; simp⟩⟩
  by_cases hbe : b = e
  · subst hbe; exact heo
  · exact ⟨u, k b u hbe q⟩
end
def trk (h : Heap) (H : Hp) : List Addr := (List.range h.objs.size).filter fun a => (H a).isSome
def hidT (h : Heap) (H : Hp) : Heap := PySem.W.hideAll h (trk h H)
theorem hidT_size (h : Heap) (H : Hp) : (hidT h H).objs.size = h.objs.size := PySem.W.hideAll_size _ _
theorem hidT_get {h : Heap} {H : Hp} {b : Addr} {o : Obj} (e : h.get? b = some o) (n : H b = none) : (hidT h H).get? b = some o :=
  PySem.W.hideAll_get _ e fun hm => by
    have q : (H b).isSome = true := (List.mem_filter.mp hm).2
    rw [n] at q; simp at q
theorem of_hidT {h : Heap} {H : Hp} {b : Addr} {o : Obj} (e : (hidT h H).get? b = some o) : h.get? b = some o ∧ H b = none := by
  have e' : h.get? b = some o := PySem.W.of_hideAll (trk h H) e
  refine ⟨e', ?_⟩
  cases q : H b with
  | none => rfl
  | some x =>
    have hm : b ∈ trk h H := List.mem_filter.mpr ⟨List.mem_range.mpr (Heap.lt_size e'), by simp [q]⟩
    have z : (hidT h H).get? b = none := PySem.W.hideAll_none (trk h H) hm
    rw [z] at e; cases e
end L2
namespace L2
open PySem PySem.Spec PyProof.Rows
structure Mod (K : PySem.W.Frag) (mg : Str → Option Value) (base : Heap) : Prop where
  kin : K.In base
  glob : base.Ns mainGlobals mg
  blt : ∃ mb, base.Ns builtinsNs mb ∧ ∀ x : Str, x ≠ "__name__" → mb x = bootBuiltins x
  nolimit : base.NoLimit
structure Cx where
  prog : Program
  w : World
  K : PySem.W.Frag
  mg : Str → Option Value
  base : Heap
  A : Around
  N : List Str
  s₀ : Shared
  H₀ : Hp
  env : Env
  outer : List Env
  stack : List Env
  ex : List Addr
  fn : Str → Bool
  calm : Bool
  pn : List (Addr × Obj)
  xe : Value → Shared → Prop
def frs (l : List Env) : List Addr := l.filterMap (·.frame)
abbrev Cx.fs (X : Cx) : List Addr := frs X.outer
def Vis (sc : Scope) (x : Str) : Prop := sc.names.lookup x = some .local ∨ sc.names.lookup x = some .cell ∨ sc.names.lookup x = some .free
def Loc (sc : Scope) (x : Str) : Prop := sc.names.lookup x = some .local ∨ sc.names.lookup x = some .cell
def Look (env : Env) (h : Heap) (m : Str → Option Value) (x : Str) (u : Value) : Prop :=
  (env.kindOf x = some .local ∧ m x = some u) ∨ ((env.kindOf x = some .cell ∨ env.kindOf x = some .free) ∧ ∃ c, env.cells.lookup x = some c ∧ h.IsCell c (some u))
structure Cx.Ok (X : Cx) : Prop where
  mod : Mod X.K X.mg X.base
  kind : X.env.scope.kind = .function
  glob : X.env.globals = mainGlobals
  blt : X.env.builtins = builtinsNs
  above : X.s₀.heap.objs.size ≤ X.env.locals
  inj : ∀ x y c, X.env.cells.lookup x = some c → X.env.cells.lookup y = some c → x = y
  has : ∀ x, (X.env.kindOf x = some .cell ∨ X.env.kindOf x = some .free) → ∃ c, X.env.cells.lookup x = some c
  cab : ∀ x c, X.fn x = true → X.env.cells.lookup x = some c → X.s₀.heap.objs.size ≤ c
  hd : X.calm = true → X.A.handled = none
  frames : X.A.frames = some X.stack
  stk : X.stack = X.outer ∨ (X.stack = X.env :: X.outer ∧ X.env.frame = some X.env.locals)
  exf : ∀ b ∈ X.ex, b ≠ X.env.locals ∧ ∀ x c, X.env.cells.lookup x = some c → c ≠ b
  bs : ∀ b o, X.base.get? b = some o → X.s₀.heap.get? b = some o ∧ X.H₀ b = none
  bsz : X.base.objs.size ≤ X.s₀.heap.objs.size
  noex : ∀ b o, X.base.get? b = some o → b ∉ X.ex
  exfs : ∀ b ∈ X.ex, b ∉ X.fs
  funs : X.s₀.heap.FunFrames X.base X.outer
  frf : ∀ b ∈ X.fs, X.H₀ b = none
structure Inv (X : Cx) (pins : List (Addr × Obj)) (σ : List (Option V)) (H : Hp) (s : Shared) : Prop where
  ok : X.Ok
  os : s.os = X.s₀.os
  bare : AllBare s.gens
  base : Un X.fs X.ex X.H₀ H X.s₀.heap s.heap
  loc : ∃ m, s.heap.Ns X.env.locals m ∧ ∀ (i : Nat) (x : Str) (v : V), X.N[i]? = some x → σ[i]? = some (some v) → Vis X.env.scope x → ∃ u, RelV v u ∧ Look X.env s.heap m x u
  cell : ∀ x c, X.env.cells.lookup x = some c → ∃ v, s.heap.IsCell c v
  free : H X.env.locals = none
  freeC : ∀ x c, X.env.cells.lookup x = some c → H c = none
  pin : ∀ p ∈ X.pn ++ pins, s.heap.get? p.1 = some p.2 ∧ H p.1 = none ∧ p.1 ≠ X.env.locals ∧ p.1 ∉ X.fs ∧ ∀ v, p.2.data ≠ .cell v
  hok : HOk X.prog X.w H s.heap
  len : σ.length = X.N.length
section
variable {X : Cx} {pins : List (Addr × Obj)} {σ : List (Option V)} {H H' : Hp} {s : Shared} {h' : Heap}
theorem Cx.Ok.nofr (ok : X.Ok) {b : Addr} {o : Obj} (e : X.base.get? b = some o) : b ∉ X.fs := fun hb => by
  have := (ok.funs.mem hb).1
  rw [e] at this; cases this
theorem Inv.bs (I : Inv X pins σ H s) : ∀ b o, X.base.get? b = some o → s.heap.get? b = some o ∧ H b = none := fun b o e =>
  ⟨I.base.keep b o (I.ok.bs b o e).1 (I.ok.bs b o e).2 (I.ok.nofr e) (I.ok.noex b o e), I.base.free b o (I.ok.bs b o e).1 (I.ok.bs b o e).2 (I.ok.noex b o e)⟩
theorem Inv.bk (I : Inv X pins σ H s) : ∀ b o, X.base.get? b = some o → s.heap.get? b = some o := fun b o e => (I.bs b o e).1
theorem Inv.mod (I : Inv X pins σ H s) : Mod X.K X.mg X.base := I.ok.mod
theorem Inv.kIn (I : Inv X pins σ H s) : X.K.In s.heap := I.ok.mod.kin.keeps I.bk
theorem Inv.lt (I : Inv X pins σ H s) : X.env.locals < s.heap.objs.size := let ⟨_, hn, _⟩ := I.loc; hn.lt
theorem Inv.sz (I : Inv X pins σ H s) : X.s₀.heap.objs.size ≤ s.heap.objs.size := Nat.le_trans I.ok.above (Nat.le_of_lt I.lt)
theorem Inv.nofs (I : Inv X pins σ H s) {a : Addr} (h : s.heap.objs.size ≤ a) : a ∉ X.fs := fun hb => by
  obtain ⟨_, o, ho, _⟩ := I.ok.funs.mem hb
  exact absurd (Nat.lt_of_lt_of_le (Heap.lt_size ho) (Nat.le_trans I.sz h)) (Nat.lt_irrefl _)
theorem Inv.cne (I : Inv X pins σ H s) : ∀ x c, X.env.cells.lookup x = some c → c ≠ X.env.locals := fun x c e z => by
  obtain ⟨v, o, ho, hd⟩ := I.cell x c e
  obtain ⟨m, ⟨o', es, ep, ho', hd', _⟩, _⟩ := I.loc
  rw [z, ho'] at ho; cases ho; rw [hd'] at hd; cases hd
theorem Inv.funs (I : Inv X pins σ H s) : s.heap.FunFrames X.base X.outer := by
  have all : ∀ (l : List Env), (∀ b ∈ frs l, b ∈ X.fs) → X.s₀.heap.FunFrames X.base l → s.heap.FunFrames X.base l := by
    intro l
    induction l with
    | nil => intro _ _; trivial
    | cons env r ih =>
      intro hs hl
      obtain ⟨hk, ⟨L, o, hf, hn, ho, hd⟩, hr⟩ := hl
      have hL : L ∈ X.fs := hs L (by unfold frs; rw [List.filterMap_cons, hf]; exact List.mem_cons_self)
      obtain ⟨sl, e⟩ := I.base.slot L o ho (I.ok.frf L hL) hL fun z => I.ok.exfs L z hL
      exact ⟨hk, ⟨L, _, hf, hn, e, hd⟩, ih (fun b hb => hs b (by unfold frs; rw [List.filterMap_cons, hf]; exact List.mem_cons_of_mem _ hb)) hr⟩
  exact all X.outer (fun _ hb => hb) I.ok.funs
theorem Inv.stack (I : Inv X pins σ H s) : s.heap.FunFrames X.base X.stack := by
  rcases I.ok.stk with e | ⟨e, hf⟩
  · rw [e]; exact I.funs
  · rw [e]
    obtain ⟨m, hn, _⟩ := I.loc
    refine .cons (by rw [I.ok.kind]; decide) hf hn ?_ I.funs
    exact Heap.get?_none_of_le (Nat.le_trans I.ok.bsz I.ok.above)
theorem Inv.stkSub (I : Inv X pins σ H s) : ∀ b ∈ frs X.stack, b ∈ X.env.locals :: X.fs := fun b hb => by
  rcases I.ok.stk with e | ⟨e, hf⟩
  · rw [e] at hb; exact List.mem_cons_of_mem _ hb
  · rw [e] at hb
    unfold frs at hb
    rw [List.filterMap_cons, hf] at hb
    exact hb
theorem Inv.stkFree (I : Inv X pins σ H s) : ∀ b ∈ frs X.stack, H b = none := fun b hb => by
  rcases List.mem_cons.mp (I.stkSub b hb) with e | hb
  · rw [e]; exact I.free
  · obtain ⟨_, o, ho, _⟩ := I.ok.funs.mem hb
    exact I.base.free b o ho (I.ok.frf b hb) fun z => I.ok.exfs b z hb
theorem Inv.step {g' : Array GenState} {t' : Nat} {d' : Drawn} {ch : List Addr} (I : Inv X pins σ H s)
    (hch : ∀ b ∈ ch, (b ∈ X.ex ∨ X.s₀.heap.objs.size ≤ b) ∧ b ≠ X.env.locals ∧ (∀ x c, X.env.cells.lookup x = some c → c ≠ b) ∧ ∀ p ∈ X.pn ++ pins, p.1 ≠ b)
    (keep : ∀ b o, b ≠ X.env.locals → b ∉ X.fs → b ∉ ch → s.heap.get? b = some o → H b = none → h'.get? b = some o)
    (slot : ∀ b o, b ≠ X.env.locals → b ∈ X.fs → b ∉ ch → s.heap.get? b = some o → H b = none → ∃ sl, h'.get? b = some { o with slots := sl }) (free : ∀ b o, b ∉ ch → s.heap.get? b = some o → H b = none → H' b = none)
    (there : ∀ b o, b ∉ ch → s.heap.get? b = some o → ∃ o', h'.get? b = some o')
    (tups : ∀ b xs, H b = some (.tup xs) → H' b = some (.tup xs)) (frzs : ∀ b o u, H b = some (.frz o u) → H' b = some (.frz o u)) (tbls : ∀ b ps, H b = some (.tbl ps) → ∃ more, H' b = some (.tbl (ps ++ more)))
    (ns : ∀ m, s.heap.Ns X.env.locals m → h'.Ns X.env.locals m) (hok : HOk X.prog X.w H' h') (hg : AllBare g') :
    Inv X pins σ H' { s with heap := h', gens := g', drawn := d', toks := t' } := by
  have neL : ∀ b o, X.s₀.heap.get? b = some o → b ≠ X.env.locals := fun b o e => Nat.ne_of_lt (Nat.lt_of_lt_of_le (Heap.lt_size e) I.ok.above)
  have neC : ∀ b o, X.s₀.heap.get? b = some o → b ∉ X.ex → b ∉ ch := fun b o e hx hb => by
    rcases (hch b hb).1 with z | z
    · exact hx z
    · exact absurd (Nat.lt_of_lt_of_le (Heap.lt_size e) z) (Nat.lt_irrefl _)
  have cellK : ∀ x c, X.env.cells.lookup x = some c → ∀ v, s.heap.IsCell c v → h'.IsCell c v := fun x c e v ⟨o, ho, hd⟩ => by
    have nch : c ∉ ch := fun z => (hch c z).2.2.1 x c e rfl
    by_cases hc : c ∈ X.fs
    · obtain ⟨sl, q⟩ := slot c o (I.cne x c e) hc nch ho (I.freeC x c e)
      exact ⟨_, q, hd⟩
    · exact ⟨o, keep c o (I.cne x c e) hc nch ho (I.freeC x c e), hd⟩
  refine ⟨I.ok, I.os, hg, ⟨fun b o e n hb hx => ?_, fun b o e n hb hx => ?_, fun b o e n hx => ?_, fun b o e hx => ?_, fun b xs e => tups b xs (I.base.tups b xs e), fun b o xs e => frzs b o xs (I.base.frzs b o xs e), fun b ps e => ?_⟩, ?_, fun x c e => ?_, ?_, fun x c e => ?_, fun p hp => ?_, hok, I.len⟩
  · exact keep b o (neL b o e) hb (neC b o e hx) (I.base.keep b o e n hb hx) (I.base.free b o e n hx)
  · obtain ⟨sl, e1⟩ := I.base.slot b o e n hb hx
    obtain ⟨sl', e2⟩ := slot b _ (neL b o e) hb (neC b o e hx) e1 (I.base.free b o e n hx)
    exact ⟨sl', e2⟩
  · obtain ⟨o', e1⟩ := I.base.there b o e hx
    exact free b o' (neC b o e hx) e1 (I.base.free b o e n hx)
  · obtain ⟨o', e1⟩ := I.base.there b o e hx
    exact there b o' (neC b o e hx) e1
  · obtain ⟨m1, e1⟩ := I.base.tbls b ps e
    obtain ⟨m2, e2⟩ := tbls b _ e1
    exact ⟨m1 ++ m2, by rw [e2, Array.append_assoc]⟩
  · obtain ⟨m, hn, hl⟩ := I.loc
    refine ⟨m, ns m hn, fun i x v e1 e2 e3 => ?_⟩
    obtain ⟨u, r, l⟩ := hl i x v e1 e2 e3
    refine ⟨u, r, ?_⟩
    rcases l with l | ⟨k, c, e, z⟩
    · exact .inl l
    · exact .inr ⟨k, c, e, cellK x c e _ z⟩
  · obtain ⟨v, z⟩ := I.cell x c e
    exact ⟨v, cellK x c e v z⟩
  · obtain ⟨m, ⟨o, _, _, ho, _⟩, _⟩ := I.loc
    exact free _ o (fun z => (hch _ z).2.1 rfl) ho I.free
  · obtain ⟨v, o, ho, hd⟩ := I.cell x c e
    exact free c o (fun z => (hch c z).2.2.1 x c e rfl) ho (I.freeC x c e)
  · obtain ⟨e, n, ne, nf, d⟩ := I.pin p hp
    have nch : p.1 ∉ ch := fun z => (hch p.1 z).2.2.2 p hp rfl
    exact ⟨keep p.1 p.2 ne nf nch e n, free p.1 p.2 nch e n, ne, nf, d⟩
theorem Inv.un {t' : Nat} (I : Inv X pins σ H s) (u : Un X.fs [] H H' s.heap h') (hok : HOk X.prog X.w H' h') : Inv X pins σ H' { s with heap := h', toks := t' } := by
  obtain ⟨m, ⟨o, es, ep, ho, r⟩, _⟩ := id I.loc
  obtain ⟨sl, hL⟩ := u.any ho I.free (by simp)
  exact I.step (g' := s.gens) (d' := s.drawn) (ch := []) (fun _ z => nomatch z) (fun b o _ hb _ e n => u.keep b o e n hb (by simp)) (fun b o _ hb _ e n => u.slot b o e n hb (by simp)) (fun b o _ e n => u.free b o e n (by simp)) (fun b o _ e => u.there b o e (by simp)) u.tups u.frzs u.tbls (fun m' hm => by
    obtain ⟨o', es', ep', ho', r'⟩ := hm
    rw [ho] at ho'; cases ho'
    exact ⟨_, es', ep', hL, r'⟩) hok I.bare
theorem Inv.call {g' : Array GenState} {t' : Nat} {d' : Drawn} {ch : List Addr} (I : Inv X pins σ H s) (u : Un (frs X.stack) ch H H' s.heap h') (hok : HOk X.prog X.w H' h') (hg : AllBare g')
    (hch : ∀ b ∈ ch, (b ∈ X.ex ∨ X.s₀.heap.objs.size ≤ b) ∧ b ≠ X.env.locals ∧ (∀ x c, X.env.cells.lookup x = some c → c ≠ b) ∧ ∀ p ∈ X.pn ++ pins, p.1 ≠ b) :
    Inv X pins σ H' { s with heap := h', gens := g', drawn := d', toks := t' } := by
  obtain ⟨m, ⟨o, es, ep, ho, r⟩, _⟩ := id I.loc
  obtain ⟨sl, hL⟩ := u.any ho I.free fun z => (hch _ z).2.1 rfl
  exact I.step (ch := ch) hch (fun b o hL hb hc e n => u.keep b o e n (fun z => (List.mem_cons.mp (I.stkSub b z)).elim hL hb) hc) (fun b o _ _ hc e n => u.any e n hc) (fun b o hc e n => u.free b o e n hc) (fun b o hc e => u.there b o e hc) u.tups u.frzs u.tbls (fun m' hm => by
    obtain ⟨o', es', ep', ho', r'⟩ := hm
    rw [ho] at ho'; cases ho'
    exact ⟨_, es', ep', hL, r'⟩) hok hg
theorem Inv.turned {t' : Nat} {it : Addr} (I : Inv X pins σ H s) (k : ∀ b o, b ≠ it → s.heap.get? b = some o → h'.get? b = some o) (hn : H it = none) (hL : it ≠ X.env.locals)
    (h1 : it ∈ X.ex ∨ X.s₀.heap.objs.size ≤ it) (h2 : ∀ x c, X.env.cells.lookup x = some c → c ≠ it) (h3 : ∀ p ∈ X.pn ++ pins, p.1 ≠ it) : Inv X pins σ H { s with heap := h', toks := t' } := by
  have nit : ∀ b u, H b = some u → b ≠ it := fun b u e z => by rw [z, hn] at e; cases e
  refine I.step (g' := s.gens) (d' := s.drawn) (ch := [it]) (fun b hb => ?_) (fun b o _ _ hc e _ => k b o (fun z => hc (by simp [z])) e) (fun b o _ _ hc e _ => ⟨o.slots, k b o (fun z => hc (by simp [z])) e⟩) (fun _ _ _ _ n => n)
    (fun b o hc e => ⟨o, k b o (fun z => hc (by simp [z])) e⟩) (fun _ _ e => e) (fun _ _ _ e => e) (fun b ps e => ⟨#[], by rw [e]; simp⟩) (fun m hm => ?_) (fun b u e => ?_) I.bare
  · have e : b = it := by simpa using hb
    subst e
    exact ⟨h1, hL, h2, h3⟩
  · obtain ⟨o, es, ep, ho, r⟩ := hm
    exact ⟨o, es, ep, k _ o (Ne.symm hL) ho, r⟩
  · refine (I.hok b u e).stay (fun c v hc q => k c v ?_ q) (fun _ q => q) fun _ _ q => q
    rcases hc with z | z
    · rw [z]; exact nit b u e
    · exact nit c _ z
theorem Inv.tok (I : Inv X pins σ H s) (t : Nat) : Inv X pins σ H { s with toks := t } := I.un (h' := s.heap) (t' := t) Un.refl I.hok
theorem Inv.kept {t' : Nat} (I : Inv X pins σ H s) (k : ∀ b u, s.heap.get? b = some u → h'.get? b = some u) : Inv X pins σ H { s with heap := h', toks := t' } := I.un (Un.kept k) (I.hok.kept k)
theorem Inv.laid {a : Addr} {o : HO} {t' : Nat} (I : Inv X pins σ H s) (k : ∀ b u, s.heap.get? b = some u → h'.get? b = some u) (hp : s.heap.objs.size ≤ a) (new : ObjOk X.prog X.w (upd H a o) h' a o) :
    Inv X pins σ (upd H a o) { s with heap := h', toks := t' } := I.un (Un.laid k hp (I.hok.fresh hp)) (I.hok.laid k hp new)
theorem Inv.write {x e : Addr} {o : HO} {t' : Nat} (I : Inv X pins σ H s) (mu : Mut (H x)) (he : e = x ∨ H e = some (.own x)) (k : ∀ b u, b ≠ e → s.heap.get? b = some u → h'.get? b = some u) (heo : ∃ u, h'.get? e = some u)
    (new : ObjOk X.prog X.w (upd H x o) h' x o) : Inv X pins σ (upd H x o) { s with heap := h', toks := t' } := I.un (Un.write mu he k heo) (I.hok.write mu he k heo new)
theorem Inv.pins_of {pins' : List (Addr × Obj)} (I : Inv X pins σ H s) (h : ∀ p ∈ pins', s.heap.get? p.1 = some p.2 ∧ H p.1 = none ∧ p.1 ≠ X.env.locals ∧ p.1 ∉ X.fs ∧ ∀ v, p.2.data ≠ .cell v) : Inv X pins' σ H s :=
  ⟨I.ok, I.os, I.bare, I.base, I.loc, I.cell, I.free, I.freeC, fun p hp => (List.mem_append.mp hp).elim (fun z => I.pin p (List.mem_append_left _ z)) (h p), I.hok, I.len⟩
theorem nodup_ix {N : List Str} (hN : N.Nodup) {i j : Nat} {x : Str} (a : N[i]? = some x) (b : N[j]? = some x) : i = j := by
  obtain ⟨h1, e1⟩ := List.getElem?_eq_some_iff.mp a
  obtain ⟨h2, e2⟩ := List.getElem?_eq_some_iff.mp b
  exact (List.getElem_inj hN).mp (e1.trans e2.symm)
theorem store_ok2 {M : Model} {A : Around} {E : Value → Shared → Prop} {i : Nat} {x : Str} {v : V} {u : Value} {Q : Unit → Shared → Prop} (I : Inv X pins σ H s) (hN : X.N.Nodup) (hi : X.N[i]? = some x) (hx : Loc X.env.scope x) (r : RelV v u)
    (h : ∀ s', Inv X pins (σ.set i (some v)) H s' → (∃ a, Heap.SameBut a s.heap s'.heap ∧ (a = X.env.locals ∨ X.env.cells.lookup x = some a)) → Q () s') (hf : X.fn x = true ∨ X.env.scope.names.lookup x = some .local := by first | exact .inl rfl | exact .inr rfl | assumption) : wpAny M A (storeName X.env x u) Q E s := by
  obtain ⟨m, hn, hl⟩ := id I.loc
  have hcls : (X.env.scope.kind == .class || (X.env.scope.kind == .module && X.env.locals != X.env.globals)) = false := by rw [I.ok.kind]; rfl
  have hiσ : i < σ.length := by rw [I.len]; exact (List.getElem?_eq_some_iff.mp hi).1
  have cne := I.cne
  have tracked : ∀ {a : Addr} {h' : Heap}, (∃ o, s.heap.get? a = some o ∧ H a = none) → Heap.SameBut a s.heap h' → HOk X.prog X.w H h' := fun {a h'} ha hs b ob e => by
    obtain ⟨_, _, hfree⟩ := ha
    refine (I.hok b ob e).stay (fun c w' hc q => (hs.2 c ?_).trans q) (fun _ q => q) fun _ _ q => q
    rintro rfl
    rcases hc with rfl | hc
    · rw [hfree] at e; cases e
    · rw [hfree] at hc; cases hc
  rcases hx with hk | hk
  · refine wpAny_storeName_local hk hn (fun h' hn' hs => ?_) hcls
    obtain ⟨oL, _, _, hoL, _⟩ := id hn
    refine h _ ⟨I.ok, I.os, I.bare, ⟨fun b o e n hb hx => ?_, fun b o e n hb hx => ?_, I.base.free, fun b o e hx => ?_, I.base.tups, I.base.frzs, I.base.tbls⟩, ⟨_, hn', fun j y v' e1 e2 e3 => ?_⟩, fun y c e => ?_, I.free, I.freeC, fun p hp => ?_, tracked ⟨oL, hoL, I.free⟩ hs, by simpa using I.len⟩ ⟨_, hs, .inl rfl⟩
    · exact (hs.2 b (Nat.ne_of_lt (Nat.lt_of_lt_of_le (Heap.lt_size e) I.ok.above))).trans (I.base.keep b o e n hb hx)
    · obtain ⟨sl, e1⟩ := I.base.slot b o e n hb hx
      exact ⟨sl, (hs.2 b (Nat.ne_of_lt (Nat.lt_of_lt_of_le (Heap.lt_size e) I.ok.above))).trans e1⟩
    · obtain ⟨o', e1⟩ := I.base.there b o e hx
      exact ⟨o', (hs.2 b (Nat.ne_of_lt (Nat.lt_of_lt_of_le (Heap.lt_size e) I.ok.above))).trans e1⟩
    · by_cases hj : j = i
      · subst hj
        rw [hi] at e1; cases e1
        rw [List.getElem?_set_self hiσ] at e2
        cases e2
        exact ⟨u, r, .inl ⟨hk, by simp⟩⟩
      · rw [List.getElem?_set_ne (Ne.symm hj)] at e2
        obtain ⟨u', r', q⟩ := hl j y v' e1 e2 e3
        refine ⟨u', r', ?_⟩
        rcases q with ⟨k, e⟩ | ⟨k, c, e, z⟩
        · refine .inl ⟨k, ?_⟩
          have : y ≠ x := fun e => hj (nodup_ix hN e1 (e ▸ hi))
          simp [this, e]
        · exact .inr ⟨k, c, e, z.sameBut hs (cne y c e)⟩
    · obtain ⟨w', z⟩ := I.cell y c e
      exact ⟨w', z.sameBut hs (cne y c e)⟩
    · obtain ⟨e, n, ne, nf, d⟩ := I.pin p hp
      exact ⟨(hs.2 p.1 ne).trans e, n, ne, nf, d⟩
  · have hfn : X.fn x = true := by
      rcases hf with z | z
      · exact z
      · rw [z] at hk; cases hk
    obtain ⟨c, hc⟩ := I.ok.has x (.inl hk)
    obtain ⟨w', z⟩ := I.cell x c hc
    refine wpAny_storeName_cell I.ok.kind hk hc z (fun h' hc' hs => ?_)
    obtain ⟨oc, hoc, hocd⟩ := id z
    refine h { s with heap := h' } ⟨I.ok, I.os, I.bare, ⟨fun b o e n hb hx => ?_, fun b o e n hb hx => ?_, I.base.free, fun b o e hx => ?_, I.base.tups, I.base.frzs, I.base.tbls⟩, ⟨m, hn.sameBut hs (Ne.symm (cne x c hc)), fun j y v' e1 e2 e3 => ?_⟩, fun y c' e => ?_, I.free, I.freeC, fun p hp => ?_, tracked ⟨oc, hoc, I.freeC x c hc⟩ hs, by simpa using I.len⟩ ⟨c, hs, .inr hc⟩
    · exact (hs.2 b (Nat.ne_of_lt (Nat.lt_of_lt_of_le (Heap.lt_size e) (I.ok.cab x c hfn hc)))).trans (I.base.keep b o e n hb hx)
    · obtain ⟨sl, e1⟩ := I.base.slot b o e n hb hx
      exact ⟨sl, (hs.2 b (Nat.ne_of_lt (Nat.lt_of_lt_of_le (Heap.lt_size e) (I.ok.cab x c hfn hc)))).trans e1⟩
    · obtain ⟨o', e1⟩ := I.base.there b o e hx
      exact ⟨o', (hs.2 b (Nat.ne_of_lt (Nat.lt_of_lt_of_le (Heap.lt_size e) (I.ok.cab x c hfn hc)))).trans e1⟩
    · by_cases hj : j = i
      · subst hj
        rw [hi] at e1; cases e1
        rw [List.getElem?_set_self hiσ] at e2
        cases e2
        exact ⟨u, r, .inr ⟨.inl hk, c, hc, hc'⟩⟩
      · rw [List.getElem?_set_ne (Ne.symm hj)] at e2
        obtain ⟨u', r', q⟩ := hl j y v' e1 e2 e3
        refine ⟨u', r', ?_⟩
        rcases q with q | ⟨k, c', e, z'⟩
        · exact .inl q
        · refine .inr ⟨k, c', e, z'.sameBut hs ?_⟩
          rintro rfl
          exact hj (nodup_ix hN e1 (I.ok.inj _ _ _ e hc ▸ hi))
    · by_cases hcc : c' = c
      · subst hcc; exact ⟨_, hc'⟩
      · obtain ⟨w2, z2⟩ := I.cell y c' e
        exact ⟨w2, z2.sameBut hs hcc⟩
    · obtain ⟨e, n, ne, nf, d⟩ := I.pin p hp
      refine ⟨(hs.2 p.1 ?_).trans e, n, ne, nf, d⟩
      intro q
      rw [q, hoc] at e
      have q' : oc = p.2 := Option.some.inj e
      exact d w' (by rw [← q']; exact hocd)
theorem store_ok {M : Model} {A : Around} {E : Value → Shared → Prop} {i : Nat} {x : Str} {v : V} {u : Value} {Q : Unit → Shared → Prop} (I : Inv X pins σ H s) (hN : X.N.Nodup) (hi : X.N[i]? = some x) (hx : Loc X.env.scope x) (r : RelV v u)
    (h : ∀ s', Inv X pins (σ.set i (some v)) H s' → Q () s') (hf : X.fn x = true ∨ X.env.scope.names.lookup x = some .local := by first | exact .inl rfl | exact .inr rfl | assumption) : wpAny M A (storeName X.env x u) Q E s :=
  store_ok2 I hN hi hx r (fun s' I' _ => h s' I') hf
theorem Inv.call' {s' : Shared} {ch : List Addr} (I : Inv X pins σ H s) (ho : s'.os = s.os) (u : Un (frs X.stack) ch H H' s.heap s'.heap) (hok : HOk X.prog X.w H' s'.heap) (hg : AllBare s'.gens)
    (hch : ∀ b ∈ ch, (b ∈ X.ex ∨ X.s₀.heap.objs.size ≤ b) ∧ b ≠ X.env.locals ∧ (∀ x c, X.env.cells.lookup x = some c → c ≠ b) ∧ ∀ p ∈ X.pn ++ pins, p.1 ≠ b) : Inv X pins σ H' s' := by
  obtain ⟨h', g', d', t', o'⟩ := s'
  have e : o' = s.os := ho
  subst e
  exact I.call (g' := g') (t' := t') (d' := d') u hok hg hch
end
abbrev XK := Value → Option Addr → Hp → Prop
abbrev St := List (Option V)
abbrev VK := V → Hp → Prop
abbrev TE := St → Hp → VK → Prop
abbrev TT := St → Hp → (Bool → Hp → Prop) → Prop
abbrev TA := St → Hp → (List V → Hp → Prop) → Prop
structure Ends where
  nx : St → Hp → Prop
  rt : VK
  bk : St → Hp → Prop := fun _ _ => False
  ct : St → Hp → Prop := fun _ _ => False
abbrev TS := Ends → St → Hp → Prop
def EP (X : Cx) (pins : List (Addr × Obj)) (σ : St) (Q : VK) (u : Value) (s' : Shared) : Prop := ∃ v H', Inv X pins σ H' s' ∧ RelV v u ∧ Q v H'
def TP (X : Cx) (pins : List (Addr × Obj)) (σ : St) (Q : Bool → Hp → Prop) (b : Bool) (s' : Shared) : Prop := ∃ H', Inv X pins σ H' s' ∧ Q b H'
def AP (X : Cx) (pins : List (Addr × Obj)) (σ : St) (Q : List V → Hp → Prop) (us : List Value) (s' : Shared) : Prop := ∃ vs H', Inv X pins σ H' s' ∧ Vals vs us ∧ Q vs H'
def SP (X : Cx) (pins : List (Addr × Obj)) (D : Ends) (f : Flow) (s' : Shared) : Prop :=
  match f with
  | .next => ∃ σ' H', Inv X pins σ' H' s' ∧ D.nx σ' H'
  | .brk => ∃ σ' H', Inv X pins σ' H' s' ∧ D.bk σ' H'
  | .cont => ∃ σ' H', Inv X pins σ' H' s' ∧ D.ct σ' H'
  | .ret u => ∃ v σ' H', Inv X pins σ' H' s' ∧ RelV v u ∧ D.rt v H'
def PE (X : Cx) (e : Expr) (t : TE) : Prop :=
  ∀ (pins : List (Addr × Obj)) (s : Shared) (σ : St) (H : Hp) (Q : VK), Inv X pins σ H s → t σ H Q → wpAny (model X.prog X.w) X.A (eval e X.env) (EP X pins σ Q) X.xe s
def PT (X : Cx) (e : Expr) (t : TT) : Prop :=
  ∀ (pins : List (Addr × Obj)) (s : Shared) (σ : St) (H : Hp) (Q : Bool → Hp → Prop), Inv X pins σ H s → t σ H Q → wpAny (model X.prog X.w) X.A (isTrue e X.env (eval e X.env)) (TP X pins σ Q) X.xe s
def PW (X : Cx) (e : Expr) (t : TT) : Prop :=
  ∀ (whole : Sem Value) (pins : List (Addr × Obj)) (s : Shared) (σ : St) (H : Hp) (Q : Bool → Hp → Prop), Inv X pins σ H s → t σ H Q → wpAny (model X.prog X.w) X.A (isTrue e X.env whole) (TP X pins σ Q) X.xe s
theorem PW.pt {X : Cx} {e : Expr} {t : TT} (h : PW X e t) : PT X e t := h _
def PA (X : Cx) (es : List Expr) (t : TA) : Prop :=
  ∀ (pos : Pos) (pins : List (Addr × Obj)) (s : Shared) (σ : St) (H : Hp) (Q : List V → Hp → Prop), Inv X pins σ H s → t σ H Q → wpAny (model X.prog X.w) X.A (spliced (backTo pos (starEach es X.env))) (AP X pins σ Q) X.xe s
def PS (X : Cx) (st : Stmt) (t : TS) : Prop :=
  ∀ (pins : List (Addr × Obj)) (s : Shared) (σ : St) (H : Hp) (D : Ends), Inv X pins σ H s → t D σ H → wpAny (model X.prog X.w) X.A (exec st X.env) (SP X pins D) X.xe s
def PSs (X : Cx) (st : List Stmt) (t : TS) : Prop :=
  ∀ (pins : List (Addr × Obj)) (s : Shared) (σ : St) (H : Hp) (D : Ends), Inv X pins σ H s → t D σ H → wpAny (model X.prog X.w) X.A (execs st X.env) (SP X pins D) X.xe s
theorem thn {α : Type} {t : Sem α} {Q Q' : α → Shared → Prop} {M : Model} {A : Around} {E : Value → Shared → Prop} {s : Shared} (h : wpAny M A t Q E s) (hQ : ∀ a s, Q a s → Q' a s) : wpAny M A t Q' E s := wpAny_mono h hQ fun _ _ x => x
end L2
namespace L2
open PySem PySem.Spec PyProof.Rows
section
variable {X : Cx}
def vB : Option (Option V) → (V → Prop) → Prop
  | some (some v), k => k v
  | _, _ => False
theorem vB_ex {o : Option (Option V)} {k : V → Prop} (h : vB o k) : ∃ v, o = some (some v) ∧ k v := by
  rcases o with _ | _ | v
  · cases h
  · cases h
  · exact ⟨v, rfl, h⟩
theorem vB_of {o : Option (Option V)} {k : V → Prop} {v : V} (e : o = some (some v)) (h : k v) : vB o k := by subst e; exact h
def tVar (i : Nat) : TE := fun σ H Q => vB σ[i]? fun v => Q v H
def tC (v : V) : TE := fun _ H Q => Q v H
theorem pe_var {i : Nat} {x : Str} {pos : Pos} (hN : X.N[i]? = some x) (hv : Vis X.env.scope x) (hd : (x == ("__debug__" : Str)) = false := by decide) (hcd : (x == ("__classdict__" : Str)) = false := by decide) : PE X (.Name x pos) (tVar i) := by
  intro pins s σ H Q I h
  obtain ⟨v, e, h⟩ := vB_ex h
  obtain ⟨m, hn, hl⟩ := I.loc
  obtain ⟨u, r, l⟩ := hl i x v hN e hv
  have fin : EP X pins σ Q u s := ⟨v, H, I, r, h⟩
  rcases l with ⟨hk, hm⟩ | ⟨hk, c, hc, hcell⟩
  · exact wpAny_Name (wpAny_loadName_local I.ok.kind hk hn hm fin) hd
  · rcases hk with hk | hk
    · exact wpAny_Name (wpAny_loadName_cell I.ok.kind hk hc hcell fin) hd
    · exact wpAny_Name (wpAny_loadName_free I.ok.kind hk hc hcell fin hcd) hd
theorem pe_int {i j pos} : PE X (.Constant (.int i) j pos) (tC (.int i)) := fun _ _ _ H _ I h => wpAny_Constant_int ⟨.int i, H, I.tok _, ⟨_, rfl⟩, h⟩
theorem pe_bl {b j pos} : PE X (.Constant (.bool b) j pos) (tC (.bl b)) := fun _ _ _ H _ I h => Constant_bool ⟨.bl b, H, I, rfl, h⟩
theorem pe_non {j pos} : PE X (.Constant .none j pos) (tC .non) := fun _ _ _ H _ I h => Constant_none ⟨.non, H, I, rfl, h⟩
theorem pe_str {x j pos} : PE X (.Constant (.str x) j pos) (tC (.str x)) := fun _ _ _ H _ I h => Calls.Constant_str ⟨.str x, H, I.tok _, ⟨_, rfl⟩, h⟩
def Gl (X : Cx) (x : Str) : Prop := X.env.kindOf x = some .globalImplicit
theorem ld_glob {E : Value → Shared → Prop} {pins : List (Addr × Obj)} {s : Shared} {σ : St} {H : Hp} {x : Str} {u : Value} {pos : Pos} {Q : Value → Shared → Prop} (I : Inv X pins σ H s) (hg : Gl X x) (hm : X.mg x = some u) (h : Q u s)
    (hd : (x == ("__debug__" : Str)) = false := by decide) : wpAny (model X.prog X.w) X.A (eval (.Name x pos) X.env) Q E s :=
  Calls.Name_function_global I.ok.kind hg (Calls.loadGlobal_global (by rw [I.ok.glob]; exact I.mod.glob.keeps I.bk) hm h) hd
theorem ld_blt {E : Value → Shared → Prop} {pins : List (Addr × Obj)} {s : Shared} {σ : St} {H : Hp} {x : Str} {u : Value} {pos : Pos} {Q : Value → Shared → Prop} (I : Inv X pins σ H s) (hg : Gl X x) (hm : X.mg x = none) (hv : bootBuiltins x = some u) (h : Q u s)
    (hn : x ≠ "__name__" := by decide) (hd : (x == ("__debug__" : Str)) = false := by decide) : wpAny (model X.prog X.w) X.A (eval (.Name x pos) X.env) Q E s := by
  obtain ⟨mb, h1, h2⟩ := I.mod.blt
  exact Calls.Name_function_global I.ok.kind hg (Calls.loadGlobal_builtin (by rw [I.ok.glob]; exact I.mod.glob.keeps I.bk) hm (by rw [I.ok.blt]; exact h1.keeps I.bk) ((h2 x hn).trans hv) h) hd
theorem pe_glob {x : Str} {v : V} {u : Value} {pos : Pos} (hg : Gl X x) (hm : X.mg x = some u) (r : RelV v u) (hd : (x == ("__debug__" : Str)) = false := by decide) : PE X (.Name x pos) (tC v) :=
  fun _ _ _ H _ I h => ld_glob I hg hm ⟨v, H, I, r, h⟩ hd
theorem pe_bltn {x : Str} {v : V} {u : Value} {pos : Pos} (hg : Gl X x) (hm : X.mg x = none) (hv : bootBuiltins x = some u) (r : RelV v u) (hn : x ≠ "__name__" := by decide) (hd : (x == ("__debug__" : Str)) = false := by decide) : PE X (.Name x pos) (tC v) :=
  fun _ _ _ H _ I h => ld_blt I hg hm hv ⟨v, H, I, r, h⟩ hn hd
variable {a b : Expr} {ta tb : TE} {pos : Pos}
def PC (X : Cx) (op : CmpOp) (a b : Expr) (t : TE) : Prop :=
  ∀ (pins : List (Addr × Obj)) (s : Shared) (σ : St) (H : Hp) (Q : VK), Inv X pins σ H s → t σ H Q →
    wpAny (model X.prog X.w) X.A (eval a X.env) (fun v s₁ => wpAny (model X.prog X.w) X.A (eval b X.env) (fun u s₂ => wpAny (model X.prog X.w) X.A (compareOp op v u) (EP X pins σ Q) X.xe s₂) X.xe s₁) X.xe s
def tB (t : TE) : TT := fun σ H Q => t σ H fun x H1 => ∃ c, x = .bl c ∧ Q c H1
theorem pt_cmp {op : CmpOp} {t : TE} (h : PC X op a b t) (h1 : behindInMarks op b = false := by first | exact nobehind _ (by decide) (by decide) | rfl) : PT X (.Compare a [op] [b] pos) (tB t) := by
  intro pins s σ H Q I hw
  refine wpAny_isTrue_Compare1 (thn (h pins s σ H _ I hw) fun v s1 h1 => thn h1 fun u s2 h2 => thn h2 fun c s3 ⟨x, H1, I1, r1, q1⟩ => ?_) h1
  obtain ⟨d, rfl, q⟩ := q1
  cases r1
  exact wpAny_truthy_bool ⟨H1, I1, q⟩
theorem pt_val {e : Expr} {t : TE} (h : PE X e t) (he : ∀ whole, isTrue e X.env whole = (do let v ← whole; standAt e.pos; holding [v] (truthy v)) := by intro _; rfl) : PT X e (tB t) := by
  intro pins s σ H Q I hw
  refine isTrue_plain (thn (h pins s σ H _ I hw) fun v s1 ⟨x, H1, I1, r1, q1⟩ => ?_) (he _)
  obtain ⟨d, rfl, q⟩ := q1
  cases r1
  exact wpAny_truthy_bool ⟨H1, I1, q⟩
variable {tA tB' : TT} {rest : List Expr}
def tAnd (t u : TT) : TT := fun σ H Q => t σ H fun c H1 => if c = true then u σ H1 Q else Q false H1
def tOr (t u : TT) : TT := fun σ H Q => t σ H fun c H1 => if c = true then Q true H1 else u σ H1 Q
def tNot (t : TT) : TT := fun σ H Q => t σ H fun c H1 => Q (!c) H1
theorem pw_and1 (ha : PT X a tA) : PW X (.BoolOp .And [a] pos) tA := by
  intro wh pins s σ H Q I h
  refine isTrue_and (thn (ha pins s σ H Q I h) fun c s1 e => ?_)
  cases c with
  | true => exact isTrue_and_nil e
  | false => exact e
theorem pw_or1 (ha : PT X a tA) : PW X (.BoolOp .Or [a] pos) tA := by
  intro wh pins s σ H Q I h
  refine isTrue_or (thn (ha pins s σ H Q I h) fun c s1 e => ?_)
  cases c with
  | false => exact isTrue_or_nil e
  | true => exact e
theorem pw_and (ha : PT X a tA) (hb : PW X (.BoolOp .And (b :: rest) pos) tB') : PW X (.BoolOp .And (a :: b :: rest) pos) (tAnd tA tB') := by
  intro wh pins s σ H Q I h
  refine isTrue_and (thn (ha pins s σ H _ I h) fun c s1 ⟨H1, I1, q1⟩ => ?_)
  cases c with
  | true => exact hb wh pins s1 σ H1 Q I1 q1
  | false => exact ⟨H1, I1, q1⟩
theorem pw_or (ha : PT X a tA) (hb : PW X (.BoolOp .Or (b :: rest) pos) tB') : PW X (.BoolOp .Or (a :: b :: rest) pos) (tOr tA tB') := by
  intro wh pins s σ H Q I h
  refine isTrue_or (thn (ha pins s σ H _ I h) fun c s1 ⟨H1, I1, q1⟩ => ?_)
  cases c with
  | true => exact ⟨H1, I1, q1⟩
  | false => exact hb wh pins s1 σ H1 Q I1 q1
theorem pt_not (ha : PT X a tA) : PT X (.UnaryOp .Not a pos) (tNot tA) := by
  intro pins s σ H Q I h
  exact isTrue_not (ha pins s σ H (fun c H1 => Q (!c) H1) I h)
def tAndV (ta tb : TE) : TE := fun σ H Q => ta σ H fun x H1 => ∃ c, x = .bl c ∧ if c = true then tb σ H1 Q else Q (.bl false) H1
def tOrV (ta tb : TE) : TE := fun σ H Q => ta σ H fun x H1 => ∃ c, x = .bl c ∧ if c = true then Q (.bl true) H1 else tb σ H1 Q
def tNotV (ta : TE) : TE := fun σ H Q => ta σ H fun x H1 => ∃ c, x = .bl c ∧ Q (.bl (!c)) H1
theorem pe_one {op} {t : TE} (h : PE X a t) : PE X (.BoolOp op [a] pos) t := fun pins s σ H Q I hw => BoolOp_one (h pins s σ H Q I hw)
theorem pe_and (ha : PE X a ta) (hb : PE X (.BoolOp .And (b :: rest) pos) tb) : PE X (.BoolOp .And (a :: b :: rest) pos) (tAndV ta tb) := by
  intro pins s σ H Q I h
  refine BoolOp_and (thn (ha pins s σ H _ I h) fun v s1 ⟨x, H1, I1, r1, q1⟩ => ?_)
  obtain ⟨c, rfl, q1⟩ := q1
  cases r1
  refine wpAny_truthy_bool ?_
  cases c with
  | true => exact hb pins s1 σ H1 Q I1 q1
  | false => exact ⟨.bl false, H1, I1, rfl, q1⟩
theorem pe_not (ha : PE X a ta) : PE X (.UnaryOp .Not a pos) (tNotV ta) := by
  intro pins s σ H Q I h
  refine UnaryOp_ (thn (ha pins s σ H _ I h) fun v s1 ⟨x, H1, I1, r1, q1⟩ => ?_)
  obtain ⟨c, rfl, q1⟩ := q1
  cases r1
  exact not_of (wpAny_truthy_bool ⟨.bl (!c), H1, I1, rfl, q1⟩)
def tIf (t : TT) (ta tb : TE) : TE := fun σ H Q => t σ H fun c H1 => if c = true then ta σ H1 Q else tb σ H1 Q
theorem pe_ifExp {c : Expr} (hc : PT X c tA) (ha : PE X a ta) (hb : PE X b tb) : PE X (.IfExp c a b pos) (tIf tA ta tb) := by
  intro pins s σ H Q I h
  refine wpAny_IfExp (thn (hc pins s σ H _ I h) fun d s1 ⟨H1, I1, q1⟩ => ?_)
  cases d with
  | true => exact ha pins s1 σ H1 Q I1 q1
  | false => exact hb pins s1 σ H1 Q I1 q1
end
end L2
namespace L2
open PySem PySem.Spec PyProof.Rows
def SqL (K : PySem.W.Frag) (H : Hp) (a : Addr) (xs : List V) : Prop :=
  Rd H a (.lst xs) ∨
    ∃ (o : Obj) (its : Array Value) (n : Nat), K.lookup a = some o ∧ o.cls = .type "list" ∧ o.dict = none ∧ o.data = .seq its n ∧ its.size ≤ sizeLine ∧ Vals xs its.toList
def SqT (K : PySem.W.Frag) (H : Hp) (a : Addr) (xs : List V) : Prop :=
  Rd H a (.tup xs) ∨
    ∃ (o : Obj) (its : Array Value) (n : Nat), K.lookup a = some o ∧ o.cls = .type "tuple" ∧ o.data = .seq its n ∧ its.size ≤ sizeLine ∧ Vals xs its.toList
def absV : Value → Option V
  | .none => some .non
  | .bool b => some (.bl b)
  | .int i _ => some (.int i)
  | .str x _ => some (.str x)
  | .bytes b _ => some (.byt b)
  | .float b _ => some (.flt b)
  | .ref a => some (.ref a)
  | .type n => some (.ty n)
  | _ => none
theorem RelV.abs {x : V} {u : Value} (r : RelV x u) : absV u = some x := by
  cases x with
  | non => cases r; rfl
  | bl _ => cases r; rfl
  | int _ => obtain ⟨t, rfl⟩ := r; rfl
  | str _ => obtain ⟨t, rfl⟩ := r; rfl
  | byt _ => obtain ⟨t, rfl⟩ := r; rfl
  | flt _ => obtain ⟨t, rfl⟩ := r; rfl
  | ref _ => cases r; rfl
  | ty _ => cases r; rfl
theorem RelV.inj {x y : V} {u : Value} (r : RelV x u) (q : RelV y u) : x = y := Option.some.inj (r.abs.symm.trans q.abs)
theorem Vals.inj : ∀ {xs ys : List V} {us : List Value}, Vals xs us → Vals ys us → xs = ys
  | _, _, _, .nil, .nil => rfl
  | _, _, _, .cons r t, .cons r' t' => by rw [r.inj r', Vals.inj t t']
section
variable {X : Cx} {pins : List (Addr × Obj)} {σ : St} {H : Hp} {s : Shared} {a : Addr} {xs ys : List V}
theorem SqL.of {K : PySem.W.Frag} (h : H a = some (.lst xs)) : SqL K H a xs := .inl (.inl h)
theorem SqT.of {K : PySem.W.Frag} (h : H a = some (.tup xs)) : SqT K H a xs := .inl (.inl h)
theorem Inv.list (I : Inv X pins σ H s) (h : SqL X.K H a xs) : ∃ its : List Value, Vals xs its ∧ PlainL s.heap a its.toArray ∧ xs.length ≤ sizeLine := by
  rcases h with h | ⟨o, its, n, hk, hc, hd, hs, hz, r⟩
  · obtain ⟨z, its, n, r, e⟩ := h.ok I.hok
    exact ⟨its, r, ⟨_, n, e, rfl, rfl, rfl⟩, z⟩
  · refine ⟨its.toList, r, ⟨o, n, I.kIn a o hk, hc, hd, by simpa using hs⟩, ?_⟩
    have e := r.length
    simp only [Array.length_toList] at e
    omega
theorem Inv.tuple (I : Inv X pins σ H s) (h : SqT X.K H a xs) : ∃ its : List Value, Vals xs its ∧ IsTup s.heap a its.toArray ∧ xs.length ≤ sizeLine := by
  rcases h with h | ⟨o, its, n, hk, hc, hs, hz, r⟩
  · obtain ⟨z, its, r, p⟩ := h.ok I.hok
    exact ⟨its, r, p, z⟩
  · refine ⟨its.toList, r, ⟨o, I.kIn a o hk, hc, n, by simpa using hs⟩, ?_⟩
    have e := r.length
    simp only [Array.length_toList] at e
    omega
theorem Inv.list_inj (I : Inv X pins σ H s) (h : SqL X.K H a xs) (h' : SqL X.K H a ys) : xs = ys := by
  obtain ⟨its, r, ⟨o, n, e, _, _, d⟩, _⟩ := I.list h
  obtain ⟨its', r', ⟨o', n', e', _, _, d'⟩, _⟩ := I.list h'
  rw [e] at e'; cases e'
  rw [d] at d'
  injection d' with d1 _
  have : its = its' := by simpa using congrArg Array.toList d1
  subst this
  exact r.inj r'
theorem Inv.tuple_inj (I : Inv X pins σ H s) (h : SqT X.K H a xs) (h' : SqT X.K H a ys) : xs = ys := by
  obtain ⟨its, r, ⟨o, e, _, n, d⟩, _⟩ := I.tuple h
  obtain ⟨its', r', ⟨o', e', _, n', d'⟩, _⟩ := I.tuple h'
  rw [e] at e'; cases e'
  rw [d] at d'
  injection d' with d1 _
  have : its = its' := by simpa using congrArg Array.toList d1
  subst this
  exact r.inj r'
end
abbrev Cx.wish (X : Cx) (E : Value → Shared → Prop) : Cx := { X with xe := E }
abbrev Cx.nox (X : Cx) : Cx := X.wish fun _ _ => False
theorem Cx.Ok.wish {X : Cx} (ok : X.Ok) (E : Value → Shared → Prop) : (X.wish E).Ok :=
  ⟨ok.mod, ok.kind, ok.glob, ok.blt, ok.above, ok.inj, ok.has, ok.cab, ok.hd, ok.frames, ok.stk, ok.exf, ok.bs, ok.bsz, ok.noex, ok.exfs, ok.funs, ok.frf⟩
theorem Cx.Ok.unwish {X : Cx} {E : Value → Shared → Prop} (ok : (X.wish E).Ok) : X.Ok :=
  ⟨ok.mod, ok.kind, ok.glob, ok.blt, ok.above, ok.inj, ok.has, ok.cab, ok.hd, ok.frames, ok.stk, ok.exf, ok.bs, ok.bsz, ok.noex, ok.exfs, ok.funs, ok.frf⟩
section
variable {X : Cx} {pins : List (Addr × Obj)} {σ : St} {H : Hp} {s : Shared} {E : Value → Shared → Prop}
theorem Inv.wish (I : Inv X pins σ H s) (E : Value → Shared → Prop) : Inv (X.wish E) pins σ H s := ⟨I.ok.wish E, I.os, I.bare, I.base, I.loc, I.cell, I.free, I.freeC, I.pin, I.hok, I.len⟩
theorem Inv.unwish (I : Inv (X.wish E) pins σ H s) : Inv X pins σ H s := ⟨I.ok.unwish, I.os, I.bare, I.base, I.loc, I.cell, I.free, I.freeC, I.pin, I.hok, I.len⟩
theorem SP.unwish {D : Ends} {f : Flow} {s' : Shared} (h : SP (X.wish E) pins D f s') : SP X pins D f s' := by
  cases f with
  | next => obtain ⟨σ', H', I, q⟩ := h; exact ⟨σ', H', I.unwish, q⟩
  | brk => obtain ⟨σ', H', I, q⟩ := h; exact ⟨σ', H', I.unwish, q⟩
  | cont => obtain ⟨σ', H', I, q⟩ := h; exact ⟨σ', H', I.unwish, q⟩
  | ret u => obtain ⟨v, σ', H', I, r, q⟩ := h; exact ⟨v, σ', H', I.unwish, r, q⟩
theorem PSs.nox {st : List Stmt} {t : TS} (h : PSs X.nox st t) : PSs X st t := fun pins s σ H D I hw =>
  wpAny_mono (h pins s σ H D (I.wish _) hw) (fun _ _ q => q.unwish) fun _ _ z => False.elim z
end
section
variable {X : Cx} {st : Stmt} {rest : List Stmt} {t u : TS} {e : Expr} {te : TE} {pos : Pos}
def tNext : TS := fun D σ H => D.nx σ H
def tSeq (t u : TS) : TS := fun D σ H => t { D with nx := u D } σ H
theorem pss_nil : PSs X [] tNext := fun _ _ σ H _ I h => wpAny_execs_nil ⟨σ, H, I, h⟩
theorem pss_cons (h1 : PS X st t) (h2 : PSs X rest u) : PSs X (st :: rest) (tSeq t u) := by
  intro pins s σ H D I h
  refine wpAny_execs_cons (thn (h1 pins s σ H { D with nx := u D } I h) fun f s1 q => ?_)
  cases f with
  | next =>
    obtain ⟨σ', H', I', q⟩ := q
    exact h2 pins s1 σ' H' D I' q
  | ret v => exact q
  | brk => exact q
  | cont => exact q
theorem pss_one (h1 : PS X st t) : PSs X [st] t := by
  intro pins s σ H D I h
  refine wpAny_execs_cons (thn (h1 pins s σ H D I h) fun f s1 q => ?_)
  cases f with
  | next => exact wpAny_execs_nil q
  | ret v => exact q
  | brk => exact q
  | cont => exact q
theorem Inv.quiet {pins : List (Addr × Obj)} {σ : St} {H : Hp} {s : Shared} (I : Inv X pins σ H s) : interactive X.env = false := by simp [interactive, I.ok.kind]
def tDrop (te : TE) : TS := fun D σ H => te σ H fun _ H1 => D.nx σ H1
theorem ps_expr (he : PE X e te) (hs : swapsWith e none pos.line X.env = pure false := by rfl) : PS X (.Expr e pos) (tDrop te) := by
  intro pins s σ H D I h
  exact wpAny_Expr_any (thn (he pins s σ H _ I h) fun v s1 ⟨x, H1, I1, r1, q1⟩ => ⟨σ, H1, I1, q1⟩) I.quiet hs
def tRet (te : TE) : TS := fun D σ H => te σ H D.rt
theorem ps_ret (he : PE X e te) : PS X (.Return (some e) pos) (tRet te) := by
  intro pins s σ H D I h
  exact wpAny_Return_some (thn (he pins s σ H _ I h) fun v s1 ⟨x, H1, I1, r1, q1⟩ => ⟨x, σ, H1, I1, r1, q1⟩)
def tRetN : TS := fun D _ H => D.rt .non H
def tIfS (c : TT) (t u : TS) : TS := fun D σ H => c σ H fun b H1 => if b = true then t D σ H1 else u D σ H1
theorem ps_if {c : Expr} {a b : List Stmt} {tc : TT} (hc : PT X c tc) (ha : PSs X a t) (hb : PSs X b u) : PS X (.If c a b pos) (tIfS tc t u) := by
  intro pins s σ H D I h
  refine wpAny_If (thn (hc pins s σ H _ I h) fun d s1 ⟨H1, I1, q1⟩ => ?_)
  cases d with
  | true => exact ha pins s1 σ H1 D I1 q1
  | false => exact hb pins s1 σ H1 D I1 q1
def tNever : TS := fun _ _ _ => False
theorem ps_never : PS X st tNever := fun _ _ _ _ _ _ h => h.elim
end
abbrev TG := V → St → Hp → (St → Hp → Prop) → Prop
abbrev TGs := List V → St → Hp → (St → Hp → Prop) → Prop
def PG (X : Cx) (target : Expr) (t : TG) : Prop :=
  ∀ (pins : List (Addr × Obj)) (s : Shared) (σ : St) (H : Hp) (v : V) (u : Value) (Q : St → Hp → Prop), Inv X pins σ H s → RelV v u → t v σ H Q →
    wpAny (model X.prog X.w) X.A (assign target X.env u) (fun _ s' => ∃ σ' H', Inv X pins σ' H' s' ∧ Q σ' H') X.xe s
def PGs (X : Cx) (ts : List Expr) (t : TGs) : Prop :=
  ∀ (pins : List (Addr × Obj)) (s : Shared) (σ : St) (H : Hp) (vs : List V) (us : List Value) (Q : St → Hp → Prop), Inv X pins σ H s → Vals vs us → t vs σ H Q →
    wpAny (model X.prog X.w) X.A (assignInOrder ((assignEach ts X.env).map (·.2)) us) (fun _ s' => ∃ σ' H', Inv X pins σ' H' s' ∧ Q σ' H') X.xe s
abbrev TSet := V → V → V → Hp → (Hp → Prop) → Prop
section
variable {X : Cx} {pos : Pos}
def gName (i : Nat) : TG := fun v σ H Q => Q (σ.set i (some v)) H
theorem pg_name {i : Nat} {x : Str} (hN : X.N.Nodup) (hi : X.N[i]? = some x) (hx : Loc X.env.scope x) (hf : X.fn x = true ∨ X.env.scope.names.lookup x = some .local := by first | exact .inl rfl | exact .inr rfl | assumption) : PG X (.Name x pos) (gName i) := by
  intro pins s σ H v u Q I r h
  exact wpAny_assign_Name (store_ok I hN hi hx r (fun s' I' => ⟨_, H, I', h⟩) hf)
def gNil : TGs := fun vs σ H Q => vs = [] ∧ Q σ H
def gCons (t : TG) (u : TGs) : TGs := fun vs σ H Q => ∃ v r, vs = v :: r ∧ t v σ H fun σ' H' => u r σ' H' Q
theorem pgs_nil : PGs X [] gNil := by
  intro pins s σ H vs us Q I r h
  obtain ⟨e, h⟩ := h
  subst e
  cases r
  exact assignInOrder_nil ⟨σ, H, I, h⟩
theorem pgs_cons {e : Expr} {es : List Expr} {t : TG} {u : TGs} (h1 : PG X e t) (h2 : PGs X es u)
    (hs : (assignEach (e :: es) X.env).map (·.2) = assign e X.env :: (assignEach es X.env).map (·.2) := by rfl) : PGs X (e :: es) (gCons t u) := by
  intro pins s σ H vs us Q I r h
  obtain ⟨v, vr, e1, h⟩ := h
  subst e1
  cases r with
  | cons r rr =>
    rw [hs]
    refine assignInOrder_cons (thn (h1 pins s σ H _ _ _ I r h) fun _ s1 ⟨σ1, H1, I1, q1⟩ => ?_)
    exact h2 pins s1 σ1 H1 _ _ Q I1 rr q1
def gTup (K : PySem.W.Frag) (n : Nat) (t : TGs) : TG := fun v σ H Q => ∃ a xs, v = .ref a ∧ SqT K H a xs ∧ xs.length = n ∧ t xs σ H Q
theorem pg_tup {es : List Expr} {k : Nat} {t : TGs} {n : Nat} (hc : X.calm = true) (h : PGs X es t)
    (hn : (assignEach es X.env).length = n := by rfl) (hst : (assignEach es X.env).findIdx? (·.1) = none := by rfl) : PG X (.Tuple es k pos) (gTup X.K n t) := by
  intro pins s σ H v u Q I r hw
  obtain ⟨a, xs, e1, hq, hl, hw⟩ := hw
  subst e1
  cases r
  obtain ⟨its, rv, ht, hz⟩ := I.tuple hq
  refine assign_Tuple_tuple (I.ok.hd hc) ht (by simp [hn, ← hl, rv.length]) hst fun h' hx => ?_
  have I1 : Inv X pins σ H { s with heap := h' } := I.kept (t' := s.toks) fun b o e => hx b o (Nat.ne_of_lt (Heap.lt_size e)) e
  exact h pins _ σ H xs _ Q I1 (by simpa using rv) hw
def gSub (to ti : TE) (t : TSet) : TG := fun v σ H Q => to σ H fun o H1 => ti σ H1 fun i H2 => t o i v H2 fun H3 => Q σ H3
def tAsg (te : TE) (g : TG) : TS := fun D σ H => te σ H fun x H1 => g x σ H1 D.nx
theorem ps_asg {tg e : Expr} {te : TE} {g : TG} (he : PE X e te) (hg : PG X tg g) (hs : swapsWithSole [tg] e pos.line X.env = pure false := by rfl) (hw : swappedStores [tg] e X.env = pure none := by rfl)
    (h1 : (assignEach [tg] X.env).map (·.2) = [assign tg X.env] := by rfl) : PS X (.Assign [tg] e pos) (tAsg te g) := by
  intro pins s σ H D I h
  refine wpAny_Assign_stores (thn (he pins s σ H _ I h) fun v s1 ⟨x, H1, I1, r1, q1⟩ => ?_) hs hw
  rw [h1]
  exact thn (hg pins s1 σ H1 x v _ I1 r1 q1) fun _ s2 q => q
theorem ps_set {i : Nat} {x : Str} {e : Expr} {te : TE} {pos' : Pos} (hN : X.N.Nodup) (hi : X.N[i]? = some x) (hx : Loc X.env.scope x) (he : PE X e te) (hs : swapsWith e (some (.Name x pos')) pos.line X.env = pure false := by rfl) (hf : X.fn x = true ∨ X.env.scope.names.lookup x = some .local := by first | exact .inl rfl | exact .inr rfl | assumption) :
    PS X (.Assign [.Name x pos'] e pos) (tAsg te (gName i)) := by
  intro pins s σ H D I h
  refine wpAny_Assign_Name (thn (he pins s σ H _ I h) fun v s1 ⟨y, H1, I1, r1, q1⟩ => ?_) hs
  exact store_ok I1 hN hi hx r1 (fun s2 I2 => ⟨_, H1, I2, q1⟩) hf
end
structure It where
  go : Nat → Hp → Prop
  yld : Nat → Hp → V → Hp → Prop
  stop : Nat → Hp → Prop
def FpOk (X : Cx) (pins : List (Addr × Obj)) (H : Hp) (b : Addr) : Prop :=
  H b = none ∧ b ≠ X.env.locals ∧ b ∉ X.fs ∧ (b ∈ X.ex ∨ X.s₀.heap.objs.size ≤ b) ∧ (∀ x c, X.env.cells.lookup x = some c → c ≠ b) ∧ ∀ p ∈ X.pn ++ pins, p.1 ≠ b
theorem Inv.fpOk {X : Cx} {pins : List (Addr × Obj)} {σ : St} {H H' : Hp} {s : Shared} {b : Addr} (I : Inv X pins σ H s) (hb : s.heap.objs.size ≤ b) (hn : H' b = none) : FpOk X pins H' b := by
  refine ⟨hn, Nat.ne_of_gt (Nat.lt_of_lt_of_le I.lt hb), I.nofs hb, .inr (Nat.le_trans I.sz hb), fun x c e z => ?_, fun p hp z => ?_⟩
  · obtain ⟨v, q⟩ := I.cell x c e
    exact absurd (Nat.lt_of_lt_of_le q.lt (by rw [z]; exact hb)) (Nat.lt_irrefl _)
  · exact absurd (Nat.lt_of_lt_of_le (Heap.lt_size (I.pin p hp).1) (by rw [z]; exact hb)) (Nat.lt_irrefl _)
structure Turn (P : Program) (w : World) (K : PySem.W.Frag) (tg : Expr) (J : It) (fp : List Addr) (it : Addr) (tn : Nat → Heap → Prop) : Prop where
  mem : it ∈ fp
  obj : ∀ i h, tn i h → ∀ b ∈ fp, ∃ o, h.get? b = some o ∧ ∀ v, o.data ≠ .cell v
  keep : ∀ i h h', tn i h → (∀ b ∈ fp, ∀ o, h.get? b = some o → h'.get? b = some o) → tn i h'
  item : ∀ (X : Cx), X.prog = P → X.w = w → X.K = K → X.calm = true → ∀ (i : Nat) (pins : List (Addr × Obj)) (s : Shared) (σ : St) (H : Hp) (E : Value → Shared → Prop), Inv X pins σ H s → (∀ b ∈ fp, FpOk X pins H b) → tn i s.heap → J.go i H →
    wpAny (model P w) X.A (pyNext (.ref it)) (fun r s1 => ∃ u, r = some u ∧
      wpAny (model P w) X.A (letOwnedTupleGo tg (.ref it) u) (fun _ s2 => ∃ x H', Inv X pins σ H' s2 ∧ RelV x u ∧ J.yld i H x H' ∧ tn (i + 1) s2.heap ∧ ∀ b ∈ fp, H' b = none) E s1) E s
  done : ∀ (X : Cx), X.prog = P → X.w = w → X.K = K → X.calm = true → ∀ (i : Nat) (pins : List (Addr × Obj)) (s : Shared) (σ : St) (H : Hp) (E : Value → Shared → Prop), Inv X pins σ H s → (∀ b ∈ fp, FpOk X pins H b) → tn i s.heap → J.stop i H →
    wpAny (model P w) X.A (pyNext (.ref it)) (fun r s1 => r = none ∧ Inv X pins σ H s1) E s
  self : ∀ (A : Around) (i : Nat) (s : Shared) (Q : Value → Shared → Prop) (E : Value → Shared → Prop), tn i s.heap → Q (.ref it) s → wpAny (model P w) A (pyIter (.ref it)) Q E s
abbrev TI := St → Hp → (It → Hp → Prop) → Prop
def PIE (X : Cx) (pins : List (Addr × Obj)) (σ : St) (tg : Expr) (R : It → Hp → Prop) (itv : Value) (s2 : Shared) : Prop :=
  ∃ (it : Addr) (fp : List Addr) (tn : Nat → Heap → Prop) (J : It) (H' : Hp), itv = .ref it ∧ Inv X pins σ H' s2 ∧ Turn X.prog X.w X.K tg J fp it tn ∧ tn 0 s2.heap ∧ (∀ b ∈ fp, FpOk X pins H' b) ∧ R J H'
def PI (X : Cx) (tg iter : Expr) (wi : TI) : Prop :=
  ∀ (pins : List (Addr × Obj)) (s : Shared) (σ : St) (H : Hp) (R : It → Hp → Prop), Inv X pins σ H s → wi σ H R →
    wpAny (model X.prog X.w) X.A (eval iter X.env) (fun v s1 => wpAny (model X.prog X.w) X.A (pyIter v) (PIE X pins σ tg R) X.xe s1) X.xe s
theorem go_of {M : Model} {A : Around} {E : Value → Shared → Prop} {s : Shared} {tg : Expr} {it : Addr} {u : Value} {o : Obj} {n : String} {vs : Array Value} {Q : Unit → Shared → Prop} (ho : s.heap.get? it = some o) (hc : o.cls = .type n) (hd : o.data = .fields vs)
    (hn : ["enumerate", "zip", "dict_itemiterator", "dict_reverseitemiterator", "odict_iterator", "itertools.zip_longest", "itertools.pairwise"].contains n = false) (hQ : Q () s) : wpAny M A (letOwnedTupleGo tg (.ref it) u) Q E s := by
  unfold letOwnedTupleGo
  cases tg <;> first
    | exact wpAny_pure hQ
    | (cases u <;> first
        | exact wpAny_pure hQ
        | (refine wpAny_bind (wpAny_load ho ?_)
           rw [hc, hd]
           show wpAny M A (if (["enumerate", "zip", "dict_itemiterator", "dict_reverseitemiterator", "odict_iterator", "itertools.zip_longest", "itertools.pairwise"].contains n && vs[0]? == some (rawInt _)) = true then _ else _) Q E s
           rw [if_neg (by intro h; rw [hn, Bool.false_and] at h; cases h)]
           exact wpAny_pure hQ))
def Itl (K : PySem.W.Frag) (a : Addr) : It :=
  ⟨fun i H => ∃ xs x, SqL K H a xs ∧ xs[i]? = some x, fun i H x H' => H' = H ∧ ∀ xs, SqL K H a xs → xs[i]? = some x, fun i H => ∃ xs, SqL K H a xs ∧ xs.length ≤ i⟩
def Itt (K : PySem.W.Frag) (a : Addr) : It :=
  ⟨fun i H => ∃ xs x, SqT K H a xs ∧ xs[i]? = some x, fun i H x H' => H' = H ∧ ∀ xs, SqT K H a xs → xs[i]? = some x, fun i H => ∃ xs, SqT K H a xs ∧ xs.length ≤ i⟩
def Itr (lo : Int) (n : Nat) : It := ⟨fun i _ => i < n, fun i H x H' => H' = H ∧ x = .int (lo + i), fun i _ => n ≤ i⟩
theorem turn_list {P : Program} {w : World} {K : PySem.W.Frag} {tg : Expr} (a it : Addr) : Turn P w K tg (Itl K a) [it] it (fun i h => h.IsListIter it a i) where
  mem := by simp
  obj := fun i h st b hb => by
    have e : b = it := by simpa using hb
    subst e
    obtain ⟨o, e, c, d⟩ := st
    exact ⟨o, e, fun v z => by rw [d] at z; cases z⟩
  keep := fun i h h' st k => st.at fun o e => k it (by simp) o e
  item := by
    intro X hP hw hK hc i pins s σ H E I hf st hg
    subst hP hw hK
    obtain ⟨xs, x, hq, hx⟩ := hg
    obtain ⟨its, rv, p, hz⟩ := I.list hq
    obtain ⟨u, hu, ru⟩ := rv.get hx
    obtain ⟨f0, f1, f2, f3, f4, f5⟩ := hf it (by simp)
    refine wpAny_pyNext_list_item st p.isList (x := u) (by simpa using hu) fun h' st' sb => ?_
    have I1 : Inv X pins σ H { s with heap := h' } := I.turned (t' := s.toks) (fun b o hb e => (sb.2 b hb).trans e) f0 f1 f3 f4 f5
    obtain ⟨o, e, c, d⟩ := id st'
    exact ⟨u, rfl, go_of (s := { s with heap := h' }) e c d (by decide) ⟨x, H, I1, ru, ⟨rfl, fun ys hy => by rw [I.list_inj hy hq]; exact hx⟩, st', fun b hb => (hf b hb).1⟩⟩
  done := by
    intro X hP hw hK hc i pins s σ H E I hf st hg
    subst hP hw hK
    obtain ⟨xs, hq, hx⟩ := hg
    obtain ⟨its, rv, p, hz⟩ := I.list hq
    obtain ⟨f0, f1, f2, f3, f4, f5⟩ := hf it (by simp)
    have hl := rv.length
    exact wpAny_pyNext_list_end (I.ok.hd hc) st p.isList (by simp; omega) fun h' eb => ⟨rfl, I.turned (t' := s.toks) (fun b o hb e => eb b o hb e) f0 f1 f3 f4 f5⟩
  self := fun _ _ _ _ _ st h => wpAny_pyIter_listiter st h
theorem turn_tuple {P : Program} {w : World} {K : PySem.W.Frag} {tg : Expr} (a it : Addr) : Turn P w K tg (Itt K a) [it] it (fun i h => h.IsTupleIter it a i) where
  mem := by simp
  obj := fun i h st b hb => by
    have e : b = it := by simpa using hb
    subst e
    obtain ⟨o, e, c, d⟩ := st
    exact ⟨o, e, fun v z => by rw [d] at z; cases z⟩
  keep := fun i h h' st k => st.at fun o e => k it (by simp) o e
  item := by
    intro X hP hw hK hc i pins s σ H E I hf st hg
    subst hP hw hK
    obtain ⟨xs, x, hq, hx⟩ := hg
    obtain ⟨its, rv, p, hz⟩ := I.tuple hq
    obtain ⟨u, hu, ru⟩ := rv.get hx
    obtain ⟨f0, f1, f2, f3, f4, f5⟩ := hf it (by simp)
    refine wpAny_pyNext_tuple_item st (show s.heap.IsTuple a its.toArray from p) (x := u) (by simpa using hu) fun h' st' sb => ?_
    have I1 : Inv X pins σ H { s with heap := h' } := I.turned (t' := s.toks) (fun b o hb e => (sb.2 b hb).trans e) f0 f1 f3 f4 f5
    obtain ⟨o, e, c, d⟩ := id st'
    exact ⟨u, rfl, go_of (s := { s with heap := h' }) e c d (by decide) ⟨x, H, I1, ru, ⟨rfl, fun ys hy => by rw [I.tuple_inj hy hq]; exact hx⟩, st', fun b hb => (hf b hb).1⟩⟩
  done := by
    intro X hP hw hK hc i pins s σ H E I hf st hg
    subst hP hw hK
    obtain ⟨xs, hq, hx⟩ := hg
    obtain ⟨its, rv, p, hz⟩ := I.tuple hq
    obtain ⟨f0, f1, f2, f3, f4, f5⟩ := hf it (by simp)
    have hl := rv.length
    exact wpAny_pyNext_tuple_end (I.ok.hd hc) st (show s.heap.IsTuple a its.toArray from p) (by simp; omega) fun h' eb => ⟨rfl, I.turned (t' := s.toks) (fun b o hb e => eb b o hb e) f0 f1 f3 f4 f5⟩
  self := fun _ _ _ _ _ st h => wpAny_pyIter_tupleiter st h
theorem turn_range {P : Program} {w : World} {K : PySem.W.Frag} {tg : Expr} (it : Addr) (lo : Int) (n : Nat) : Turn P w K tg (Itr lo n) [it] it (fun i h => IsRangeIter h it (lo + (i : Nat) * 1) ((n : Int) - (i : Nat)) 1) where
  mem := by simp
  obj := fun i h st b hb => by
    have e : b = it := by simpa using hb
    subst e
    exact ⟨_, st, fun v z => by
      have z' : Data.fields _ = Data.cell v := z
      cases z'⟩
  keep := fun i h h' st k => k it (by simp) _ st
  item := by
    intro X hP hw hK hc i pins s σ H E I hf st hg
    subst hP hw hK
    obtain ⟨f0, f1, f2, f3, f4, f5⟩ := hf it (by simp)
    have W := Walks.range (prog := X.prog) (w := X.w) (I.ok.hd hc) it lo 1 n
    refine W.item i s _ _ hg st fun v h' tk hv st' kk => ?_
    obtain ⟨t, rfl⟩ := hv
    have I1 : Inv X pins σ H { s with heap := h', toks := tk } := I.turned (fun b o hb e => kk b o (by simpa using hb) e) f0 f1 f3 f4 f5
    refine ⟨_, rfl, go_of (s := { s with heap := h', toks := tk }) (n := "range_iterator") st' rfl rfl (by decide) ⟨.int (lo + i), H, I1, ⟨t, ?_⟩, ⟨rfl, rfl⟩, st', fun b hb => (hf b hb).1⟩⟩
    rw [Int.mul_one]
  done := by
    intro X hP hw hK hc i pins s σ H E I hf st hg
    subst hP hw hK
    obtain ⟨f0, f1, f2, f3, f4, f5⟩ := hf it (by simp)
    exact wpAny_pyNext_range_end (I.ok.hd hc) st (by have : n ≤ i := hg; omega) fun h' eb => ⟨rfl, I.turned (t' := s.toks) (fun b o hb e => eb b o hb e) f0 f1 f3 f4 f5⟩
  self := fun _ _ _ _ _ st h => wpAny_pyIter_rangeiter st h
end L2
namespace L2
open PySem PySem.Spec PyProof.Rows
section
variable {X : Cx} {tg : Expr}
def iList (K : PySem.W.Frag) (tl : TE) : TI := fun σ H R => tl σ H fun x H1 => ∃ a, x = .ref a ∧ (∃ xs, SqL K H1 a xs) ∧ R (Itl K a) H1
def iTup (K : PySem.W.Frag) (tl : TE) : TI := fun σ H R => tl σ H fun x H1 => ∃ a, x = .ref a ∧ (∃ xs, SqT K H1 a xs) ∧ R (Itt K a) H1
theorem pi_list {l : Expr} {tl : TE} (hl : PE X l tl) : PI X tg l (iList X.K tl) := by
  intro pins s σ H R I h
  refine thn (hl pins s σ H _ I h) fun v s1 ⟨x, H1, I1, r1, q1⟩ => ?_
  obtain ⟨a, e, ⟨xs, hq⟩, q⟩ := q1
  subst e
  cases r1
  obtain ⟨its, rv, p, hz⟩ := I1.list hq
  refine wpAny_pyIter_list p.isList ?_
  refine ⟨s1.heap.objs.size, [s1.heap.objs.size], _, _, H1, rfl, I1.kept (t' := s1.toks) fun b o e => Heap.get?_push_of_some _ e, turn_list a _, ⟨_, Heap.get?_push_size _ rfl, rfl, rfl⟩, fun b hb => ?_, q⟩
  have e : b = s1.heap.objs.size := by simpa using hb
  subst e
  exact I1.fpOk (Nat.le_refl _) (I1.hok.fresh (Nat.le_refl _))
theorem pi_tup {l : Expr} {tl : TE} (hl : PE X l tl) : PI X tg l (iTup X.K tl) := by
  intro pins s σ H R I h
  refine thn (hl pins s σ H _ I h) fun v s1 ⟨x, H1, I1, r1, q1⟩ => ?_
  obtain ⟨a, e, ⟨xs, hq⟩, q⟩ := q1
  subst e
  cases r1
  obtain ⟨its, rv, p, hz⟩ := I1.tuple hq
  refine wpAny_pyIter_tuple (show s1.heap.IsTuple a its.toArray from p) ?_
  refine ⟨s1.heap.objs.size, [s1.heap.objs.size], _, _, H1, rfl, I1.kept (t' := s1.toks) fun b o e => Heap.get?_push_of_some _ e, turn_tuple a _, ⟨_, Heap.get?_push_size _ rfl, rfl, rfl⟩, fun b hb => ?_, q⟩
  have e : b = s1.heap.objs.size := by simpa using hb
  subst e
  exact I1.fpOk (Nat.le_refl _) (I1.hok.fresh (Nat.le_refl _))
theorem range_it {pins : List (Addr × Obj)} {σ : St} {H : Hp} {s : Shared} {R : It → Hp → Prop} {E : Value → Shared → Prop} {lo hi : Int} {t u v : Tok} {tk : Nat} (I : Inv X pins σ H s) (h1 : -(2 ^ 62) ≤ lo) (h2 : lo < 2 ^ 62) (h3 : -(2 ^ 62) ≤ hi) (h4 : hi < 2 ^ 62)
    (q : R (Itr lo (hi - lo).toNat) H) : wpAny (model X.prog X.w) X.A (pyIter (.ref s.heap.objs.size)) (PIE X pins σ tg R) E { s with heap := s.heap.push { cls := .type "range", data := .fields #[.int lo t, .int hi u, .int 1 v] }, toks := tk } := by
  refine wpAny_pyIter_range (IsRange.new ..) (small_one h1 h2 h3 h4) ?_
  have I1 : Inv X pins σ H { s with heap := s.heap.push { cls := .type "range", data := .fields #[.int lo t, .int hi u, .int 1 v] }, toks := tk } := I.kept fun b o e => Heap.get?_push_of_some _ e
  refine ⟨(s.heap.push { cls := .type "range", data := .fields #[.int lo t, .int hi u, .int 1 v] }).objs.size, [(s.heap.push { cls := .type "range", data := .fields #[.int lo t, .int hi u, .int 1 v] }).objs.size], _, _, H, rfl,
    I1.kept (t' := tk) fun b o e => Heap.get?_push_of_some _ e, turn_range _ lo (hi - lo).toNat, ?_, fun b hb => ?_, q⟩
  · have e1 : lo + ((0 : Nat) : Int) * 1 = lo := by simp
    have e2 : (((hi - lo).toNat : Nat) : Int) - ((0 : Nat) : Int) = Builtin.Range.rangeSize lo hi 1 := by rw [rangeSize_one]; split <;> omega
    show IsRangeIter _ _ (lo + ((0 : Nat) : Int) * 1) ((((hi - lo).toNat : Nat) : Int) - ((0 : Nat) : Int)) 1
    rw [e1, e2]
    exact Heap.get?_push_size _ rfl
  · have e : b = (s.heap.push { cls := .type "range", data := .fields #[.int lo t, .int hi u, .int 1 v] }).objs.size := by simpa using hb
    subst e
    exact I1.fpOk (Nat.le_refl _) (I1.hok.fresh (Nat.le_refl _))
def iRng1 (ta : TA) : TI := fun σ H R => ta σ H fun vs H1 => ∃ j : Int, vs = [.int j] ∧ -(2 ^ 62) ≤ j ∧ j < 2 ^ 62 ∧ R (Itr 0 j.toNat) H1
def iRng2 (ta : TA) : TI := fun σ H R => ta σ H fun vs H1 => ∃ i j : Int, vs = [.int i, .int j] ∧ (-(2 ^ 62) ≤ i ∧ i < 2 ^ 62 ∧ -(2 ^ 62) ≤ j ∧ j < 2 ^ 62) ∧ R (Itr i (j - i).toNat) H1
theorem pi_range1 {a : Expr} {ta : TA} {p pos : Pos} (hg : Gl X "range") (hm : X.mg "range" = none) (ha : PA X [a] ta) (hs : starEach [a] X.env = [(false, eval a X.env)] := by rfl) : PI X tg (.Call (.Name "range" p) [a] [] pos) (iRng1 ta) := by
  intro pins s σ H R I h
  refine Call_ (ld_blt I hg hm boot_range (PyProof.Rows.callWith_type1 (thn (ha pos pins s σ H _ I h) fun us s1 ⟨vs, H1, I1, r1, q1⟩ => ?_) hs rfl))
  obtain ⟨j, e, q1, q2, q⟩ := q1
  subst e
  cases r1 with
  | cons r rr =>
    cases rr
    obtain ⟨t, rfl⟩ := r
    exact call_range_1 (range_it I1 (by omega) (by omega) q1 q2 (by simpa using q))
def tFor (wi : TI) (g : TG) (tb : TS) : TS := fun D σ H => wi σ H fun J H1 => ∃ W : Nat → Nat → St → Hp → Prop, (∃ m, W 0 m σ H1) ∧ ∀ i m σ H, W i m σ H →
  (J.stop i H ∧ D.nx σ H) ∨ (J.go i H ∧ ∃ N : St → Hp → Prop, (∀ σ' H', N σ' H' → ∃ m', m' < m ∧ W (i + 1) m' σ' H') ∧ ∀ x H', J.yld i H x H' → g x σ H' fun σ2 H2 => tb { D with nx := N, ct := N, bk := D.nx } σ2 H2)
def pinsAt (fp : List Addr) (h : Heap) : List (Addr × Obj) := fp.filterMap fun b => (h.get? b).map fun o => (b, o)
theorem mem_pinsAt {fp : List Addr} {h : Heap} {b : Addr} {o : Obj} (hb : b ∈ fp) (e : h.get? b = some o) : (b, o) ∈ pinsAt fp h := List.mem_filterMap.mpr ⟨b, hb, by rw [e]; rfl⟩
theorem of_pinsAt {fp : List Addr} {h : Heap} {p : Addr × Obj} (hp : p ∈ pinsAt fp h) : p.1 ∈ fp ∧ h.get? p.1 = some p.2 := by
  obtain ⟨b, hb, e⟩ := List.mem_filterMap.mp hp
  cases q : h.get? b with
  | none => rw [q] at e; cases e
  | some o =>
    rw [q] at e
    have e' : (b, o) = p := Option.some.inj e
    subst e'
    exact ⟨hb, q⟩
theorem Inv.pinned {pins : List (Addr × Obj)} {σ : St} {H : Hp} {s : Shared} {fp : List Addr} (I : Inv X pins σ H s) (hf : ∀ b ∈ fp, FpOk X pins H b) (ho : ∀ b ∈ fp, ∃ o, s.heap.get? b = some o ∧ ∀ v, o.data ≠ .cell v) : Inv X (pins ++ pinsAt fp s.heap) σ H s :=
  I.pins_of fun p hp => (List.mem_append.mp hp).elim (fun z => I.pin p (List.mem_append_right _ z)) fun z => by
    obtain ⟨hb, e⟩ := of_pinsAt z
    obtain ⟨f0, f1, f2, _⟩ := hf p.1 hb
    obtain ⟨o, e', d⟩ := ho p.1 hb
    rw [e] at e'; cases e'
    exact ⟨e, f0, f1, f2, d⟩
theorem Inv.unpinned {pins pl : List (Addr × Obj)} {σ : St} {H : Hp} {s : Shared} (I : Inv X (pins ++ pl) σ H s) : Inv X pins σ H s := I.pins_of fun p hp => I.pin p (List.mem_append_right _ (List.mem_append_left _ hp))
theorem ps_for {iter : Expr} {body : List Stmt} {wi : TI} {g : TG} {tb : TS} {pos : Pos} (hp : PassesOwn (model X.prog X.w) X.A X.env X.xe) (hc : X.calm = true) (hi : PI X tg iter wi) (hg : PG X tg g) (hb : PSs X body tb)
    (hs : ∀ x, foldedSetIterable iter X.env x = pure x := by intro _; rfl) : PS X (.For tg iter body [] pos) (tFor wi g tb) := by
  intro pins s σ H D I h
  refine wpAny_For (thn (hi pins s σ H _ I h) fun v s1 h1 => thn h1 fun itv s2 h2 => ?_) hs
  obtain ⟨it, fp, tn, J, H2, e, I2, T, st2, f2, W, ⟨m0, w0⟩, turn⟩ := h2
  subst e
  -- what stays true of the iterator's objects through the loop
  have stat : ∀ {H' : Hp}, (∀ b ∈ fp, H' b = none) → ∀ b ∈ fp, FpOk X pins H' b := fun hn b hb => ⟨hn b hb, (f2 b hb).2⟩
  refine codeAny_forLoop_any (fun n s' => ∃ i σ' H', Inv X pins σ' H' s' ∧ tn i s'.heap ∧ (∀ b ∈ fp, H' b = none) ∧ W i n σ' H') ?_ m0 ⟨0, σ, H2, I2, st2, fun b hb => (f2 b hb).1, w0⟩
  rintro n s3 ⟨i, σ3, H3, I3, st3, fr3, w3⟩
  rcases turn i n σ3 H3 w3 with ⟨stop, qn⟩ | ⟨go, N, hN, step⟩
  · refine wpAny_passesOwn hp (thn (T.done X rfl rfl rfl hc i pins s3 σ3 H3 X.xe I3 (stat fr3) st3 stop) fun r s4 ⟨hr, I4⟩ => ?_)
    subst hr
    exact wpAny_execs_nil ⟨σ3, H3, I4, qn⟩
  · refine wpAny_passesOwn hp (thn (T.item X rfl rfl rfl hc i pins s3 σ3 H3 X.xe I3 (stat fr3) st3 go) fun r s4 ⟨u, hr, h4⟩ => ?_)
    subst hr
    refine wpAny_passesOwn hp (thn h4 fun _ s5 ⟨x, H5, I5, r5, y5, st5, fr5⟩ => ?_)
    have I5' := I5.pinned (stat fr5) (T.obj _ _ st5)
    refine wpAny_passesOwn hp (thn (hg _ s5 σ3 H5 x u _ I5' r5 (step x H5 y5)) fun _ s6 ⟨σ6, H6, I6, q6⟩ => ?_)
    refine wpAny_passesOwn hp (thn (hb _ s6 σ6 H6 _ I6 q6) fun f s7 q7 => ?_)
    have again : ∀ {σ7 : St} {H7 : Hp}, Inv X (pins ++ pinsAt fp s5.heap) σ7 H7 s7 → N σ7 H7 → ∃ m, m < n ∧ ∃ i σ' H', Inv X pins σ' H' s7 ∧ tn i s7.heap ∧ (∀ b ∈ fp, H' b = none) ∧ W i m σ' H' := fun {σ7 H7} I7 n7 => by
      obtain ⟨m', hm, w7⟩ := hN σ7 H7 n7
      refine ⟨m', hm, i + 1, σ7, H7, I7.unpinned, T.keep _ _ _ st5 fun b hb o e => (I7.pin (b, o) (List.mem_append_right _ (List.mem_append_right _ (mem_pinsAt hb e)))).1, fun b hb => ?_, w7⟩
      obtain ⟨o, e, d⟩ := T.obj _ _ st5 b hb
      exact (I7.pin (b, o) (List.mem_append_right _ (List.mem_append_right _ (mem_pinsAt hb e)))).2.1
    cases f with
    | next => obtain ⟨σ7, H7, I7, n7⟩ := q7; exact again I7 n7
    | cont => obtain ⟨σ7, H7, I7, n7⟩ := q7; exact again I7 n7
    | brk => obtain ⟨σ7, H7, I7, q7⟩ := q7; exact ⟨σ7, H7, I7.unpinned, q7⟩
    | ret v => obtain ⟨x7, σ7, H7, I7, r7, q7⟩ := q7; exact ⟨x7, σ7, H7, I7.unpinned, r7, q7⟩
end
theorem for_list {K : PySem.W.Frag} {a : Addr} {xs : List V} {g : TG} {tb : TS} {D : Ends} {σ : St} {H : Hp} (Pv : Nat → St → Hp → Prop) (h0 : Pv 0 σ H) (hl : ∀ i σ H, i ≤ xs.length → Pv i σ H → SqL K H a xs)
    (hs : ∀ i x σ H, xs[i]? = some x → Pv i σ H → g x σ H fun σ2 H2 => tb { D with nx := Pv (i + 1), ct := Pv (i + 1), bk := D.nx } σ2 H2) (hd : ∀ σ H, Pv xs.length σ H → D.nx σ H) :
    ∃ W : Nat → Nat → St → Hp → Prop, (∃ m, W 0 m σ H) ∧ ∀ i m σ H, W i m σ H →
      ((Itl K a).stop i H ∧ D.nx σ H) ∨ ((Itl K a).go i H ∧ ∃ N : St → Hp → Prop, (∀ σ' H', N σ' H' → ∃ m', m' < m ∧ W (i + 1) m' σ' H') ∧ ∀ x H', (Itl K a).yld i H x H' → g x σ H' fun σ2 H2 => tb { D with nx := N, ct := N, bk := D.nx } σ2 H2) := by
  refine ⟨fun i m σ H => m = xs.length - i ∧ i ≤ xs.length ∧ Pv i σ H, ⟨xs.length, by simp, Nat.zero_le _, h0⟩, ?_⟩
  rintro i m σ H ⟨rfl, hi, p⟩
  have q := hl i σ H hi p
  by_cases hlt : i < xs.length
  · refine .inr ⟨⟨xs, xs[i], q, by simp [hlt]⟩, Pv (i + 1), fun σ' H' p' => ⟨xs.length - (i + 1), by omega, rfl, hlt, p'⟩, fun x H' y => ?_⟩
    obtain ⟨e, y⟩ := y
    subst e
    exact hs i x σ _ (y xs q) p
  · have e : i = xs.length := by omega
    subst e
    exact .inl ⟨⟨xs, q, Nat.le_refl _⟩, hd σ H p⟩
theorem for_range {lo : Int} {n : Nat} {g : TG} {tb : TS} {D : Ends} {σ : St} {H : Hp} (Pv : Nat → St → Hp → Prop) (h0 : Pv 0 σ H)
    (hs : ∀ i σ H, i < n → Pv i σ H → g (.int (lo + i)) σ H fun σ2 H2 => tb { D with nx := Pv (i + 1), ct := Pv (i + 1), bk := D.nx } σ2 H2) (hd : ∀ σ H, Pv n σ H → D.nx σ H) :
    ∃ W : Nat → Nat → St → Hp → Prop, (∃ m, W 0 m σ H) ∧ ∀ i m σ H, W i m σ H →
      ((Itr lo n).stop i H ∧ D.nx σ H) ∨ ((Itr lo n).go i H ∧ ∃ N : St → Hp → Prop, (∀ σ' H', N σ' H' → ∃ m', m' < m ∧ W (i + 1) m' σ' H') ∧ ∀ x H', (Itr lo n).yld i H x H' → g x σ H' fun σ2 H2 => tb { D with nx := N, ct := N, bk := D.nx } σ2 H2) := by
  refine ⟨fun i m σ H => m = n - i ∧ i ≤ n ∧ Pv i σ H, ⟨n, by simp, Nat.zero_le _, h0⟩, ?_⟩
  rintro i m σ H ⟨rfl, hi, p⟩
  by_cases hlt : i < n
  · refine .inr ⟨hlt, Pv (i + 1), fun σ' H' p' => ⟨n - (i + 1), by omega, rfl, hlt, p'⟩, fun x H' y => ?_⟩
    obtain ⟨e, y⟩ := y
    subst e y
    exact hs i σ _ hlt p
  · have e : i = n := by omega
    subst e
    exact .inl ⟨Nat.le_refl _, hd σ H p⟩
end L2
namespace L2
open PySem PySem.Spec PyProof.Rows
abbrev R2 := V → V → Hp → VK → Prop
def OpR (X : Cx) (f : Value → Value → Sem Value) (r : R2) : Prop :=
  ∀ (pins : List (Addr × Obj)) (s : Shared) (σ : St) (H : Hp) (x y : V) (v u : Value) (Q : VK), Inv X pins σ H s → RelV x v → RelV y u → r x y H Q →
    wpAny (model X.prog X.w) X.A (f v u) (EP X pins σ Q) X.xe s
def CallR (X : Cx) (f : Value) (r : List V → Hp → VK → Prop) : Prop :=
  ∀ (pins : List (Addr × Obj)) (s : Shared) (σ : St) (H : Hp) (xs : List V) (us : List Value) (Q : VK), Inv X pins σ H s → Vals xs us → r xs H Q →
    wpAny (model X.prog X.w) X.A (call f us) (EP X pins σ Q) X.xe s
def tOp (r : R2) (ta tb : TE) : TE := fun σ H Q => ta σ H fun x H1 => tb σ H1 fun y H2 => r x y H2 Q
def tUn (r : V → Hp → VK → Prop) (ta : TE) : TE := fun σ H Q => ta σ H fun x H1 => r x H1 Q
def rI (C : Int → Int → Prop) (g : Int → Int → V) : R2 := fun x y H Q => ∃ i j, x = .int i ∧ y = .int j ∧ C i j ∧ Q (g i j) H
def rI0 (g : Int → Int → V) : R2 := fun x y H Q => ∃ i j, x = .int i ∧ y = .int j ∧ Q (g i j) H
def rU (g : Int → V) : V → Hp → VK → Prop := fun x H Q => ∃ i, x = .int i ∧ Q (g i) H
section
variable {X : Cx} {a b c : Expr} {ta tb tc : TE} {pos : Pos}
theorem binT (ha : PE X a ta) (hb : PE X b tb) {pins : List (Addr × Obj)} {s : Shared} {σ : St} {H : Hp} {R : V → V → Hp → Prop} (I : Inv X pins σ H s)
    (h : ta σ H fun x H1 => tb σ H1 fun y H2 => R x y H2) {Q : Value → Shared → Prop} {f : Value → Value → Sem Value}
    (hf : ∀ v u s2 x y H2, Inv X pins σ H2 s2 → RelV x v → RelV y u → R x y H2 → wpAny (model X.prog X.w) X.A (f v u) Q X.xe s2) :
    wpAny (model X.prog X.w) X.A (eval a X.env) (fun v s₁ => wpAny (model X.prog X.w) X.A (eval b X.env) (fun u s₂ => wpAny (model X.prog X.w) X.A (f v u) Q X.xe s₂) X.xe s₁) X.xe s := by
  refine thn (ha pins s σ H _ I h) fun v s1 ⟨x, H1, I1, r1, q1⟩ => ?_
  refine thn (hb pins s1 σ H1 _ I1 q1) fun u s2 ⟨y, H2, I2, r2, q2⟩ => ?_
  exact hf v u s2 x y H2 I2 r1 r2 q2
theorem pe_op {op : Operator} {r : R2} (ho : OpR X (binaryOp op) r) (ha : PE X a ta) (hb : PE X b tb) : PE X (.BinOp a op b pos) (tOp r ta tb) := by
  intro pins s σ H Q I h
  exact wpAny_BinOp (binT ha hb I h fun v u s2 x y H2 I2 rx ry q => ho pins s2 σ H2 x y v u Q I2 rx ry q)
theorem opI {f : Value → Value → Sem Value} {C : Int → Int → Prop} {g : Int → Int → Int}
    (rule : ∀ (i j : Int) (t u : Tok) (s : Shared) (Q : Value → Shared → Prop) (E : Value → Shared → Prop), C i j → Q (.int (g i j) s.toks) { s with toks := s.toks + 1 } → wpAny (model X.prog X.w) X.A (f (.int i t) (.int j u)) Q E s) :
    OpR X f (rI C fun i j => .int (g i j)) := by
  intro pins s σ H x y v u Q I rx ry h
  obtain ⟨i, j, rfl, rfl, hc, q⟩ := h
  obtain ⟨t, rfl⟩ := rx
  obtain ⟨t', rfl⟩ := ry
  exact rule i j t t' s _ _ hc ⟨.int (g i j), H, I.tok _, ⟨_, rfl⟩, q⟩
theorem opI0 {f : Value → Value → Sem Value} {g : Int → Int → Int}
    (rule : ∀ (i j : Int) (t u : Tok) (s : Shared) (Q : Value → Shared → Prop) (E : Value → Shared → Prop), Q (.int (g i j) s.toks) { s with toks := s.toks + 1 } → wpAny (model X.prog X.w) X.A (f (.int i t) (.int j u)) Q E s) :
    OpR X f (rI0 fun i j => .int (g i j)) := by
  intro pins s σ H x y v u Q I rx ry h
  obtain ⟨i, j, rfl, rfl, q⟩ := h
  obtain ⟨t, rfl⟩ := rx
  obtain ⟨t', rfl⟩ := ry
  exact rule i j t t' s _ _ ⟨.int (g i j), H, I.tok _, ⟨_, rfl⟩, q⟩
theorem opB0 {f : Value → Value → Sem Value} {g : Int → Int → Bool}
    (rule : ∀ (i j : Int) (t u : Tok) (s : Shared) (Q : Value → Shared → Prop) (E : Value → Shared → Prop), Q (.bool (g i j)) s → wpAny (model X.prog X.w) X.A (f (.int i t) (.int j u)) Q E s) :
    OpR X f (rI0 fun i j => .bl (g i j)) := by
  intro pins s σ H x y v u Q I rx ry h
  obtain ⟨i, j, rfl, rfl, q⟩ := h
  obtain ⟨t, rfl⟩ := rx
  obtain ⟨t', rfl⟩ := ry
  exact rule i j t t' s _ _ ⟨.bl (g i j), H, I, rfl, q⟩
def CDiv (i j : Int) : Prop := 0 < j ∧ j < 1073741824
def CPow (i j : Int) : Prop := 0 ≤ j ∧ j ≤ 1000000 ∧ i.natAbs < 2 ^ 64
def CMul (i j : Int) : Prop := (-(2 ^ 64) < i ∧ i < 2 ^ 64) ∨ (-(2 ^ 64) < j ∧ j < 2 ^ 64)
theorem CMul.ok {i j : Int} (h : CMul i j) : IntMulOk i j := by
  rcases h with ⟨h1, h2⟩ | ⟨h1, h2⟩
  · exact .of_left (intBits_le_64 h1 h2)
  · exact .of_right (intBits_le_64 h1 h2)
theorem op_add : OpR X (binaryOp .Add) (rI0 fun i j => .int (i + j)) := opI0 fun _ _ _ _ _ _ _ q => add_int q
theorem op_sub : OpR X (binaryOp .Sub) (rI0 fun i j => .int (i - j)) := opI0 fun _ _ _ _ _ _ _ q => sub_int q
theorem op_mul : OpR X (binaryOp .Mult) (rI CMul fun i j => .int (i * j)) := opI fun _ _ _ _ _ _ _ hc q => mul_int q hc.ok
theorem op_fdiv : OpR X (binaryOp .FloorDiv) (rI CDiv fun i j => .int (i / j)) := opI fun i j _ _ _ _ _ hc q => by
  have h1 : (0 : Int) < j := hc.1
  have h2 : j < 1073741824 := hc.2
  exact floordiv_int (by omega) (by rw [Int.fdiv_eq_ediv_of_nonneg i (by omega)]; exact q) (.inl (PyProof.noPylong_small (by omega)))
theorem op_mod : OpR X (binaryOp .Mod) (rI (fun _ j => 0 < j) fun i j => .int (i % j)) := opI fun i j _ _ _ _ _ hc q => by
  have h1 : (0 : Int) < j := hc
  exact mod_int' (by omega) (by rw [Int.fmod_eq_emod_of_nonneg i (by omega)]; exact q)
end
def scal : V → V → Bool
  | .non, .non => true | .non, .int _ => true | .int _, .non => true | .non, .bl _ => true | .bl _, .non => true | .non, .str _ => true | .str _, .non => true
  | .int _, .int _ => true | .bl _, .bl _ => true | .str _, .str _ => true | .byt _, .byt _ => true
  | .int _, .str _ => true | .str _, .int _ => true | .bl _, .str _ => true | .str _, .bl _ => true
  | _, _ => false
def rEq : R2 := fun x y H Q => scal x y = true ∧ Q (.bl (decide (x = y))) H
def rNe : R2 := fun x y H Q => scal x y = true ∧ Q (.bl (!decide (x = y))) H
theorem dec_int {i j : Int} : decide (V.int i = V.int j) = (i == j) := by
  rw [Bool.eq_iff_iff]
  simp
theorem dec_bl {i j : Bool} : decide (V.bl i = V.bl j) = (i == j) := by
  rw [Bool.eq_iff_iff]
  simp
theorem dec_str {i j : Str} : decide (V.str i = V.str j) = (i == j) := by
  rw [Bool.eq_iff_iff]
  simp
theorem dec_byt {i j : Array UInt8} : decide (V.byt i = V.byt j) = (i.toList == j.toList) := by
  rw [Bool.eq_iff_iff]
  cases i
  cases j
  simp
section
variable {X : Cx} {a b c : Expr} {ta tb tc : TE} {pos : Pos}
theorem fin_bl {pins : List (Addr × Obj)} {σ : St} {H : Hp} {s : Shared} {Q : VK} {k k' : Bool} (I : Inv X pins σ H s) (q : Q (.bl k) H) (e : k = k') : EP X pins σ Q (.bool k') s := by
  subst e
  exact ⟨.bl k, H, I, rfl, q⟩
theorem op_eq : OpR X (compareOp .Eq) rEq := by
  intro pins s σ H x y v u Q I rx ry h
  obtain ⟨hs, q⟩ := h
  cases x with
  | non =>
    cases rx
    cases y with
    | non => cases ry; exact PySem.EqNone.eq_none_none (fin_bl I q (by simp))
    | bl j => cases ry; exact PySem.EqNone.eq_none_bool (fin_bl I q (by simp))
    | int j => obtain ⟨t', rfl⟩ := ry; exact PySem.EqNone.eq_none_int (fin_bl I q (by simp))
    | str j => obtain ⟨t', rfl⟩ := ry; exact PySem.EqNone.eq_none_str (fin_bl I q (by simp))
    | _ => exact absurd (show false = true from hs) Bool.false_ne_true
  | bl i =>
    cases rx
    cases y with
    | non => cases ry; exact PySem.EqNone.eq_bool_none (fin_bl I q (by simp))
    | bl j => cases ry; exact eq_bool (fin_bl I q dec_bl)
    | str j => obtain ⟨t', rfl⟩ := ry; exact PySem.EqMixed.eq_bool_str (fin_bl I q (by simp))
    | _ => exact absurd (show false = true from hs) Bool.false_ne_true
  | int i =>
    obtain ⟨t, rfl⟩ := rx
    cases y with
    | non => cases ry; exact PySem.EqNone.eq_int_none (fin_bl I q (by simp))
    | int j => obtain ⟨t', rfl⟩ := ry; exact eq_int (fin_bl I q dec_int)
    | str j => obtain ⟨t', rfl⟩ := ry; exact PySem.EqMixed.eq_int_str (fin_bl I q (by simp))
    | _ => exact absurd (show false = true from hs) Bool.false_ne_true
  | str i =>
    obtain ⟨t, rfl⟩ := rx
    cases y with
    | non => cases ry; exact PySem.EqNone.eq_str_none (fin_bl I q (by simp))
    | bl j => cases ry; exact PySem.EqMixed.eq_str_bool (fin_bl I q (by simp))
    | int j => obtain ⟨t', rfl⟩ := ry; exact PySem.EqMixed.eq_str_int (fin_bl I q (by simp))
    | str j => obtain ⟨t', rfl⟩ := ry; exact eq_str (fin_bl I q dec_str)
    | _ => exact absurd (show false = true from hs) Bool.false_ne_true
  | byt i =>
    obtain ⟨t, rfl⟩ := rx
    cases y with
    | byt j => obtain ⟨t', rfl⟩ := ry; exact PySem.W.eq_bytes (fin_bl I q dec_byt)
    | _ => exact absurd (show false = true from hs) Bool.false_ne_true
  | _ => cases y <;> exact absurd (show false = true from hs) Bool.false_ne_true
theorem op_ne : OpR X (compareOp .NotEq) rNe := by
  intro pins s σ H x y v u Q I rx ry h
  obtain ⟨hs, q⟩ := h
  cases x with
  | non =>
    cases rx
    cases y with
    | non => cases ry; exact PySem.EqNone.ne_none_none (fin_bl I q (by simp))
    | bl j => cases ry; exact PySem.EqNone.ne_none_bool (fin_bl I q (by simp))
    | int j => obtain ⟨t', rfl⟩ := ry; exact PySem.EqNone.ne_none_int (fin_bl I q (by simp))
    | str j => obtain ⟨t', rfl⟩ := ry; exact PySem.EqNone.ne_none_str (fin_bl I q (by simp))
    | _ => exact absurd (show false = true from hs) Bool.false_ne_true
  | bl i =>
    cases rx
    cases y with
    | non => cases ry; exact PySem.EqNone.ne_bool_none (fin_bl I q (by simp))
    | bl j => cases ry; exact ne_bool (fin_bl I q (congrArg not dec_bl))
    | str j => obtain ⟨t', rfl⟩ := ry; exact PySem.EqMixed.ne_bool_str (fin_bl I q (by simp))
    | _ => exact absurd (show false = true from hs) Bool.false_ne_true
  | int i =>
    obtain ⟨t, rfl⟩ := rx
    cases y with
    | non => cases ry; exact PySem.EqNone.ne_int_none (fin_bl I q (by simp))
    | int j => obtain ⟨t', rfl⟩ := ry; exact ne_int (fin_bl I q (congrArg not dec_int))
    | str j => obtain ⟨t', rfl⟩ := ry; exact PySem.EqMixed.ne_int_str (fin_bl I q (by simp))
    | _ => exact absurd (show false = true from hs) Bool.false_ne_true
  | str i =>
    obtain ⟨t, rfl⟩ := rx
    cases y with
    | non => cases ry; exact PySem.EqNone.ne_str_none (fin_bl I q (by simp))
    | bl j => cases ry; exact PySem.EqMixed.ne_str_bool (fin_bl I q (by simp))
    | int j => obtain ⟨t', rfl⟩ := ry; exact PySem.EqMixed.ne_str_int (fin_bl I q (by simp))
    | str j => obtain ⟨t', rfl⟩ := ry; exact ne_str (fin_bl I q (congrArg not dec_str))
    | _ => exact absurd (show false = true from hs) Bool.false_ne_true
  | byt i =>
    obtain ⟨t, rfl⟩ := rx
    cases y with
    | byt j => obtain ⟨t', rfl⟩ := ry; exact PySem.W.ne_bytes (fin_bl I q (congrArg not dec_byt))
    | _ => exact absurd (show false = true from hs) Bool.false_ne_true
  | _ => cases y <;> exact absurd (show false = true from hs) Bool.false_ne_true
theorem op_lt : OpR X (compareOp .Lt) (rI0 fun i j => .bl (decide (i < j))) := opB0 fun _ _ _ _ _ _ _ q => lt_int q
theorem op_le : OpR X (compareOp .LtE) (rI0 fun i j => .bl (decide (i ≤ j))) := opB0 fun _ _ _ _ _ _ _ q => le_int q
theorem op_gt : OpR X (compareOp .Gt) (rI0 fun i j => .bl (decide (j < i))) := opB0 fun _ _ _ _ _ _ _ q => gt_int q
theorem op_ge : OpR X (compareOp .GtE) (rI0 fun i j => .bl (decide (j ≤ i))) := opB0 fun _ _ _ _ _ _ _ q => ge_int q
theorem op_in_str : OpR X (compareOp .In) (fun x y H Q => ∃ i j, x = .str i ∧ y = .str j ∧ Q (.bl (!(Builtin.Str.occurrences j i 0 j.length 1).isEmpty)) H) := by
  intro pins s σ H x y v u Q I rx ry h
  obtain ⟨i, j, rfl, rfl, q⟩ := h
  obtain ⟨t, rfl⟩ := rx
  obtain ⟨t', rfl⟩ := ry
  exact in_str (fin_bl I q rfl)
theorem op_isN : OpR X (compareOp .Is) (fun x y H Q => y = .non ∧ Q (.bl (decide (x = .non))) H) := by
  intro pins s σ H x y v u Q I rx ry h
  obtain ⟨rfl, q⟩ := h
  cases ry
  refine is_none_gen (fin_bl I q ?_)
  cases x <;> first
    | (cases rx; rfl)
    | (obtain ⟨t, rfl⟩ := rx; rfl)
theorem nomark (b : Expr) {op : CmpOp} (h : op ≠ .In := by decide) (h2 : op ≠ .NotIn := by decide) : behindInMarks op b = false := by
  have e1 : (op == CmpOp.In) = false := by cases op <;> first | rfl | exact absurd rfl h
  have e2 : (op == CmpOp.NotIn) = false := by cases op <;> first | rfl | exact absurd rfl h2
  cases b <;> simp [behindInMarks, e1, e2]
theorem pe_cmpR {op : CmpOp} {r : R2} (ho : OpR X (compareOp op) r) (ha : PE X a ta) (hb : PE X b tb) (hm : behindInMarks op b = false) : PE X (.Compare a [op] [b] pos) (tOp r ta tb) := by
  intro pins s σ H Q I h
  exact wpAny_Compare1 (binT ha hb I h fun v u s2 x y H2 I2 rx ry q => ho pins s2 σ H2 x y v u Q I2 rx ry q) hm
def tTest (t : TE) : TT := fun σ H Q => t σ H fun x H' => ∃ k, x = .bl k ∧ Q k H'
theorem pt_cmpR {op : CmpOp} {r : R2} (ho : OpR X (compareOp op) r) (ha : PE X a ta) (hb : PE X b tb) (hm : behindInMarks op b = false) : PT X (.Compare a [op] [b] pos) (tTest (tOp r ta tb)) := by
  intro pins s σ H Q I h
  refine wpAny_isTrue_Compare1 (thn (ha pins s σ H _ I h) fun v s1 ⟨x, H1, I1, r1, q1⟩ => thn (hb pins s1 σ H1 _ I1 q1) fun u s2 ⟨y, H2, I2, r2, q2⟩ =>
    thn (ho pins s2 σ H2 x y v u _ I2 r1 r2 q2) fun c s3 ⟨z, H3, I3, r3, k, e, q3⟩ => ?_) hm
  subst e
  cases r3
  exact wpAny_truthy_bool ⟨H3, I3, q3⟩
theorem line63 : (sizeLine : Nat) < 2 ^ 63 := by rw [sizeLine_eq]; decide
theorem op_add_str : OpR X (binaryOp .Add) (fun x y H Q => ∃ i j, x = .str i ∧ y = .str j ∧ i.length + j.length ≤ sizeLine ∧ Q (.str (i ++ j)) H) := by
  intro pins s σ H x y v u Q I rx ry h
  obtain ⟨i, j, rfl, rfl, hz, q⟩ := h
  obtain ⟨t, rfl⟩ := rx
  obtain ⟨t', rfl⟩ := ry
  exact add_str (fun t' tk => ⟨.str (i ++ j), H, I.tok _, ⟨_, rfl⟩, q⟩) hz
theorem vals1 {x : V} {us : List Value} (r : Vals [x] us) : ∃ u, us = [u] ∧ RelV x u := by
  cases r with
  | cons r1 r2 => cases r2; exact ⟨_, rfl, r1⟩
theorem vals2 {x y : V} {us : List Value} (r : Vals [x, y] us) : ∃ u w', us = [u, w'] ∧ RelV x u ∧ RelV y w' := by
  cases r with
  | cons r1 r2 =>
    cases r2 with
    | cons r3 r4 => cases r4; exact ⟨_, _, rfl, r1, r3⟩
theorem call_int1 : CallR X (.type "int") (fun xs H Q => (∃ i, xs = [.int i] ∧ Q (.int i) H) ∨ ∃ k, xs = [.bl k] ∧ Q (.int (if k then 1 else 0)) H) := by
  intro pins s σ H xs us Q I r h
  rcases h with ⟨i, rfl, q⟩ | ⟨k, rfl, q⟩
  · obtain ⟨u, rfl, t, rfl⟩ := vals1 r
    exact call_int_int ⟨.int i, H, I, ⟨_, rfl⟩, q⟩
  · obtain ⟨u, rfl, r1⟩ := vals1 r
    cases r1
    exact call_int_bool ⟨.int (if k then 1 else 0), H, I.tok _, ⟨_, rfl⟩, q⟩
end
end L2
namespace L2
open PySem PySem.Spec PyProof.Rows
structure ObjM (h : Heap) (x dx C : Addr) (mA : Str → Option Value) : Prop where
  obj : h.get? x = some (PySem.W.instObj C dx)
  ns : h.Ns1 dx mA
  ne : dx ≠ x
theorem lookIn_ns {h : Heap} {dx : Addr} {mA : Str → Option Value} (n : h.Ns1 dx mA) : ∃ od, h.get? dx = some od ∧ ∀ name, PySem.W.lookIn name od = some (mA name) := by
  obtain ⟨o, es, ep, ho, hd, hk, _, hm⟩ := n
  refine ⟨o, ho, fun name => ?_⟩
  have e := hm name
  unfold nsFind findBy at e
  rw [← Array.find?_toList] at e
  unfold PySem.W.lookIn
  rw [hd]
  dsimp only
  split
  · rename_i y q
    rw [q] at e
    exact congrArg some e
  · rename_i q
    rw [q] at e
    have a : es.toList.any (·.refKey) = false := by
      rw [List.any_eq_false]
      intro y hy
      obtain ⟨z, t, hkey⟩ := hk y (Array.mem_toList_iff.mp hy)
      simp [DictEntry.refKey, hkey]
    have a' : ¬ es.toList.any (·.refKey) = true := by rw [a]; exact Bool.false_ne_true
    rw [if_neg a']
    exact congrArg some e
theorem ObjM.look {h : Heap} {x dx C : Addr} {mA : Str → Option Value} (I : ObjM h x dx C mA) : ∃ od, PySem.W.InstAt h x (PySem.W.instObj C dx) C (some od) ∧ ∀ name, PySem.W.lookIn name od = some (mA name) :=
  let ⟨od, ho, hl⟩ := lookIn_ns I.ns
  ⟨od, ⟨I.obj, rfl, rfl, ho⟩, hl⟩
section
variable {prog : Program} {w : World} {A : Around} {E : Value → Shared → Prop} {s : Shared} {K : PySem.W.Frag} {x dx C f : Addr} {mA : Str → Option Value} {name : Str} {v : Value}
theorem get_map {expr : Bool} {Q : Value → Shared → Prop} (X : K.In s.heap) (I : ObjM s.heap x dx C mA) (hg : PySem.W.plainGet K C name = true) (hh : PySem.W.hasDictIn K C = true)
    (ha : PySem.W.findIn K (.ref C) name = some none) (hv : mA name = some v) (hv' : PySem.W.handedIn v = true) (h : Q v { s with toks := s.toks + 1 }) :
    wpAny (model prog w) A (getAttr (.ref x) name expr) Q E s := by
  obtain ⟨od, J, hl⟩ := I.look
  exact PySem.W.get_value X J (PySem.W.plainGet_of hg).1 (PySem.W.findObj_own hh ha rfl (by rw [hl, hv])) hv' h
theorem get_meth {pl : Sem Bool} {Q : Value × List Value → Shared → Prop} (X : K.In s.heap) (I : ObjM s.heap x dx C mA) (hg : PySem.W.plainGet K C name = true)
    (hf : PySem.W.findIn K (.ref C) name = some (some (.ref f))) (ht : PySem.W.isFn K (.ref f) = true) (hv : mA name = none) (h : Q (.ref f, [.ref x]) s) :
    wpAny (model prog w) A (getMethod (.ref x) name pl) Q E s := by
  obtain ⟨od, J, hl⟩ := I.look
  exact PySem.W.method_fn X J (PySem.W.plainGet_of hg).1 (PySem.W.plainGet_of hg).2 hf (beq_iff_eq.mp ht) (by show (PySem.W.lookIn name od).map (·.isSome) = some false; rw [hl, hv]; rfl) h
theorem set_map {ns : List Str} {Q : Unit → Shared → Prop} (X : K.In s.heap) (I : ObjM s.heap x dx C mA)
    (hs : PySem.W.findIn K (.ref C) "__setattr__" = some (some (.builtin "object.__setattr__"))) (hp : PySem.W.plainOver K C = true) (ht : PySem.W.takerIn K C name = some none) (hh : PySem.W.hasDictIn K C = true)
    (hw : PySem.Within mA ns) (hsz : ns.length ≤ sizeLine)
    (h : ∀ h', ObjM h' x dx C (fun y => if y = name then some v else mA y) → Heap.SameBut dx s.heap h' → Q () { s with heap := h', toks := s.toks + 2 }) :
    wpAny (model prog w) A (setAttr (.ref x) name v) Q E s := by
  obtain ⟨od, J, hl⟩ := I.look
  refine PySem.W.set_plain X J hs (PySem.W.osa_open (s := { s with toks := s.toks + 1 }) (r := none) X J hp ht fun b => ?_)
  obtain ⟨cd, hc, hd'⟩ := PySem.W.any_some hh
  have hx : s.heap.get? x = some ⟨.ref C, some dx, .plain, #[]⟩ := I.obj
  refine wpAny_bind (wpAny_pure (wpAny_bind (wpAny_bind (wpAny_loadPart hx (wpAny_bind (PySem.W.Looks.here (s := { s with toks := s.toks + 1 }) (PySem.W.looks_clsIn X hc) ?_))))))
  rw [hd']
  refine wpAny_pure (a := some dx) (wpAny_bind (wpAny_pure (wpAny_bind ?_)))
  refine wpAny_nsSet1 (s := { s with toks := s.toks + 1 }) I.ns fun h' hn2 hs2 => ?_
  obtain ⟨oD, esD, epD, hoD, hdD, hcD⟩ := hn2.count (PySem.Within.cons name v hw)
  refine wpAny_bind (wpAny_lookBehind hoD (by rw [hdD]; exact pastItsLine_dict (Nat.le_trans hcD (by rw [List.length_cons]; omega))) ?_)
  exact wpAny_pure (h _ ⟨(hs2.2 _ (Ne.symm I.ne)).trans I.obj, hn2, I.ne⟩ hs2)
theorem make_map {R : Result → Shared → Prop} {vs : List Value} {kw : List (Str × Value)} (X : K.In s.heap) (hm : PySem.W.makesIn K C = true)
    (hi : PySem.W.findIn K (.ref C) "__init__" = some (some (.ref f))) (hf : PySem.W.typeIn K (.ref f) = some (.type "function"))
    (h : codeAny (model prog w) (A.under (.builtin "type.__call__" ⟨.ref C :: vs, kw⟩)) (.call (.ref f) ⟨.ref (s.heap.objs.size + 1) :: vs, kw⟩) (PySem.W.InitBack (s.heap.objs.size + 1) R)
      { s with heap := (s.heap.push PySem.W.emptyDict).push (PySem.W.instObj C s.heap.objs.size) }) :
    codeAny (model prog w) A (.call (.ref C) ⟨vs, kw⟩) R s := by
  obtain ⟨hh, g, d, t, os⟩ := s
  exact PySem.W.make_core (PySem.W.makes_of X hm) (PySem.W.looks_findIn X hi) (fun self => PySem.W.bind_fn X self hf) (.inl rfl) h
end
def putF (f : Str) (v : V) : List (Str × V) → List (Str × V)
  | [] => [(f, v)]
  | (g, x) :: r => if g = f then (g, v) :: r else (g, x) :: putF f v r
theorem lookup_putF (f g : Str) (v : V) : ∀ fs : List (Str × V), (putF f v fs).lookup g = if g = f then some v else fs.lookup g
  | [] => by
    show List.lookup g [(f, v)] = _
    by_cases h : g = f
    · have hb : (g == f) = true := beq_iff_eq.mpr h
      simp only [List.lookup, hb, if_pos h]
    · have hb : (g == f) = false := beq_eq_false_iff_ne.mpr h
      simp only [List.lookup, hb, if_neg h]
  | (k, x) :: r => by
    have ih := lookup_putF f g v r
    rw [show putF f v ((k, x) :: r) = (if k = f then (k, v) :: r else (k, x) :: putF f v r) from rfl]
    by_cases hk : k = f
    · rw [if_pos hk]
      by_cases h : g = k
      · have hb : (g == k) = true := beq_iff_eq.mpr h
        simp only [List.lookup, hb, if_pos (h.trans hk)]
      · have hb : (g == k) = false := beq_eq_false_iff_ne.mpr h
        simp only [List.lookup, hb, if_neg (fun e : g = f => h (e.trans hk.symm))]
    · rw [if_neg hk]
      by_cases h : g = k
      · have hb : (g == k) = true := beq_iff_eq.mpr h
        simp only [List.lookup, hb, if_neg (fun e : g = f => hk (h.symm.trans e))]
      · have hb : (g == k) = false := beq_eq_false_iff_ne.mpr h
        simp only [List.lookup, hb]
        exact ih
theorem keys_putF (f : Str) (v : V) : ∀ fs : List (Str × V), f ∈ (putF f v fs).map (·.1) ∧ ∀ g, g ∈ fs.map (·.1) → g ∈ (putF f v fs).map (·.1)
  | [] => ⟨by simp [putF], fun g h => by simp at h⟩
  | (k, x) :: r => by
    obtain ⟨i1, i2⟩ := keys_putF f v r
    rw [show putF f v ((k, x) :: r) = (if k = f then (k, v) :: r else (k, x) :: putF f v r) from rfl]
    by_cases hk : k = f
    · rw [if_pos hk]
      subst hk
      exact ⟨by simp, fun g h => by simpa using h⟩
    · rw [if_neg hk]
      refine ⟨?_, fun g h => ?_⟩
      · rw [List.map_cons]
        exact List.mem_cons_of_mem _ i1
      · rw [List.map_cons] at h ⊢
        rcases List.mem_cons.mp h with e | e
        · exact List.mem_cons.mpr (.inl e)
        · exact List.mem_cons_of_mem _ (i2 g e)
theorem length_putF (f : Str) (v : V) : ∀ fs : List (Str × V), (putF f v fs).length ≤ fs.length + 1
  | [] => by simp [putF]
  | (k, x) :: r => by
    have ih := length_putF f v r
    rw [show putF f v ((k, x) :: r) = (if k = f then (k, v) :: r else (k, x) :: putF f v r) from rfl]
    by_cases hk : k = f
    · rw [if_pos hk, List.length_cons, List.length_cons]; omega
    · rw [if_neg hk, List.length_cons, List.length_cons]; omega
theorem RelO.some_of {v : V} {o : Option Value} (r : RelO (some v) o) : ∃ u, o = some u ∧ RelV v u := by
  cases o with
  | none => exact (show False from r).elim
  | some u => exact ⟨u, rfl, r⟩
theorem RelO.none_of {o : Option Value} (r : RelO none o) : o = none := by
  cases o with
  | none => rfl
  | some u => exact (show False from r).elim
theorem handed_of {v : V} {u : Value} (r : RelV v u) : PySem.W.handedIn u = true := by
  cases v with
  | non => cases (show u = Value.none from r); rfl
  | bl b => cases (show u = Value.bool b from r); rfl
  | int i => obtain ⟨t, e⟩ := (show ∃ t, u = Value.int i t from r); cases e; rfl
  | str x => obtain ⟨t, e⟩ := (show ∃ t, u = Value.str x t from r); cases e; rfl
  | byt b => obtain ⟨t, e⟩ := (show ∃ t, u = Value.bytes b t from r); cases e; rfl
  | flt b => obtain ⟨t, e⟩ := (show ∃ t, u = Value.float b t from r); cases e; rfl
  | ref a => cases (show u = Value.ref a from r); rfl
  | ty n => cases (show u = Value.type n from r); rfl
section
variable {P : Program} {w : World} {H H' : Hp} {h h' : Heap} {a C dx : Addr} {fs fs' : List (Str × V)}
theorem ins_get (hok : HOk P w H h) (e : H a = some (.ins C dx fs)) : ∃ mA, ObjM h a dx C mA ∧ (∀ f, RelO (fs.lookup f) (mA f)) ∧ PySem.Within mA (fs.map (·.1)) ∧ fs.length ≤ 1000 ∧ H dx = some (.own a) := by
  obtain ⟨d, z, ne, ob, mA, n, r, q⟩ := (show ObjOk P w H h a (.ins C dx fs) from hok a _ e)
  exact ⟨mA, ⟨ob, n, ne⟩, r, q, z, d⟩
end
structure Cls (K : PySem.W.Frag) (C : Addr) : Prop where
  pg : PySem.W.plainGet K C Str.empty = true
  hd : PySem.W.hasDictIn K C = true
  po : PySem.W.plainOver K C = true
  sa : PySem.W.findIn K (.ref C) "__setattr__" = some (some (.builtin "object.__setattr__"))
theorem Cls.get {K : PySem.W.Frag} {C : Addr} (c : Cls K C) (f : Str) : PySem.W.plainGet K C f = true := c.pg
def NoAttr (K : PySem.W.Frag) (C : Addr) (f : Str) : Prop := PySem.W.findIn K (.ref C) f = some none
theorem NoAttr.taker {K : PySem.W.Frag} {C : Addr} {f : Str} (n : NoAttr K C f) : PySem.W.takerIn K C f = some none := by
  unfold PySem.W.takerIn
  rw [show PySem.W.findIn K (.ref C) f = some none from n]
  rfl
structure Meth (K : PySem.W.Frag) (C : Addr) (m : Str) (f : Addr) : Prop where
  at_ : PySem.W.findIn K (.ref C) m = some (some (.ref f))
  fn : PySem.W.isFn K (.ref f) = true
  kp : PySem.W.keepIn K (.ref f) = true
section
variable {X : Cx} {pins : List (Addr × Obj)} {σ : St} {H : Hp} {s : Shared} {a C dx : Addr} {fs : List (Str × V)} {f : Str} {v : V} {A : Around} {E : Value → Shared → Prop}
theorem getattr_ok {b : Bool} {Q : Value → Shared → Prop} (I : Inv X pins σ H s) (e : H a = some (.ins C dx fs)) (c : Cls X.K C) (n : NoAttr X.K C f) (l : fs.lookup f = some v)
    (h : ∀ u s', Inv X pins σ H s' → RelV v u → Q u s') : wpAny (model X.prog X.w) A (getAttr (.ref a) f b) Q E s := by
  obtain ⟨mA, O, r, _, _, _⟩ := ins_get I.hok e
  obtain ⟨u, hu, ru⟩ := RelO.some_of (v := v) (o := mA f) (by rw [← l]; exact r f)
  exact get_map I.kIn O (c.get f) c.hd n hu (handed_of ru) (h u _ (I.tok _) ru)
theorem getmeth_ok {m : Str} {g : Addr} {pl : Sem Bool} {Q : Value × List Value → Shared → Prop} (I : Inv X pins σ H s) (e : H a = some (.ins C dx fs)) (c : Cls X.K C) (k : Meth X.K C m g) (l : fs.lookup m = none)
    (h : Q (.ref g, [.ref a]) s) : wpAny (model X.prog X.w) A (getMethod (.ref a) m pl) Q E s := by
  obtain ⟨mA, O, r, _, _, _⟩ := ins_get I.hok e
  have hn : mA m = none := RelO.none_of (by rw [← l]; exact r m)
  exact get_meth I.kIn O (c.get m) k.at_ k.fn hn h
theorem setattr_ok {y : V} {u : Value} {Q : Unit → Shared → Prop} (I : Inv X pins σ H s) (e : H a = some (.ins C dx fs)) (c : Cls X.K C) (n : NoAttr X.K C f) (hl : fs.length < 1000) (ry : RelV y u)
    (h : ∀ s', Inv X pins σ (upd H a (.ins C dx (putF f y fs))) s' → Q () s') : wpAny (model X.prog X.w) A (setAttr (.ref a) f u) Q E s := by
  obtain ⟨mA, O, r, wi, _, ho⟩ := ins_get I.hok e
  have hz : (fs.map (·.1)).length ≤ sizeLine := by rw [List.length_map, sizeLine_eq]; omega
  refine set_map I.kIn O c.sa c.po n.taker c.hd wi hz fun h' O' sb => h _ ?_
  have hd : ∃ o, h'.get? dx = some o := let ⟨o, _, _, e', _⟩ := O'.ns; ⟨o, e'⟩
  refine I.write (x := a) (e := dx) (by rw [e]; exact True.intro) (.inr ho) (fun b q hb z => (sb.2 b hb).trans z) hd ?_
  refine ⟨by rw [upd_ne O.ne]; exact ho, ?_, O.ne, O'.obj, _, O'.ns, fun g => ?_, fun g hg => ?_⟩
  · have := length_putF f y fs; omega
  · show RelO ((putF f y fs).lookup g) (if g = f then some u else mA g)
    rw [lookup_putF]
    by_cases q : g = f
    · rw [if_pos q, if_pos q]; exact ry
    · rw [if_neg q, if_neg q]; exact r g
  · by_cases q : g = f
    · rw [q]; exact (keys_putF f y fs).1
    · refine (keys_putF f y fs).2 g (wi g fun z => hg ?_)
      show (if g = f then some u else mA g) = none
      rw [if_neg q]; exact z
theorem Inv.made (I : Inv X pins σ H s) : Inv X pins σ (upd (upd H s.heap.objs.size (.own (s.heap.objs.size + 1))) (s.heap.objs.size + 1) (.ins C s.heap.objs.size []))
    { s with heap := (s.heap.push PySem.W.emptyDict).push (PySem.W.instObj C s.heap.objs.size) } := by
  have e1 : (s.heap.push PySem.W.emptyDict).get? s.heap.objs.size = some PySem.W.emptyDict := Heap.get?_push_size s.heap rfl
  have e2 : ((s.heap.push PySem.W.emptyDict).push (PySem.W.instObj C s.heap.objs.size)).get? (s.heap.objs.size + 1) = some (PySem.W.instObj C s.heap.objs.size) := by
    have := Heap.get?_push_size (s.heap.push PySem.W.emptyDict) (o := PySem.W.instObj C s.heap.objs.size) rfl
    rwa [Heap.size_push] at this
  have e3 : (s.heap.push PySem.W.emptyDict).Ns s.heap.objs.size (fun _ => none) := ⟨PySem.W.emptyDict, #[], _, e1, rfl, (fun e he => absurd he (by simp)), fun _ => rfl⟩
  have I1 := I.laid (a := s.heap.objs.size) (o := .own (s.heap.objs.size + 1)) (h' := s.heap.push PySem.W.emptyDict) (t' := s.toks) (fun b u q => Heap.get?_push_of_some _ q) (Nat.le_refl _) ⟨_, e1⟩
  refine I1.laid (a := s.heap.objs.size + 1) (o := .ins C s.heap.objs.size []) (t' := s.toks) (fun b u q => Heap.get?_push_of_some _ q) (Nat.le_of_eq (Heap.size_push _ _)) ?_
  have ne : s.heap.objs.size ≠ s.heap.objs.size + 1 := Nat.ne_of_lt (Nat.lt_succ_self _)
  refine ⟨by rw [upd_ne ne, upd_same], Nat.zero_le _, ne, e2, fun _ => none, (Heap.Ns1.of_empty e3).at fun o q => Heap.get?_push_of_some _ q, fun _ => True.intro, fun y hy => absurd rfl hy⟩
theorem attr_of {prog : Program} {w : World} {env : Env} {e : Expr} {f : Str} {pos : Pos} {s : Shared} {Q : Value → Shared → Prop} (hb : attributeBase e f env (eval e env) = eval e env)
    (h : wpAny (model prog w) A (eval e env) (fun o s₁ => wpAny (model prog w) A (getAttr o f true) Q E s₁) E s) : wpAny (model prog w) A (eval (.Attribute e f pos) env) Q E s :=
  Attribute_any_ h (by rw [arm_eval_Attribute, hb])
end
section
variable {X : Cx} {o e value : Expr} {f : Str} {pos pos' tpos : Pos} {ta tv : TE}
end
section
variable {X : Cx} {pins : List (Addr × Obj)} {σ : St} {H : Hp} {s : Shared} {A : Around} {E : Value → Shared → Prop} {Q : Value → Shared → Prop} {c : Value} {b : Bool}
inductive TyOf (K : PySem.W.Frag) (H : Hp) : V → Value → Prop where
  | non : TyOf K H .non (.type "NoneType")
  | bl (x : Bool) : TyOf K H (.bl x) (.type "bool")
  | int (i : Int) : TyOf K H (.int i) (.type "int")
  | str (x : Str) : TyOf K H (.str x) (.type "str")
  | flt (x : UInt64) : TyOf K H (.flt x) (.type "float")
  | lst {a : Addr} {xs : List V} (e : H a = some (.lst xs)) : TyOf K H (.ref a) (.type "list")
  | frz {a : Addr} {o : Obj} {xs : List V} (e : H a = some (.frz o (.lst xs))) : TyOf K H (.ref a) (.type "list")
  | tup {a : Addr} {xs : List V} (e : H a = some (.tup xs)) : TyOf K H (.ref a) (.type "tuple")
  | dK {a : Addr} {kvs : List (Key × V)} (e : H a = some (.dK kvs)) : TyOf K H (.ref a) (.type "dict")
  | dT {a : Addr} {kvs : List (List Key × V)} (e : H a = some (.dT kvs)) : TyOf K H (.ref a) (.type "dict")
  | ins {a C dx : Addr} {fs : List (Str × V)} (e : H a = some (.ins C dx fs)) (cl : Cls K C) (ha : PySem.W.findIn K (.ref C) "__class__" = some (some (.builtin "object.__class__")))
      (hn : PySem.W.specialIn K (.builtin "object.__class__") "__get__" = some (some (.builtin "getset_descriptor.__get__"))) (htk : PySem.W.takesIn K (.builtin "object.__class__") = some true)
      (hm : PySem.W.mroIn K C (.type "object") = some true) : TyOf K H (.ref a) (.ref C)
theorem isinst_ok {x : V} {u t : Value} (I : Inv X pins σ H s) (rx : RelV x u) (ty : TyOf X.K H x t) (e : PySem.W.kitOne X.K t c = some b) (h : ∀ tk, Q (.bool b) { s with toks := tk }) :
    wpAny (model X.prog X.w) A (call (.builtin "isinstance") [u, c]) Q E s := by
  cases ty with
  | non => cases (show u = Value.none from rx); exact PySem.W.kia_one PySem.W.kitx_none I.kIn True.intro e (fun z => nomatch z) h
  | bl y => cases (show u = Value.bool y from rx); exact PySem.W.kia_one PySem.W.kitx_bool I.kIn True.intro e (fun z => nomatch z) h
  | int i => obtain ⟨t, q⟩ := (show ∃ t, u = Value.int i t from rx); cases q; exact PySem.W.kia_one PySem.W.kitx_int I.kIn True.intro e (fun z => nomatch z) h
  | str y => obtain ⟨t, q⟩ := (show ∃ t, u = Value.str y t from rx); cases q; exact PySem.W.kia_one PySem.W.kitx_str I.kIn True.intro e (fun z => nomatch z) h
  | flt y => obtain ⟨t, q⟩ := (show ∃ t, u = Value.float y t from rx); cases q; exact PySem.W.kia_one PySem.W.kitx_float I.kIn True.intro e (fun z => nomatch z) h
  | @lst a xs ea =>
    cases (show u = Value.ref a from rx)
    obtain ⟨_, _, n, _, h1⟩ := (show ObjOk X.prog X.w H s.heap a (.lst xs) from I.hok a _ ea)
    exact PySem.W.kia_one PySem.W.kitx_list I.kIn ⟨_, h1, rfl⟩ e (fun z => nomatch z) h
  | @frz a ob xs ea =>
    cases (show u = Value.ref a from rx)
    obtain ⟨_, _, _, n, _, h1⟩ := (show ObjOk X.prog X.w H s.heap a (.frz ob (.lst xs)) from I.hok a _ ea)
    exact PySem.W.kia_one PySem.W.kitx_list I.kIn ⟨_, h1, rfl⟩ e (fun z => nomatch z) h
  | @tup a xs ea =>
    cases (show u = Value.ref a from rx)
    obtain ⟨_, _, _, p⟩ := (show ObjOk X.prog X.w H s.heap a (.tup xs) from I.hok a _ ea)
    obtain ⟨o, h1, h2, _⟩ := p
    exact PySem.W.kia_one PySem.W.kitx_tuple I.kIn ⟨o, h1, h2⟩ e (fun z => nomatch z) h
  | @dK a kvs ea =>
    cases (show u = Value.ref a from rx)
    obtain ⟨_, _, vs, _, p⟩ := (show ObjOk X.prog X.w H s.heap a (.dK kvs) from I.hok a _ ea)
    obtain ⟨o, es, ep, h1, h2, _⟩ := p
    exact PySem.W.kia_one PySem.W.kitx_dict I.kIn ⟨o, h1, h2.1⟩ e (fun z => nomatch z) h
  | @dT a kvs ea =>
    cases (show u = Value.ref a from rx)
    obtain ⟨_, _, xs, _, o, es, ep, h1, h2, _⟩ := (show ObjOk X.prog X.w H s.heap a (.dT kvs) from I.hok a _ ea)
    exact PySem.W.kia_one PySem.W.kitx_dict I.kIn ⟨o, h1, h2.1⟩ e (fun z => nomatch z) h
  | @ins a C dx fs ea cl ha hn htk hm =>
    cases (show u = Value.ref a from rx)
    obtain ⟨mA, O, _⟩ := ins_get I.hok ea
    obtain ⟨od, J, _⟩ := O.look
    exact PySem.W.kia_one (PySem.W.kitx_own (cl.get _) cl.hd ha hn htk hm) I.kIn J e (fun z => nomatch z) h
end
end L2
namespace L2
open PySem PySem.Spec PyProof.Rows
structure Room (k : Nat) (A : Around) : Prop where
  hd : A.handled = none
  dp : A.depth + 3 * k + 5 < recursionLimit
  un : A.units + 16 * k + 200 < cLine
theorem Room.mono {j k : Nat} {A : Around} (r : Room k A) (h : j ≤ k) : Room j A := ⟨r.hd, by have := r.dp; omega, by have := r.un; omega⟩
theorem Room.deeper {k : Nat} {A : Around} (r : Room (k + 1) A) (env : Env) : Room k (A.deeper env) :=
  ⟨r.hd, by have := r.dp; show A.depth + 1 + 3 * k + 5 < _; omega, by have := r.un; show A.units + 3 + 16 * k + 200 < _; omega⟩
theorem make_depth {A : Around} {C : Addr} {us : List Value} {kw : List (Str × Value)} : (A.under (.builtin "type.__call__" ⟨.ref C :: us, kw⟩)).depth = A.depth + 1 := by
  first | rfl | simp [Around.under, Code.weight, Code.isCreation, Code.isGuard, Code.isCaller, Code.frames, Code.isFrame, guardIds]
theorem make_units {A : Around} {C : Addr} {us : List Value} {kw : List (Str × Value)} : (A.under (.builtin "type.__call__" ⟨.ref C :: us, kw⟩)).units = A.units + 1 := by
  first | rfl | simp [Around.under, Code.cUnits, Code.frames, Code.isFrame]
theorem Room.make {k : Nat} {A : Around} (r : Room (k + 1) A) (C : Addr) (us : List Value) (kw : List (Str × Value)) : Room k (A.under (.builtin "type.__call__" ⟨.ref C :: us, kw⟩)) :=
  ⟨r.hd, by have := r.dp; rw [make_depth]; omega, by have := r.un; rw [make_units]; omega⟩
theorem Room.depth {k : Nat} {A : Around} (r : Room k A) : A.depth < recursionLimit := by have := r.dp; omega
theorem Room.units {k : Nat} {A : Around} (r : Room k A) : A.units + 64 < cLine := by have := r.un; omega
def tNil : TA := fun _ H Q => Q [] H
def tCons (ta : TE) (tr : TA) : TA := fun σ H Q => ta σ H fun x H1 => tr σ H1 fun xs H2 => Q (x :: xs) H2
section
variable {X : Cx} {e : Expr} {es : List Expr} {te : TE} {t : TA} {pos : Pos}
theorem pa_nil : PA X [] tNil := fun _ _ _ _ H Q I h => Calls.spliced_nil ⟨[], H, I, .nil, h⟩
theorem pa_cons (ha : PE X e te) (hr : PA X es t) (hs : starEach (e :: es) X.env = (false, eval e X.env) :: starEach es X.env := by rfl) : PA X (e :: es) (tCons te t) := by
  intro pos pins s σ H Q I h
  rw [hs]
  show wpAny _ _ (spliced ((false, eval e X.env) :: backTo pos (starEach es X.env))) _ _ s
  refine Calls.spliced_cons (thn (ha pins s σ H _ I h) fun u s1 ⟨x, H1, I1, r1, q1⟩ => ?_)
  exact thn (hr pos pins s1 σ H1 _ I1 q1) fun us s2 ⟨xs, H2, I2, r2, q2⟩ => ⟨x :: xs, H2, I2, .cons r1 r2, q2⟩
def tTup (t : TA) : TE := fun σ H Q => t σ H fun xs H1 => xs.length ≤ sizeLine ∧ ∀ p, H1 p = none → Q (.ref p) (upd H1 p (.tup xs))
def tLst (t : TA) : TE := fun σ H Q => t σ H fun xs H1 => xs.length ≤ sizeLine ∧ ∀ p, H1 p = none → Q (.ref p) (upd H1 p (.lst xs))
theorem pe_tup {x1} (h : PA X es t) : PE X (.Tuple es x1 pos) (tTup t) := by
  intro pins s σ H Q I hq
  refine wpAny_Tuple_spliced (thn (h pos pins s σ H _ I hq) fun us s1 ⟨xs, H1, I1, r, z, q⟩ => ⟨by rw [← r.length]; exact z, ?_⟩)
  have hf : H1 s1.heap.objs.size = none := I1.hok.fresh (Nat.le_refl _)
  refine ⟨.ref s1.heap.objs.size, upd H1 s1.heap.objs.size (.tup xs), I1.laid (t' := s1.toks) (fun b u e => Heap.get?_push_of_some _ e) (Nat.le_refl _) ?_, rfl, q _ hf⟩
  exact ⟨z, us, r, ⟨_, Heap.get?_push_size _ rfl, rfl, _, rfl⟩⟩
theorem pe_lst (h : PA X es t) : PE X (.List es pos) (tLst t) := by
  intro pins s σ H Q I hq
  refine wpAny_List_spliced (thn (h pos pins s σ H _ I hq) fun us s1 ⟨xs, H1, I1, r, z, q⟩ => ⟨by rw [← r.length]; exact z, ?_⟩)
  have hf : H1 s1.heap.objs.size = none := I1.hok.fresh (Nat.le_refl _)
  refine ⟨.ref s1.heap.objs.size, upd H1 s1.heap.objs.size (.lst xs), I1.laid (t' := s1.toks) (fun b u e => Heap.get?_push_of_some _ e) (Nat.le_refl _) ?_, rfl, q _ hf⟩
  exact ⟨z, us, 0, r, Heap.get?_push_size _ rfl⟩
end
abbrev Sp := List V → Hp → VK → XK → Prop
abbrev CXT := List Env → Hp → Shared → XK → Value → Shared → Prop
structure Env0 (P : Program) (w : World) (K : PySem.W.Frag) (mg : Str → Option Value) (base : Heap) (A : Around) (outer : List Env) (s : Shared) (H : Hp) : Prop where
  frames : A.frames = some outer
  mod : Mod K mg base
  bs : ∀ b o, base.get? b = some o → s.heap.get? b = some o ∧ H b = none
  bsz : base.objs.size ≤ s.heap.objs.size
  funs : s.heap.FunFrames base outer
  frf : ∀ b ∈ frs outer, H b = none
  hok : HOk P w H s.heap
  bare : AllBare s.gens
def CE (outer : List Env) (P : Program) (w : World) (H : Hp) (s : Shared) (Q : VK) (u : Value) (s' : Shared) : Prop :=
  ∃ v H', s'.os = s.os ∧ AllBare s'.gens ∧ Un (frs outer) [] H H' s.heap s'.heap ∧ HOk P w H' s'.heap ∧ RelV v u ∧ Q v H'
def CR (CX : CXT) (outer : List Env) (P : Program) (w : World) (H : Hp) (s : Shared) (Q : VK) (E : XK) (r : Result) (s' : Shared) : Prop :=
  match r with
  | .ok (.ret u) => CE outer P w H s Q u s'
  | .ok _ => False
  | .error e => CX outer H s E e s'
structure FnOk (P : Program) (w : World) (K : PySem.W.Frag) (mg : Str → Option Value) (base : Heap) (CX : CXT) (k : Nat) (f : Addr) (fd : FuncData) (ps : List Str) (sp : Sp) : Prop where
  len : ∀ vs H Q E, sp vs H Q E → vs.length = ps.length
  run : ∀ (A : Around) (outer : List Env) (s : Shared) (H : Hp) (args : Args) (us : List Value) (vs : List V) (Q : VK) (E : XK), Room k A → Env0 P w K mg base A outer s H → BindsTo s fd args (ps.zip us) → Vals vs us → sp vs H Q E →
    codeAny (model P w) A (.call (.ref f) args) (CR CX outer P w H s Q E) s
theorem FnOk.mono {P : Program} {w : World} {K : PySem.W.Frag} {mg : Str → Option Value} {base : Heap} {CX : CXT} {j k : Nat} {f : Addr} {fd : FuncData} {ps : List Str} {sp : Sp} (F : FnOk P w K mg base CX j f fd ps sp) (h : j ≤ k) :
    FnOk P w K mg base CX k f fd ps sp := ⟨F.len, fun A outer s H args us vs Q E hr => F.run A outer s H args us vs Q E (hr.mono h)⟩
theorem FnOk.imp {P : Program} {w : World} {K : PySem.W.Frag} {mg : Str → Option Value} {base : Heap} {CX : CXT} {k : Nat} {f : Addr} {fd : FuncData} {ps : List Str} {sp sp' : Sp} (F : FnOk P w K mg base CX k f fd ps sp)
    (h : ∀ vs H Q E, sp' vs H Q E → sp vs H Q E) : FnOk P w K mg base CX k f fd ps sp' :=
  ⟨fun vs H Q E q => F.len vs H Q E (h _ _ _ _ q), fun A outer s H args us vs Q E hr he hb hv hs => F.run A outer s H args us vs Q E hr he hb hv (h _ _ _ _ hs)⟩
theorem Env0.make {P : Program} {w : World} {K : PySem.W.Frag} {mg : Str → Option Value} {base : Heap} {A : Around} {outer : List Env} {s : Shared} {H : Hp} (e : Env0 P w K mg base A outer s H) (C : Addr) (us : List Value) (kw : List (Str × Value)) :
    Env0 P w K mg base (A.under (.builtin "type.__call__" ⟨.ref C :: us, kw⟩)) outer s H := ⟨by first | exact e.frames | (simpa [Around.under, Code.envs, Code.isFrame, pushEnvs] using e.frames), e.mod, e.bs, e.bsz, e.funs, e.frf, e.hok, e.bare⟩
section
variable {X : Cx} {pins : List (Addr × Obj)} {σ : St} {H : Hp} {s s' : Shared}
theorem Inv.env0 (I : Inv X pins σ H s) : Env0 X.prog X.w X.K X.mg X.base X.A X.stack s H :=
  ⟨I.ok.frames, I.ok.mod, I.bs, Nat.le_trans I.ok.bsz I.sz, I.stack, I.stkFree, I.hok, I.bare⟩
theorem Inv.after {Q : VK} {u : Value} (I : Inv X pins σ H s) (h : CE X.stack X.prog X.w H s Q u s') : EP X pins σ Q u s' := by
  obtain ⟨v, H', os, bare, un, hok, r, q⟩ := h
  obtain ⟨hh, g, d, t, os'⟩ := s'
  obtain rfl : os' = s.os := os
  exact ⟨v, H', I.call (h' := hh) (g' := g) (d' := d) (t' := t) (ch := []) un hok bare (fun b z => absurd z (by simp)), r, q⟩
end
def tCall (sp : Sp) (dvs : List V) (E : XK) (t : TA) : TE := fun σ H Q => t σ H fun vs H1 => sp (vs ++ dvs) H1 Q E
def tMake (C : Addr) (sp : Sp) (dvs : List V) (E : XK) (t : TA) : TE := fun σ H Q => t σ H fun vs H1 => ∀ x dx, H1 x = none → H1 dx = none → dx ≠ x →
  sp (.ref x :: (vs ++ dvs)) (upd (upd H1 dx (.own x)) x (.ins C dx [])) (fun v H2 => v = .non ∧ Q (.ref x) H2) E
def Binds (K : PySem.W.Frag) (fd : FuncData) (ps : List Str) (ds : List Value) : Prop :=
  ∀ (s : Shared) (us : List Value), K.In s.heap → (us ++ ds).length = ps.length → BindsTo s fd ⟨us, []⟩ (ps.zip (us ++ ds))
theorem Binds.all {K : PySem.W.Frag} {fd : FuncData} {ps : List Str} (h : ∀ us : List Value, us.length = ps.length → bindArgs fd ⟨us, []⟩ = pure (ps.zip us)) : Binds K fd ps [] := fun s us _ hl => by
  rw [List.append_nil] at hl ⊢
  exact .of_eq (h us hl)
def Passes (CX : CXT) (X : Cx) (E : XK) : Prop := ∀ (pins : List (Addr × Obj)) (σ : St) (H : Hp) (s : Shared) (e : Value) (s' : Shared), Inv X pins σ H s → CX X.stack H s E e s' → X.xe e s'
section
variable {X : Cx} {CX : CXT} {k : Nat} {f C : Addr} {fd : FuncData} {ps : List Str} {sp : Sp} {dvs : List V} {ds : List Value} {E : XK} {x m : Str} {p pos apos : Pos} {e o : Expr} {es : List Expr} {ta : TE} {t : TA}
theorem run_fn {pins : List (Addr × Obj)} {σ : St} {H : Hp} {s : Shared} {Q : VK} {us : List Value} {vs : List V} (F : FnOk X.prog X.w X.K X.mg X.base CX k f fd ps sp) (hr : Room k X.A) (hb : Binds X.K fd ps ds) (hd : Vals dvs ds) (hx : Passes CX X E)
    (I : Inv X pins σ H s) (r : Vals vs us) (h : sp (vs ++ dvs) H Q E) : wpAny (model X.prog X.w) X.A (call (.ref f) us) (EP X pins σ Q) X.xe s := by
  have r2 : Vals (vs ++ dvs) (us ++ ds) := r.append hd
  have hl : (us ++ ds).length = ps.length := by rw [← r2.length]; exact F.len _ _ _ _ h
  refine wpAny_call (codeAny_mono (F.run X.A X.stack s H ⟨us, []⟩ (us ++ ds) (vs ++ dvs) Q E hr I.env0 (hb s us I.kIn hl) r2 h) fun r s' hq => ?_)
  cases r with
  | error e => exact hx pins σ H s e s' I hq
  | ok fl =>
    cases fl with
    | ret u => exact I.after hq
    | next => exact False.elim hq
    | brk => exact False.elim hq
    | cont => exact False.elim hq
theorem pe_call (F : FnOk X.prog X.w X.K X.mg X.base CX k f fd ps sp) (hr : Room k X.A) (hg : Gl X x) (hm : X.mg x = some (.ref f)) (hk : PySem.W.keepIn X.K (.ref f) = true) (hb : Binds X.K fd ps ds) (hd : Vals dvs ds) (hx : Passes CX X E)
    (ha : PA X (e :: es) t) (hdb : (x == ("__debug__" : Str)) = false := by decide) (he : starEach (e :: es) X.env = (false, eval e X.env) :: starEach es X.env := by rfl) (hpl : (backTo pos (starEach es X.env)).any (·.1) = false := by rfl) :
    PE X (.Call (.Name x p) (e :: es) [] pos) (tCall sp dvs E t) := by
  intro pins s σ H Q I h
  refine wpAny_Call_Name_kw (ld_glob I hg hm ?_ hdb)
  refine PySem.W.callWith_K (h₀ := X.base) I.ok.mod.kin hk (thn (ha pos pins s σ H _ I h) fun us s1 ⟨vs, H1, I1, r, q⟩ => ⟨I1.kIn, ?_⟩) he hpl
  exact run_fn F hr hb hd hx I1 r q
structure Mk (K : PySem.W.Frag) (C f : Addr) : Prop where
  makes : PySem.W.makesIn K C = true
  init : PySem.W.findIn K (.ref C) "__init__" = some (some (.ref f))
  fn : PySem.W.isFn K (.ref f) = true
  kp : PySem.W.keepIn K (.ref C) = true
theorem run_make {pins : List (Addr × Obj)} {σ : St} {H : Hp} {s : Shared} {Q : VK} {us : List Value} {vs : List V} (M : Mk X.K C f) (F : FnOk X.prog X.w X.K X.mg X.base CX k f fd ps sp) (hr : Room (k + 1) X.A) (hb : Binds X.K fd ps ds) (hd : Vals dvs ds)
    (hx : Passes CX X E) (I : Inv X pins σ H s) (r : Vals vs us)
    (h : ∀ x dx, H x = none → H dx = none → dx ≠ x → sp (.ref x :: (vs ++ dvs)) (upd (upd H dx (.own x)) x (.ins C dx [])) (fun v H2 => v = .non ∧ Q (.ref x) H2) E) :
    wpAny (model X.prog X.w) X.A (call (.ref C) us) (EP X pins σ Q) X.xe s := by
  have hq := h (s.heap.objs.size + 1) s.heap.objs.size (I.hok.fresh (Nat.le_succ _)) (I.hok.fresh (Nat.le_refl _)) (Nat.ne_of_lt (Nat.lt_succ_self _))
  have I2 := Inv.made (C := C) I
  have r2 : Vals (V.ref (s.heap.objs.size + 1) :: (vs ++ dvs)) (Value.ref (s.heap.objs.size + 1) :: (us ++ ds)) := .cons rfl (r.append hd)
  have hl : (Value.ref (s.heap.objs.size + 1) :: us ++ ds).length = ps.length := by
    have e := r2.length
    rw [F.len _ _ _ _ hq] at e
    exact e.symm
  refine wpAny_call (make_map (f := f) I.kIn M.makes M.init (beq_iff_eq.mp M.fn) (codeAny_mono (F.run _ X.stack _ _ ⟨Value.ref (s.heap.objs.size + 1) :: us, []⟩ (Value.ref (s.heap.objs.size + 1) :: (us ++ ds)) _ _ E (hr.make C us [])
    (I2.env0.make C us []) (hb _ (Value.ref (s.heap.objs.size + 1) :: us) I2.kIn hl) r2 hq) fun r s' hq' => ?_))
  cases r with
  | error e => exact hx pins σ _ _ e s' I2 hq'
  | ok fl =>
    cases fl with
    | ret u =>
      obtain ⟨v, H', I3, rv, ev, q3⟩ := I2.after hq'
      subst ev
      exact ⟨rv, ⟨V.ref (s.heap.objs.size + 1), H', I3, rfl, q3⟩⟩
    | next => exact False.elim hq'
    | brk => exact False.elim hq'
    | cont => exact False.elim hq'
theorem pe_make (M : Mk X.K C f) (F : FnOk X.prog X.w X.K X.mg X.base CX k f fd ps sp) (hr : Room (k + 1) X.A) (hg : Gl X x) (hm : X.mg x = some (.ref C)) (hb : Binds X.K fd ps ds) (hd : Vals dvs ds) (hx : Passes CX X E)
    (ha : PA X (e :: es) t) (hdb : (x == ("__debug__" : Str)) = false := by decide) (he : starEach (e :: es) X.env = (false, eval e X.env) :: starEach es X.env := by rfl) (hpl : (backTo pos (starEach es X.env)).any (·.1) = false := by rfl) :
    PE X (.Call (.Name x p) (e :: es) [] pos) (tMake C sp dvs E t) := by
  intro pins s σ H Q I h
  refine wpAny_Call_Name_kw (ld_glob I hg hm ?_ hdb)
  refine PySem.W.callWith_K (h₀ := X.base) I.ok.mod.kin M.kp (thn (ha pos pins s σ H _ I h) fun us s1 ⟨vs, H1, I1, r, q⟩ => ⟨I1.kIn, ?_⟩) he hpl
  exact run_make M F hr hb hd hx I1 r q
theorem pe_make0 (M : Mk X.K C f) (F : FnOk X.prog X.w X.K X.mg X.base CX k f fd ps sp) (hr : Room (k + 1) X.A) (hg : Gl X x) (hm : X.mg x = some (.ref C)) (hb : Binds X.K fd ps ds) (hd : Vals dvs ds) (hx : Passes CX X E)
    (hdb : (x == ("__debug__" : Str)) = false := by decide) : PE X (.Call (.Name x p) [] [] pos) (tMake C sp dvs E tNil) := by
  intro pins s σ H Q I h
  refine wpAny_Call_Name_kw (ld_glob I hg hm ?_ hdb)
  exact PySem.W.callWith_K0 I.kIn M.kp (run_make (us := []) M F hr hb hd hx I .nil h)
end
section
variable {X : Cx} {CX : CXT} {k : Nat} {f C : Addr} {fd : FuncData} {ps ks : List Str} {sp : Sp} {E : XK} {x m : Str} {p pos apos kpos : Pos} {e o : Expr} {es : List Expr} {kws : List Keyword} {te ta : TE} {t tk : TA} {nm : Option Str}
variable {g : List Value → List Value → List Value} {gV : List V → List V → List V}
end
structure FnScope (N P : List Str) (sc : Scope) : Prop where
  kind : sc.kind = .function
  co : sc.isCoroutine = false
  gen : sc.isGenerator = false
  nd : N.Nodup
  pre : N.take P.length = P
  par : ∀ x ∈ P, sc.names.lookup x = some .local ∨ sc.names.lookup x = some .cell
  nofree : ∀ y ∈ sc.names, y.2 ≠ .free
theorem bindL_out {kindOf : Str → Option NameKind} {x : Str} : ∀ {binds : List (Str × Value)} {m : Str → Option Value}, (∀ v, (x, v) ∉ binds) → bindL kindOf binds m x = m x
  | [], _, _ => rfl
  | (n, v) :: r, m, h => by
    unfold bindL
    rw [bindL_out fun w hw => h w (List.mem_cons_of_mem _ hw)]
    split
    · have : x ≠ n := by rintro rfl; exact h v List.mem_cons_self
      simp [this]
    · rfl
theorem bindC_out {kindOf : Str → Option NameKind} {x : Str} : ∀ {binds : List (Str × Value)} {m : Str → Option Value}, (∀ v, (x, v) ∉ binds) → bindC kindOf binds m x = m x
  | [], _, _ => rfl
  | (n, v) :: r, m, h => by
    unfold bindC
    rw [bindC_out fun w hw => h w (List.mem_cons_of_mem _ hw)]
    split
    · rfl
    · have : x ≠ n := by rintro rfl; exact h v List.mem_cons_self
      simp [this]
theorem bindL_get {kindOf : Str → Option NameKind} {x : Str} {v : Value} : ∀ {P : List Str} {vs : List Value} {i : Nat} {m : Str → Option Value}, P.Nodup → P[i]? = some x → vs[i]? = some v → kindOf x = some .local →
    bindL kindOf (P.zip vs) m x = some v
  | [], _, _, _, _, h, _, _ => by simp at h
  | _ :: _, [], _, _, _, _, h, _ => by simp at h
  | p :: P, w :: vs, 0, m, nd, h1, h2, hk => by
    simp at h1 h2; subst h1; subst h2
    show bindL kindOf ((p, w) :: P.zip vs) m p = _
    unfold bindL
    rw [bindL_out fun v hv => (List.nodup_cons.mp nd).1 (List.of_mem_zip hv).1, if_pos hk]
    simp
  | p :: P, w :: vs, i + 1, m, nd, h1, h2, hk => by
    show bindL kindOf ((p, w) :: P.zip vs) m x = _
    unfold bindL
    exact bindL_get (i := i) (List.nodup_cons.mp nd).2 (by simpa using h1) (by simpa using h2) hk
theorem bindC_get {kindOf : Str → Option NameKind} {x : Str} {v : Value} : ∀ {P : List Str} {vs : List Value} {i : Nat} {m : Str → Option Value}, P.Nodup → P[i]? = some x → vs[i]? = some v → kindOf x ≠ some .local →
    bindC kindOf (P.zip vs) m x = some v
  | [], _, _, _, _, h, _, _ => by simp at h
  | _ :: _, [], _, _, _, _, h, _ => by simp at h
  | p :: P, w :: vs, 0, m, nd, h1, h2, hk => by
    simp at h1 h2; subst h1; subst h2
    show bindC kindOf ((p, w) :: P.zip vs) m p = _
    unfold bindC
    rw [bindC_out fun v hv => (List.nodup_cons.mp nd).1 (List.of_mem_zip hv).1, if_neg hk]
    simp
  | p :: P, w :: vs, i + 1, m, nd, h1, h2, hk => by
    show bindC kindOf ((p, w) :: P.zip vs) m x = _
    unfold bindC
    exact bindC_get (i := i) (List.nodup_cons.mp nd).2 (by simpa using h1) (by simpa using h2) hk
def start (N : List Str) (vs : List V) : St := vs.map some ++ List.replicate (N.length - vs.length) none
def cxOf (CX : CXT) (P : Program) (w : World) (K : PySem.W.Frag) (mg : Str → Option Value) (base : Heap) (N : List Str) (qual : Str) (scope : Scope) (f : Addr) (cd : Value) (A : Around) (outer : List Env) (s : Shared) (H : Hp) (E : XK) : Cx where
  prog := P
  w := w
  K := K
  mg := mg
  base := base
  A := A.deeper (envOfC qual scope s.heap.objs.size f cd)
  N := N
  s₀ := s
  H₀ := H
  env := envOfC qual scope s.heap.objs.size f cd
  outer := outer
  stack := envOfC qual scope s.heap.objs.size f cd :: outer
  ex := []
  calm := true
  fn := fun _ => true
  pn := []
  xe := fun e s' => wpAny (model P w) (A.deeper (envOfC qual scope s.heap.objs.size f cd)) («leaving» (envOfC qual scope s.heap.objs.size f cd) e) (fun _ s'' => CX outer H s E e s'') (fun e' s'' => CX outer H s E e' s'') s'
theorem cell_has {sc : Scope} {n : Nat} {x : Str} (h : sc.names.lookup x = some .cell) : ∃ c, (cellsFrom n sc.names []).lookup x = some c := by
  have q := PySem.W.cellsFrom_some sc.names n [] (.inl h)
  exact Option.isSome_iff_exists.mp q
theorem inv_start {CX : CXT} {P : Program} {w : World} {K : PySem.W.Frag} {mg : Str → Option Value} {base : Heap} {N ps : List Str} {qual : Str} {scope : Scope} {f : Addr} {cd : Value} {A : Around} {outer : List Env} {s s1 : Shared} {H : Hp} {E : XK} {us : List Value} {vs : List V}
    (S : FnScope N ps scope) (hd : A.handled = none) (e0 : Env0 P w K mg base A outer s H) (hl : vs.length = ps.length) (r : Vals vs us)
    (x : InCallC s s.heap.objs.size (bindL (envOfC qual scope s.heap.objs.size f cd).kindOf (ps.zip us) fun _ => none) (cellsFrom (s.heap.objs.size + 1) scope.names []) (bindC (envOfC qual scope s.heap.objs.size f cd).kindOf (ps.zip us) fun _ => none) s1) :
    Inv (cxOf CX P w K mg base N qual scope f cd A outer s H E) [] (start N vs) H s1 := by
  have hpl : ps.length ≤ N.length := by have := congrArg List.length S.pre; rw [List.length_take] at this; omega
  obtain ⟨h1, tk, rfl, hk⟩ := x.done
  have noA : ∀ b : Addr, b ∉ (cxOf CX P w K mg base N qual scope f cd A outer s H E).ex := fun b z => absurd (show b ∈ ([] : List Addr) from z) (by simp)
  refine ⟨⟨e0.mod, S.kind, rfl, rfl, Nat.le_refl _, fun y z c h1 h2 => ?_, fun y hy => ?_, fun y c _ h => ?_, fun _ => hd, Around.frames_deeper e0.frames, .inr ⟨rfl, rfl⟩, fun b z => absurd z (noA b), e0.bs, e0.bsz, fun b _ _ => noA b, fun b z => absurd z (noA b), e0.funs, e0.frf⟩,
    rfl, e0.bare, Un.kept hk, ⟨_, x.toInCall.ns, fun i y v h1 h2 h3 => ?_⟩, fun y c h => ⟨_, x.cell y c h⟩, e0.hok.fresh (Nat.le_refl _), fun y c h => ?_, fun p hp => absurd (show p ∈ ([] : List (Addr × Obj)) from hp) (by simp), e0.hok.kept hk, ?_⟩
  · exact name_of_addr x.apart (PySem.mem_of_lookup h1) (PySem.mem_of_lookup h2)
  · have hy : scope.names.lookup y = some .cell ∨ scope.names.lookup y = some .free := hy
    rcases hy with hy | hy
    · exact cell_has hy
    · exact absurd rfl (S.nofree _ (PySem.mem_of_lookup hy))
  · exact Nat.le_of_lt (x.above y c (PySem.mem_of_lookup h))
  · have hi : i < vs.length := by
      unfold start at h2
      by_cases hi : i < vs.length
      · exact hi
      · rw [List.getElem?_append_right (by simpa using hi)] at h2
        rw [List.getElem?_replicate] at h2
        split at h2 <;> cases h2
    have ha : vs[i]? = some v := by
      unfold start at h2
      rw [List.getElem?_append_left (by simpa using hi), List.getElem?_map] at h2
      cases e : vs[i]? with
      | none => rw [e] at h2; cases h2
      | some a => rw [e] at h2; cases h2; rfl
    obtain ⟨u, hu, rv⟩ := r.get ha
    have hp : ps[i]? = some y := by
      rw [← S.pre, List.getElem?_take_of_lt (by omega)]; exact h1
    have ndP : ps.Nodup := by rw [← S.pre]; exact S.nd.sublist (List.take_sublist _ _)
    refine ⟨u, rv, ?_⟩
    rcases S.par y (List.mem_of_getElem? hp) with k | k
    · exact .inl ⟨k, bindL_get ndP hp hu k⟩
    · obtain ⟨c, e⟩ := cell_has (n := s.heap.objs.size + 1) k
      refine .inr ⟨.inl k, c, e, ?_⟩
      have q := x.cell y c e
      rw [bindC_get ndP hp hu (by show scope.names.lookup y ≠ _; rw [k]; decide)] at q
      exact q
  · exact e0.hok.fresh (Nat.le_of_lt (x.above y c (PySem.mem_of_lookup h)))
  · unfold start
    show _ = N.length
    rw [List.length_append, List.length_map, List.length_replicate]
    omega
theorem fn_of {CX : CXT} {P : Program} {w : World} {K : PySem.W.Frag} {mg : Str → Option Value} {base : Heap} {k : Nat} {f : Addr} {name qual : Str} {params : Arguments} {body : List Stmt} {scope : Scope} {dV kV doc pm cdv ct oc : Value} {an od : Option Addr}
    {osl : Array (Option Value)} {N ps : List Str} {sp : Sp} (lk : K.lookup f = some ⟨oc, od, .func (PySem.W.fnOf name qual params body scope dV kV doc pm an cdv ct), osl⟩) (hcd : PySem.W.codeIn K cdv qual = true) (S : FnScope N ps scope)
    (len : ∀ vs H Q E, sp vs H Q E → vs.length = ps.length)
    (hbody : ∀ (A : Around) (outer : List Env) (s : Shared) (H : Hp) (vs : List V) (Q : VK) (E : XK), Room k (A.deeper (envOfC qual scope s.heap.objs.size f cdv)) → sp vs H Q E →
      ∃ t, PSs (cxOf CX P w K mg base N qual scope f cdv A outer s H E) body t ∧ t { nx := fun _ H' => Q .non H', rt := Q } (start N vs) H) :
    FnOk P w K mg base CX (k + 1) f (PySem.W.fnOf name qual params body scope dV kV doc pm an cdv ct) ps sp := by
  refine ⟨len, fun A outer s H args us vs Q E hr e0 hb r hsp => ?_⟩
  have hl := len _ _ _ _ hsp
  have KX : K.In s.heap := e0.mod.kin.keeps fun b o e => (e0.bs b o e).1
  have lim : s.heap.NoLimit := e0.mod.nolimit.keeps fun b o e => (e0.bs b o e).1
  have hkind : ∀ y ∈ ps.zip us, scope.names.lookup y.1 = some .local ∨ (scope.names.lookup y.1 = some .cell ∧ ((cellsFrom (s.heap.objs.size + 1) scope.names []).lookup y.1).isSome = true) := fun ⟨n, v⟩ hy => by
    rcases S.par n (List.of_mem_zip hy).1 with q | q
    · exact .inl q
    · exact .inr ⟨q, PySem.W.cellsFrom_some _ _ _ (.inl q)⟩
  refine codeAny_call_function hr.depth (KX _ _ lk) rfl S.co S.gen rfl (PySem.W.codeRec_of KX hcd) (hb _ _ _ _ ?_)
  refine wpAny_newFunctionEnv_cells S.kind hkind fun env he s1 x => ?_
  subst he
  refine ⟨lim.keeps x.toInCall.keep, codeAny_func ?_⟩
  obtain ⟨t, ht, hq⟩ := hbody A outer s H vs Q E (hr.deeper _) hsp
  have I : Inv (cxOf CX P w K mg base N qual scope f cdv A outer s H E) [] (start N vs) H s1 := inv_start S hr.hd e0 hl r x
  refine wpAny_mono (ht [] s1 (start N vs) H _ I hq) (fun fl s' hs => ?_) fun e s' hs => hs
  have fin : ∀ {σ' : St} {H' : Hp} {v : V} {u : Value}, Inv (cxOf CX P w K mg base N qual scope f cdv A outer s H E) [] σ' H' s' → RelV v u → Q v H' → CE outer P w H s Q u s' :=
    fun {σ' H' v u} J rv q => ⟨v, H', J.os, J.bare, J.base, J.hok, rv, q⟩
  cases fl with
  | ret u =>
    obtain ⟨v, σ', H', J, rv, q⟩ := hs
    exact fin J rv q
  | next =>
    obtain ⟨σ', H', J, q⟩ := hs
    exact fin (v := V.non) (u := Value.none) J rfl q
  | brk =>
    obtain ⟨_, _, _, q⟩ := hs
    exact False.elim q
  | cont =>
    obtain ⟨_, _, _, q⟩ := hs
    exact False.elim q
end L2
namespace L2
open PySem PySem.Spec PyProof.Rows
section
variable {X : Cx} {x : Str} {p pos : Pos} {e : Expr} {es : List Expr} {t : TA} {id T : String} {r : List V → Hp → VK → Prop}
def tCB (r : List V → Hp → VK → Prop) (t : TA) : TE := fun σ H Q => t σ H fun vs H1 => r vs H1 Q
theorem pe_callB (hc : CallR X (.builtin id) r) (hg : Gl X x) (hm : X.mg x = none) (hv : bootBuiltins x = some (.builtin id)) (ha : PA X (e :: es) t) (hn : x ≠ "__name__" := by decide) (hdb : (x == ("__debug__" : Str)) = false := by decide)
    (he : starEach (e :: es) X.env = (false, eval e X.env) :: starEach es X.env := by rfl) (hpl : (backTo pos (starEach es X.env)).any (·.1) = false := by rfl) : PE X (.Call (.Name x p) (e :: es) [] pos) (tCB r t) := by
  intro pins s σ H Q I h
  refine wpAny_Call_Name_kw (ld_blt I hg hm hv ?_ hn hdb)
  exact PyProof.Rows.callWith_builtin1 (thn (ha pos pins s σ H _ I h) fun us s1 ⟨vs, H1, I1, r1, q1⟩ => hc pins s1 σ H1 vs us Q I1 r1 q1) he hpl
theorem pe_callTy (hc : CallR X (.type T) r) (hg : Gl X x) (hm : X.mg x = none) (hv : bootBuiltins x = some (.type T)) (ha : PA X (e :: es) t) (hn : x ≠ "__name__" := by decide) (hdb : (x == ("__debug__" : Str)) = false := by decide)
    (he : starEach (e :: es) X.env = (false, eval e X.env) :: starEach es X.env := by rfl) (hpl : (backTo pos (starEach es X.env)).any (·.1) = false := by rfl) : PE X (.Call (.Name x p) (e :: es) [] pos) (tCB r t) := by
  intro pins s σ H Q I h
  refine wpAny_Call_Name_kw (ld_blt I hg hm hv ?_ hn hdb)
  exact PyProof.Rows.callWith_type1 (thn (ha pos pins s σ H _ I h) fun us s1 ⟨vs, H1, I1, r1, q1⟩ => hc pins s1 σ H1 vs us Q I1 r1 q1) he hpl
end
end L2
namespace HT
open PySem PyProof.Rows
section
open PySem.SeqAt
open PySem.AutoSeq1 (wpAny_loadPart')
open PySem.MeetsSeq PySem.MeetsSeq2 PySem.MeetsSeq3
end
section
variable {prog : Program} {w : World} {A : Around} {E : Value → Shared → Prop} {s : Shared}
def sIx (n d : Nat) : Option Int → Nat
  | none => d
  | some v => if v < 0 then (v + (n : Int)).toNat else min v.toNat n
theorem sIx_nat (n d k : Nat) : sIx n d (some (k : Int)) = min k n := by
  show (if (k : Int) < 0 then ((k : Int) + (n : Int)).toNat else min (k : Int).toNat n) = min k n
  rw [if_neg (by omega), Int.toNat_natCast]
end
end HT
namespace L2
open PySem PySem.Spec PyProof.Rows
abbrev TO := St → Hp → (Option Int → Hp → Prop) → Prop
def PO (X : Cx) (e : Option Expr) (t : TO) : Prop :=
  ∀ (pins : List (Addr × Obj)) (s : Shared) (σ : St) (H : Hp) (Q : Option Int → Hp → Prop), Inv X pins σ H s → t σ H Q →
    wpAny (model X.prog X.w) X.A (evalPart e X.env) (fun u s' => ∃ o H', Inv X pins σ H' s' ∧ IsPart u o ∧ Q o H') X.xe s
def tNoPart : TO := fun _ H Q => Q none H
def tPart (t : TE) : TO := fun σ H Q => t σ H fun x H1 => ∃ i, x = .int i ∧ Q (some i) H1
theorem intsAre_of {ns : List Int} : ∀ {us : List Value}, Vals (ns.map V.int) us → IntsAre us ns := by
  induction ns with
  | nil => intro us r; rw [List.map_nil] at r; cases r; exact .nil
  | cons n ns ih =>
    intro us r
    rw [List.map_cons] at r
    cases r with
    | cons r1 r2 =>
      obtain ⟨t, e⟩ := r1
      subst e
      exact .cons n t (ih r2)
section
variable {X : Cx} {e : Expr} {te : TE} {lo hi : Option Expr} {tl th : TO} {pos p2 : Pos}
theorem po_none : PO X none tNoPart := by
  intro pins s σ H Q I h
  rw [evalPart_none]
  exact wpAny_pure ⟨none, H, I, .none, h⟩
theorem po_some (h : PE X e te) : PO X (some e) (tPart te) := by
  intro pins s σ H Q I hw
  rw [evalPart_some]
  refine thn (h pins s σ H _ I hw) fun u s1 ⟨x, H1, I1, r1, q1⟩ => ?_
  obtain ⟨i, rfl, q⟩ := q1
  obtain ⟨t, rfl⟩ := r1
  exact ⟨some i, H1, I1, .int i t, q⟩
def SlR (X : Cx) (r : V → Option Int → Option Int → Hp → VK → Prop) : Prop :=
  ∀ (pins : List (Addr × Obj)) (s : Shared) (σ : St) (H : Hp) (x : V) (v vl vu : Value) (lo hi : Option Int) (sl : Addr) (Q : VK), Inv X pins σ H s → RelV x v → s.heap.IsSliceOf sl vl vu .none → IsPart vl lo → IsPart vu hi → r x lo hi H Q →
    ∃ T id, typeLookup (.type T) "__getitem__" = pure (some (.builtin id)) ∧ s.TypeIs v T ∧ wpAny (model X.prog X.w) X.A (getItem v (.ref sl)) (EP X pins σ Q) X.xe s
def tSl (r : V → Option Int → Option Int → Hp → VK → Prop) (te : TE) (tl th : TO) : TE := fun σ H Q => te σ H fun x H1 => tl σ H1 fun l H2 => th σ H2 fun u H3 => r x l u H3 Q
theorem pe_slice {r : V → Option Int → Option Int → Hp → VK → Prop} (hr : SlR X r) (he : PE X e te) (hl : PO X lo tl) (hu : PO X hi th) : PE X (.Subscript e (.Slice lo hi none p2) pos) (tSl r te tl th) := by
  intro pins s σ H Q I h
  refine Subscript_ (thn (he pins s σ H _ I h) fun v s1 ⟨x, H1, I1, r1, q1⟩ => ?_)
  refine wpAny_Slice (thn (hl pins s1 σ H1 _ I1 q1) fun vl s2 ⟨l, H2, I2, pl, q2⟩ => thn (hu pins s2 σ H2 _ I2 q2) fun vu s3 ⟨u, H3, I3, pu, q3⟩ => ?_)
  rw [evalPart_none]
  refine wpAny_pure ?_
  have I4 : Inv X pins σ H3 { s3 with heap := s3.heap.push { cls := .type "slice", data := .fields #[vl, vu, .none] } } := I3.kept (t' := s3.toks) fun b ob q => Heap.get?_push_of_some _ q
  obtain ⟨T, id, hT, ht, hg⟩ := hr pins { s3 with heap := s3.heap.push { cls := .type "slice", data := .fields #[vl, vu, .none] } } σ H3 x v vl vu l u s3.heap.objs.size Q I4 r1 (Heap.IsSliceOf.new ..) pl pu q3
  show wpAny (model X.prog X.w) X.A (subscriptTail e (.Slice lo hi none p2) v (.ref s3.heap.objs.size)) (EP X pins σ Q) X.xe { s3 with heap := s3.heap.push { cls := .type "slice", data := .fields #[vl, vu, .none] } }
  exact tail_any (ops := [.ref s3.heap.objs.size, v]) ht hT hg (by with_unfolding_all rfl)
def cutV (xs : List V) (lo hi : Option Int) : List V := (xs.drop (HT.sIx xs.length 0 lo)).take (HT.sIx xs.length xs.length hi - HT.sIx xs.length 0 lo)
theorem cutV_length (xs : List V) (lo hi : Option Int) : (cutV xs lo hi).length ≤ xs.length := by
  unfold cutV
  rw [List.length_take, List.length_drop]
  omega
end
end L2
namespace L2
open PySem PySem.Spec PyProof.Rows
def ixN (n : Nat) (i : Int) : Option Nat := if 0 ≤ i then (if i < n then some i.toNat else none) else if -(n : Int) ≤ i then some (i + n).toNat else none
def atI {α : Type} (xs : List α) (i : Int) : Option α := (ixN xs.length i).bind fun j => xs[j]?
theorem ixN_seq {n : Nat} {i : Int} {j : Nat} (h : ixN n i = some j) : seqIndex? i n = some j ∧ j < n ∧ -(n : Int) ≤ i ∧ i < n := by
  unfold ixN at h
  by_cases h0 : 0 ≤ i
  · rw [if_pos h0] at h
    by_cases h1 : i < n
    · rw [if_pos h1] at h
      have e : i.toNat = j := Option.some.inj h
      exact ⟨by rw [seqIndex_of h0 h1, e], by omega, by omega, h1⟩
    · rw [if_neg h1] at h; cases h
  · rw [if_neg h0] at h
    by_cases h1 : -(n : Int) ≤ i
    · rw [if_pos h1] at h
      have e : (i + n).toNat = j := Option.some.inj h
      exact ⟨by rw [seqIndex_neg (by omega) h1, e], by omega, h1, by omega⟩
    · rw [if_neg h1] at h; cases h
theorem atI_get {α : Type} {xs : List α} {i : Int} {v : α} (h : atI xs i = some v) : ∃ j, seqIndex? i xs.length = some j ∧ xs[j]? = some v ∧ j < xs.length ∧ -(xs.length : Int) ≤ i ∧ i < xs.length := by
  unfold atI at h
  cases e : ixN xs.length i with
  | none => rw [e] at h; cases h
  | some j =>
    rw [e] at h
    obtain ⟨h1, h2, h3, h4⟩ := ixN_seq e
    exact ⟨j, h1, h, h2, h3, h4⟩
theorem atI_nat {α : Type} {xs : List α} {j : Nat} {v : α} (h : xs[j]? = some v) : atI xs (j : Int) = some v := by
  have hj : j < xs.length := (List.getElem?_eq_some_iff.mp h).1
  have e : ixN xs.length (j : Int) = some j := by
    unfold ixN
    rw [if_pos (by omega), if_pos (by omega)]; simp
  unfold atI; rw [e]; exact h
def PlainIx (b : Expr) : Prop := ∀ o i, subscripted b false o i = operate [o, i] (getItem o i)
def IxR (X : Cx) (r : R2) : Prop :=
  ∀ (value slice : Expr) (pins : List (Addr × Obj)) (s : Shared) (σ : St) (H : Hp) (x y : V) (v u : Value) (Q : VK), Inv X pins σ H s → RelV x v → RelV y u → r x y H Q →
    subscripted slice false v u = operate [v, u] (getItem v u) → wpAny (model X.prog X.w) X.A (subscriptTail value slice v u) (EP X pins σ Q) X.xe s
def MtR (X : Cx) (id : String) (r : V → List V → Hp → VK → Prop) : Prop :=
  ∀ (pins : List (Addr × Obj)) (s : Shared) (σ : St) (H : Hp) (x : V) (xs : List V) (v : Value) (us : List Value) (Q : VK), Inv X pins σ H s → RelV x v → Vals xs us → r x xs H Q →
    wpAny (model X.prog X.w) X.A (call (.builtin id) (v :: us)) (EP X pins σ Q) X.xe s
section
variable {X : Cx} {a b : Expr} {ta tb : TE} {pos : Pos}
theorem pe_ix {r : R2} (hr : IxR X r) (ha : PE X a ta) (hb : PE X b tb) (hs : PlainIx b) : PE X (.Subscript a b pos) (tOp r ta tb) := by
  intro pins s σ H Q I h
  exact Subscript_ (binT ha hb I h fun v u s2 x y H2 I2 rx ry q => hr a b pins s2 σ H2 x y v u Q I2 rx ry q (hs _ _))
def rIxL (K : PySem.W.Frag) : R2 := fun x y H Q => ∃ p xs i v, x = .ref p ∧ y = .int i ∧ SqL K H p xs ∧ atI xs i = some v ∧ Q v H
def rIxT (K : PySem.W.Frag) : R2 := fun x y H Q => ∃ p xs i v, x = .ref p ∧ y = .int i ∧ SqT K H p xs ∧ atI xs i = some v ∧ Q v H
def rIxS : R2 := fun x y H Q => ∃ z i c, x = .str z ∧ y = .int i ∧ z.length ≤ sizeLine ∧ atI z.cps.toList i = some c ∧ Q (.str ⟨#[c]⟩) H
theorem ix_list : IxR X (rIxL X.K) := by
  intro value slice pins s σ H x y v u Q I rx ry h hs
  obtain ⟨p, xs, i, z, rfl, rfl, hq, he, q⟩ := h
  cases rx
  obtain ⟨t, rfl⟩ := ry
  obtain ⟨its, r, pl, hz⟩ := I.list hq
  obtain ⟨j, h1, h2, h3, h4, h5⟩ := atI_get he
  obtain ⟨w, ew, rw'⟩ := r.get h2
  have hl := r.length
  have hn := line63
  have fin : EP X pins σ Q w s := ⟨z, H, I, rw', q⟩
  by_cases h0 : 0 ≤ i
  · have hj : i.toNat = j := by
      rw [seqIndex_of h0 h5] at h1
      exact Option.some.inj h1
    exact item_listR pl.isList h0 (by omega) (by rw [hj]; simpa using ew) fin hs
  · have hj : (i + (its.toArray.size : Int)).toNat = j := by
      rw [seqIndex_neg (by omega) h4] at h1
      rw [List.size_toArray, ← hl]
      exact Option.some.inj h1
    exact subscriptTail_builtinR (x := w) pl.isList.typeIs slot_list_getitem.lookup
      (wpAny_getItem_list_neg (Q := fun r s' => r = w ∧ EP X pins σ Q r s') pl.isList (by omega) (by rw [List.size_toArray] <;> omega) (by omega) (by rw [hj]; simpa using ew) ⟨rfl, fin⟩) hs
theorem ix_tup : IxR X (rIxT X.K) := by
  intro value slice pins s σ H x y v u Q I rx ry h hs
  obtain ⟨p, xs, i, z, rfl, rfl, hq, he, q⟩ := h
  cases rx
  obtain ⟨t, rfl⟩ := ry
  obtain ⟨its, r, pl, hz⟩ := I.tuple hq
  obtain ⟨j, h1, h2, h3, h4, h5⟩ := atI_get he
  obtain ⟨w, ew, rw'⟩ := r.get h2
  have hl := r.length
  have hn := line63
  have fin : EP X pins σ Q w s := ⟨z, H, I, rw', q⟩
  exact subscriptTail_builtinR (x := w) pl.typeIs slot_tuple_getitem.lookup
    (getItem_tuple (j := j) (Q := fun r s' => r = w ∧ EP X pins σ Q r s') pl (by omega) (by omega) (by rw [List.size_toArray, ← hl]; exact h1) (by simpa using ew) ⟨rfl, fin⟩) hs
theorem ix_str : IxR X rIxS := by
  intro value slice pins s σ H x y v u Q I rx ry h hs
  obtain ⟨z, i, c, rfl, rfl, hz, he, q⟩ := h
  obtain ⟨t, rfl⟩ := rx
  obtain ⟨t', rfl⟩ := ry
  obtain ⟨j, h1, h2, h3, h4, h5⟩ := atI_get he
  have hl : z.cps.toList.length = z.length := by simp [Str.length]
  rw [hl] at h1 h4 h5
  have hn := line63
  exact tail_any (typeIs_str s z t) slot_str_getitem.lookup (getItem_str (c := c) (by
    have e1 : decide (i < -(2 ^ 63 : Int)) = false := decide_eq_false (by omega)
    have e2 : decide (i ≥ 2 ^ 63) = false := decide_eq_false (by omega)
    rw [e1, e2, Bool.or_false]) (by rw [h1]; simpa using h2) ⟨.str ⟨#[c]⟩, H, I.tok _, ⟨_, rfl⟩, q⟩) hs
theorem Inv.lst {pins : List (Addr × Obj)} {σ : St} {H : Hp} {s : Shared} {p : Addr} {xs : List V} (I : Inv X pins σ H s) (h : H p = some (.lst xs)) :
    ∃ (its : List Value) (n : Nat), Vals xs its ∧ s.heap.get? p = some { cls := .type "list", data := .seq its.toArray n } ∧ xs.length ≤ sizeLine := by
  obtain ⟨z, its, n, r, e⟩ := I.hok p _ h
  exact ⟨its, n, r, e, z⟩
theorem slice_bounds (lo hi : Option Int) (n : Nat) : (sliceBounds lo hi none n).1 = ((HT.sIx n 0 lo : Nat) : Int) ∧ (sliceBounds lo hi none n).2.1 = ((HT.sIx n n hi : Nat) : Int) ∧ (sliceBounds lo hi none n).2.2 = 1 := by
  refine ⟨?_, ?_, rfl⟩
  · cases lo with
    | none => simp [sliceBounds, HT.sIx]
    | some i =>
      simp only [sliceBounds, HT.sIx, Option.getD_none, show (1 : Int) > 0 by decide, if_true]
      by_cases h : i < 0
      · simp only [h, if_true] <;> omega
      · simp only [h, if_false] <;> omega
  · cases hi with
    | none => simp [sliceBounds, HT.sIx]
    | some i =>
      simp only [sliceBounds, HT.sIx, Option.getD_none, show (1 : Int) > 0 by decide, if_true]
      by_cases h : i < 0
      · simp only [h, if_true] <;> omega
      · simp only [h, if_false] <;> omega
theorem slicePick_cut (its : List Value) (lo hi : Option Int) : slicePick its.toArray lo hi none = ((its.drop (HT.sIx its.length 0 lo)).take (HT.sIx its.length its.length hi - HT.sIx its.length 0 lo)).toArray := by
  obtain ⟨h1, h2, h3⟩ := slice_bounds lo hi its.toArray.size
  unfold slicePick
  rw [h1, h2, h3]
  simp only [sliceRange_one, pick_run, List.size_toArray] <;> rfl
def rSlL (K : PySem.W.Frag) : V → Option Int → Option Int → Hp → VK → Prop := fun x lo hi H Q => ∃ a xs, x = .ref a ∧ SqL K H a xs ∧ ∀ p, H p = none → Q (.ref p) (upd H p (.lst (cutV xs lo hi)))
theorem sl_list : SlR X (rSlL X.K) := by
  intro pins s σ H x v vl vu lo hi sl Q I rx hs pl pu h
  obtain ⟨a, xs, rfl, hx, q⟩ := h
  cases rx
  obtain ⟨its, r, ht, hz⟩ := I.list hx
  have hlen := r.length
  refine ⟨"list", _, slot_list_getitem.lookup, ht.isList.typeIs, ?_⟩
  refine wpAny_getItem_list_slice ht.isList hs pl pu .none (by simp) ?_ (by rw [List.size_toArray] <;> omega)
  rw [slicePick_cut, ← hlen]
  refine ⟨.ref s.heap.objs.size, _, I.laid (t' := s.toks) (o := .lst (cutV xs lo hi)) (fun b ob q => Heap.get?_push_of_some _ q) (Nat.le_refl _) ?_, rfl, q _ (I.hok.fresh (Nat.le_refl _))⟩
  exact ⟨Nat.le_trans (cutV_length xs lo hi) hz, _, 0, (r.drop (HT.sIx xs.length 0 lo)).take (HT.sIx xs.length xs.length hi - HT.sIx xs.length 0 lo), Heap.get?_push_size _ rfl⟩
def flatV : V → Bool
  | .non => true
  | .bl _ => true
  | .int _ => true
  | .str _ => true
  | _ => false
def eqV : V → V → Bool
  | .non, .non => true
  | .bl a, .bl b => a == b
  | .bl a, .int b => (if a then 1 else 0) == b
  | .int a, .bl b => a == (if b then 1 else 0)
  | .int a, .int b => a == b
  | .str a, .str b => a == b
  | _, _ => false
theorem eqAt_V {A : Around} {s : Shared} {y x : V} {u v : Value} (ry : RelV y u) (rx : RelV x v) (fy : flatV y = true) (fx : flatV x = true) : SeqAt.EqAt A s u v (eqV y x) := by
  cases y with
  | non =>
    cases ry
    cases x with
    | non => cases rx; exact SeqAt.EqAt.same _
    | bl b => cases rx; exact SeqAt.EqAt.none_bool b
    | int b => obtain ⟨t, rfl⟩ := rx; exact SeqAt.EqAt.none_int b t
    | str b => obtain ⟨t, rfl⟩ := rx; exact SeqAt.EqAt.none_str b t
    | _ => exact absurd (show false = true from fx) Bool.false_ne_true
  | bl a =>
    cases ry
    cases x with
    | non => cases rx; exact SeqAt.EqAt.bool_none a
    | bl b => cases rx; exact SeqAt.EqAt.bool_bool a b
    | int b => obtain ⟨t, rfl⟩ := rx; exact SeqAt.EqAt.bool_int a b t
    | str b => obtain ⟨t, rfl⟩ := rx; exact SeqAt.EqAt.bool_str a b t
    | _ => exact absurd (show false = true from fx) Bool.false_ne_true
  | int a =>
    obtain ⟨t', rfl⟩ := ry
    cases x with
    | non => cases rx; exact SeqAt.EqAt.int_none a t'
    | bl b => cases rx; exact SeqAt.EqAt.int_bool a t' b
    | int b => obtain ⟨t, rfl⟩ := rx; exact SeqAt.EqAt.int_int a t' b t
    | str b => obtain ⟨t, rfl⟩ := rx; exact SeqAt.EqAt.int_str a t' b t
    | _ => exact absurd (show false = true from fx) Bool.false_ne_true
  | str a =>
    obtain ⟨t', rfl⟩ := ry
    cases x with
    | non => cases rx; exact SeqAt.EqAt.str_none a t'
    | bl b => cases rx; exact SeqAt.EqAt.str_bool a t' b
    | int b => obtain ⟨t, rfl⟩ := rx; exact SeqAt.EqAt.str_int a t' b t
    | str b => obtain ⟨t, rfl⟩ := rx; exact SeqAt.EqAt.str_str a t' b t
    | _ => exact absurd (show false = true from fx) Bool.false_ne_true
  | _ => exact absurd (show false = true from fy) Bool.false_ne_true
def eqU (x : V) (u : Value) : Bool := match u with
  | .none => eqV .non x
  | .bool b => eqV (.bl b) x
  | .int i _ => eqV (.int i) x
  | .str z _ => eqV (.str z) x
  | _ => false
theorem eqU_of {x y : V} {u : Value} (r : RelV y u) (f : flatV y = true) : eqU x u = eqV y x := by
  cases y with
  | non => cases r; rfl
  | bl b => cases r; rfl
  | int i => obtain ⟨t, rfl⟩ := r; rfl
  | str z => obtain ⟨t, rfl⟩ := r; rfl
  | _ => exact absurd (show false = true from f) Bool.false_ne_true
theorem any_eqU {x : V} : ∀ {xs : List V} {us : List Value}, Vals xs us → xs.all flatV = true → us.any (eqU x) = xs.any fun y => eqV y x
  | _, _, .nil, _ => rfl
  | y :: xs, u :: us, .cons r t, f => by
    rw [List.all_cons, Bool.and_eq_true] at f
    rw [List.any_cons, List.any_cons, eqU_of r f.1, any_eqU t f.2]
theorem mem_eqAt {A : Around} {s : Shared} {x : V} {v : Value} (rx : RelV x v) (fx : flatV x = true) : ∀ {xs : List V} {us : List Value}, Vals xs us → xs.all flatV = true → ∀ u ∈ us, SeqAt.EqAt A s u v (eqU x u)
  | _, _, .nil, _ => fun u hu => by cases hu
  | y :: xs, u :: us, .cons r t, f => fun u' hu => by
    rw [List.all_cons, Bool.and_eq_true] at f
    rcases List.mem_cons.mp hu with rfl | hu
    · rw [eqU_of r f.1]; exact eqAt_V r rx f.1 fx
    · exact mem_eqAt rx fx t f.2 u' hu
def inV (x : V) (xs : List V) : Bool := xs.any fun y => eqV y x
def rIn (K : PySem.W.Frag) (neg : Bool) : R2 := fun x y H Q => ∃ p xs, y = .ref p ∧ (SqL K H p xs ∨ SqT K H p xs) ∧ flatV x = true ∧ xs.all flatV = true ∧ Q (.bl (if neg then !inV x xs else inV x xs)) H
theorem op_in_seq : OpR X (compareOp .In) (rIn X.K false) := by
  intro pins s σ H x y v u Q I rx ry h
  obtain ⟨p, xs, rfl, hq, fx, fs, q⟩ := h
  cases ry
  rcases hq with hq | hq
  · obtain ⟨its, r, pl, hz⟩ := I.list hq
    refine SeqAt.in_listAt (eqU x) pl.isList (fun w hw => mem_eqAt rx fx r fs w (by simpa using hw)) ⟨.bl _, H, I, rfl, ?_⟩
    rw [show its.toArray.any (eqU x) = its.any (eqU x) by simp, any_eqU r fs]
    exact q
  · obtain ⟨its, r, pl, hz⟩ := I.tuple hq
    refine SeqAt.in_tupleAt (eqU x) pl (fun w hw => mem_eqAt rx fx r fs w (by simpa using hw)) ⟨.bl _, H, I, rfl, ?_⟩
    rw [show its.toArray.any (eqU x) = its.any (eqU x) by simp, any_eqU r fs]
    exact q
theorem op_notIn_seq : OpR X (compareOp .NotIn) (rIn X.K true) := by
  intro pins s σ H x y v u Q I rx ry h
  obtain ⟨p, xs, rfl, hq, fx, fs, q⟩ := h
  cases ry
  rcases hq with hq | hq
  · obtain ⟨its, r, pl, hz⟩ := I.list hq
    refine SeqAt.notIn_listAt (eqU x) pl.isList (fun w hw => mem_eqAt rx fx r fs w (by simpa using hw)) ⟨.bl _, H, I, rfl, ?_⟩
    rw [show its.toArray.any (eqU x) = its.any (eqU x) by simp, any_eqU r fs]
    exact q
  · obtain ⟨its, r, pl, hz⟩ := I.tuple hq
    refine SeqAt.notIn_tupleAt (eqU x) pl (fun w hw => mem_eqAt rx fx r fs w (by simpa using hw)) ⟨.bl _, H, I, rfl, ?_⟩
    rw [show its.toArray.any (eqU x) = its.any (eqU x) by simp, any_eqU r fs]
    exact q
theorem call_len_seq : CallR X (.builtin "len") (fun xs H Q => ∃ p ys, xs = [.ref p] ∧ (SqL X.K H p ys ∨ SqT X.K H p ys) ∧ Q (.int ys.length) H) := by
  intro pins s σ H xs us Q I r h
  obtain ⟨p, ys, rfl, hq, q⟩ := h
  obtain ⟨u, rfl, rx⟩ := vals1 r
  cases rx
  have hn := line63
  rcases hq with hq | hq
  · obtain ⟨its, r', pl, hz⟩ := I.list hq
    have hlen := r'.length
    exact Calls.call_len_list pl.isList (by simp only [List.size_toArray] <;> omega) ⟨.int ys.length, H, I.tok _, ⟨s.toks + 1, by rw [List.size_toArray, hlen]⟩, q⟩
  · obtain ⟨its, r', pl, hz⟩ := I.tuple hq
    have hlen := r'.length
    exact len_tuple pl (by simp only [List.size_toArray] <;> omega) ⟨.int ys.length, H, I.tok _, ⟨s.toks + 1, by rw [List.size_toArray, hlen]⟩, q⟩
theorem call_len_str : CallR X (.builtin "len") (fun xs H Q => ∃ z, xs = [.str z] ∧ z.length ≤ sizeLine ∧ Q (.int z.length) H) := by
  intro pins s σ H xs us Q I r h
  obtain ⟨z, rfl, hz, q⟩ := h
  obtain ⟨u, rfl, t, rfl⟩ := vals1 r
  have hn := line63
  exact len_str (by omega) ⟨.int z.length, H, I.tok _, ⟨_, rfl⟩, q⟩
theorem call_list_of : CallR X (.type "list") (fun xs H Q => ∃ p ys, xs = [.ref p] ∧ (SqL X.K H p ys ∨ SqT X.K H p ys) ∧ ∀ l, H l = none → Q (.ref l) (upd H l (.lst ys))) := by
  intro pins s σ H xs us Q I r h
  obtain ⟨p, ys, rfl, hq, q⟩ := h
  obtain ⟨u, rfl, rx⟩ := vals1 r
  cases rx
  have fin : ∀ (its : List Value), Vals ys its → ys.length ≤ sizeLine → ∀ (h' : Heap) (c' : Nat), (∀ b o', s.heap.get? b = some o' → h'.get? b = some o') →
      h'.get? s.heap.objs.size = some { cls := .type "list", dict := none, data := .seq its.toArray c', slots := #[] } → EP X pins σ Q (.ref s.heap.objs.size) { s with heap := h' } := fun its r' hz h' c' kp e =>
    ⟨.ref s.heap.objs.size, _, I.laid (t' := s.toks) kp (Nat.le_refl _) (show ObjOk X.prog X.w _ h' _ (.lst ys) from ⟨hz, its, c', r', e⟩), rfl, q _ (I.hok.fresh (Nat.le_refl _))⟩
  rcases hq with hq | hq
  · obtain ⟨its, r', pl, hz⟩ := I.list hq
    have hlen := r'.length
    obtain ⟨o, ho, hc, n, hd⟩ := pl.isList
    exact call_list_seq p (.inl rfl) ho hc hd (fun h' c' kp e => fin its r' hz h' c' kp e) (by simp only [List.size_toArray] <;> omega)
  · obtain ⟨its, r', pl, hz⟩ := I.tuple hq
    have hlen := r'.length
    obtain ⟨o, ho, hc, n, hd⟩ := pl
    exact call_list_seq p (.inr rfl) ho hc hd (fun h' c' kp e => fin its r' hz h' c' kp e) (by simp only [List.size_toArray] <;> omega)
theorem call_tuple_of : CallR X (.type "tuple") (fun xs H Q => ∃ p ys, xs = [.ref p] ∧ ((SqL X.K H p ys ∧ ∀ l, H l = none → Q (.ref l) (upd H l (.tup ys))) ∨ (SqT X.K H p ys ∧ Q (.ref p) H))) := by
  intro pins s σ H xs us Q I r h
  obtain ⟨p, ys, rfl, h⟩ := h
  obtain ⟨u, rfl, rx⟩ := vals1 r
  cases rx
  rcases h with ⟨hq, q⟩ | ⟨hq, q⟩
  · obtain ⟨its, r', pl, hz⟩ := I.list hq
    have hlen := r'.length
    refine call_tuple_list pl.isList (fun h' kp => ?_) (by simp only [List.size_toArray] <;> omega)
    have I1 : Inv X pins σ H { s with heap := h' } := I.kept (t' := s.toks) kp
    have I2 : Inv X pins σ (upd H h'.objs.size (.tup ys)) { s with heap := h'.push { cls := .type "tuple", data := .seq its.toArray } } :=
      I1.laid (t' := s.toks) (fun b o e => Heap.get?_push_of_some _ e) (Nat.le_refl _) (show ObjOk X.prog X.w _ _ _ (.tup ys) from ⟨hz, its, r', IsTup.new _ _⟩)
    exact ⟨.ref h'.objs.size, _, I2, rfl, q _ (I1.hok.fresh (Nat.le_refl _))⟩
  · obtain ⟨its, r', pl, hz⟩ := I.tuple hq
    exact call_tuple_same pl ⟨.ref p, H, I, rfl, q⟩
def tyV (K : PySem.W.Frag) (T : String) (x : V) (H : Hp) : Prop := match x with
  | .str _ => T = "str"
  | .int _ => T = "int"
  | .ref p => (T = "list" ∧ ∃ xs, SqL K H p xs) ∨ (T = "tuple" ∧ ∃ o, K.lookup p = some o ∧ o.cls = .type "tuple" ∧ o.dict = none) ∨
      (T = "dict" ∧ ((∃ kvs, H p = some (.dK kvs)) ∨ ∃ kvs, H p = some (.dT kvs))) ∨ (T = "set" ∧ ∃ S n, H p = some (.set S n))
  | _ => False
theorem tyV_is {pins : List (Addr × Obj)} {σ : St} {H : Hp} {s : Shared} {T : String} {x : V} {v : Value} (I : Inv X pins σ H s) (r : RelV x v) (ty : tyV X.K T x H) :
    s.TypeIs v T ∧ ∀ a, v = .ref a → ∃ ob, s.heap.get? a = some ob ∧ ob.dict = none := by
  cases x with
  | str z =>
    obtain ⟨t, rfl⟩ := r
    cases (show T = "str" from ty)
    exact ⟨typeIs_str s z t, fun _ e => nomatch e⟩
  | int i =>
    obtain ⟨t, rfl⟩ := r
    cases (show T = "int" from ty)
    exact ⟨typeIs_int s i t, fun _ e => nomatch e⟩
  | ref p =>
    cases r
    rcases ty with ⟨rfl, xs, hq⟩ | ⟨rfl, o, hk, hc, hd⟩ | ⟨rfl, hk⟩ | ⟨rfl, S, n, hk⟩
    · obtain ⟨its, _, pl, _⟩ := I.list hq
      refine ⟨pl.isList.typeIs, fun a e => ?_⟩
      cases e
      obtain ⟨o, n, e, c, hd, _⟩ := pl
      exact ⟨o, e, hd⟩
    · refine ⟨⟨o, I.kIn p o hk, hc⟩, fun a e => ?_⟩
      cases e
      exact ⟨o, I.kIn _ o hk, hd⟩
    · have z : ∃ o, s.heap.get? p = some o ∧ o.ExactDict := by
        rcases hk with ⟨kvs, hk⟩ | ⟨kvs, hk⟩
        · obtain ⟨_, _, _, _, o, _, _, e, ex, _⟩ := I.hok p _ hk
          exact ⟨o, e, ex⟩
        · obtain ⟨_, _, _, _, o, _, _, e, ex, _⟩ := I.hok p _ hk
          exact ⟨o, e, ex⟩
      obtain ⟨o, e, ex⟩ := z
      refine ⟨⟨o, e, ex.1⟩, fun a e2 => ?_⟩
      cases e2
      exact ⟨o, e, ex.2.1⟩
    · obtain ⟨o, _, _, _, e, ex, _⟩ := I.hok p _ hk
      refine ⟨⟨o, e, ex.1⟩, fun a e2 => ?_⟩
      cases e2
      exact ⟨o, e, ex.2.1⟩
  | _ => exact False.elim ty
def tBM0 (K : PySem.W.Frag) (T : String) (r : V → List V → Hp → VK → Prop) (to : TE) : TE := fun σ H Q => to σ H fun x H1 => tyV K T x H1 ∧ r x [] H1 Q
def tBM (K : PySem.W.Frag) (T : String) (r : V → List V → Hp → VK → Prop) (to : TE) (t : TA) : TE := fun σ H Q => to σ H fun x H1 => tyV K T x H1 ∧ t σ H1 fun xs H2 => r x xs H2 Q
variable {o e : Expr} {es : List Expr} {to : TE} {t : TA} {name : Str} {apos cpos : Pos} {T id : String} {r : V → List V → Hp → VK → Prop}
theorem pe_bm (pa : PlainAttrs T) (slot : Slot T name id) (hty : typeOf (.builtin id) = pure (.type "method_descriptor")) (hm : MtR X id r) (ho : PE X o to) (ha : PA X (e :: es) t)
    (hbase : attributeBase o name X.env (eval o X.env) = eval o X.env := by rfl)
    (hfew : ((backTo cpos (starEach (e :: es) X.env)).all (fun x => !x.1) && (backToKw cpos (keywordEach [] X.env)).all (fun x => x.1.isSome)
      && decide ((e :: es).length + ([] : List Keyword).length + (if ([] : List Keyword).isEmpty then 0 else 1) < 30)) = true := by rfl)
    (hline : (apos.endLine == cpos.line) = true := by rfl) (hs : starEach (e :: es) X.env = (false, eval e X.env) :: starEach es X.env := by rfl) (hplain : (backTo cpos (starEach es X.env)).any (·.1) = false := by rfl) :
    PE X (.Call (.Attribute o name apos) (e :: es) [] cpos) (tBM X.K T r to t) := by
  intro pins s σ H Q I h
  refine wpAny_Call_method_late hbase hfew hline rfl (thn (ho pins s σ H _ I h) fun v s1 ⟨x, H1, I1, r1, ty, q1⟩ => ?_)
  obtain ⟨h1, h2⟩ := tyV_is I1 r1 ty
  refine ⟨T, id, pa, slot, hty, h1, h2, ?_⟩
  have hA := ha cpos pins s1 σ H1 _ I1 q1
  rw [hs] at hA ⊢
  refine Calls.callWith_builtin (by show (false || (backTo cpos (starEach es X.env)).any (·.1)) = false; rw [hplain] <;> rfl) (Calls.evalArgs_plain ?_)
  exact thn hA fun us s2 ⟨vs, H2, I2, r2, q2⟩ => hm pins s2 σ H2 x vs v us Q I2 r1 r2 q2
/- xs.append(e), list.index on a module's tuple .. are MtR facts of 06m -/
end
end L2
namespace L2
open PySem PySem.Spec PyProof.Rows
def MtM (X : Cx) (id : String) (r : V → List V → Hp → VK → Prop) : Prop :=
  ∀ (pins : List (Addr × Obj)) (s : Shared) (σ : St) (H : Hp) (x : V) (xs : List V) (v : Value) (us : List Value) (Q : VK), Inv X pins σ H s → RelV x v → Vals xs us → r x xs H Q →
    wpAny (model X.prog X.w) X.A (call (.builtin id) (v :: us)) (EP X pins σ Q) X.xe s
theorem Vals.one : ∀ {x : V} {us : List Value}, Vals [x] us → ∃ u, us = [u] ∧ RelV x u
  | _, _, .cons r .nil => ⟨_, rfl, r⟩
theorem Vals.rep {xs : List V} {us : List Value} (h : Vals xs us) : ∀ k : Nat, Vals (List.replicate k xs).flatten (List.replicate k us).flatten
  | 0 => .nil
  | k + 1 => by
    rw [List.replicate_succ, List.replicate_succ, List.flatten_cons, List.flatten_cons]
    exact Vals.append h (Vals.rep h k)
theorem foldl_rep (its : List Value) : ∀ (k : Nat) (acc : List Value),
    List.foldl (fun x1 x2 => x1 ++ x2) acc.toArray (List.replicate k its.toArray) = (acc ++ (List.replicate k its).flatten).toArray
  | 0, acc => by simp
  | k + 1, acc => by
    have e : acc.toArray ++ its.toArray = (acc ++ its).toArray := by simp
    have e2 : (acc ++ its) ++ (List.replicate k its).flatten = acc ++ (List.replicate (k + 1) its).flatten := by
      rw [List.replicate_succ, List.flatten_cons, List.append_assoc]
    rw [← e2, ← foldl_rep its k (acc ++ its), ← e, List.replicate_succ, List.foldl_cons]
section
variable {X : Cx} {pins : List (Addr × Obj)} {σ : St} {H : Hp} {s : Shared} {l b : Addr} {xs ys zs : List V}
theorem Inv.lset {its its' : List Value} {n : Nat} {f : Array Value → Array Value} {t' : Nat} (I : Inv X pins σ H s) (hH : H l = some (.lst xs))
    (e : s.heap.get? l = some { cls := .type "list", data := .seq its.toArray n }) (hf : f its.toArray = its'.toArray) (hv : Vals ys its') (hz : ys.length ≤ sizeLine) :
    Inv X pins σ (upd H l (.lst ys)) { s with heap := s.heap.update l (Obj.mapSeq f), toks := t' } := by
  have q := PySem.IsL.update e f
  rw [hf] at q
  refine I.write (x := l) (e := l) (by rw [hH]; exact trivial) (.inl rfl) (fun b' u hb hu => (Heap.get?_update_other s.heap (Obj.mapSeq f) (Ne.symm hb)).trans hu) ⟨_, q⟩ ?_
  exact ⟨hz, its', _, hv, q⟩
theorem Inv.lnew {its : List Value} {t' : Nat} (I : Inv X pins σ H s) (hv : Vals ys its) (hz : ys.length ≤ sizeLine) :
    Inv X pins σ (upd H s.heap.objs.size (.lst ys)) { s with heap := s.heap.push { cls := .type "list", data := .seq its.toArray }, toks := t' } :=
  I.laid (fun _ _ q => Heap.get?_push_of_some _ q) (Nat.le_refl _) ⟨hz, its, 0, hv, Heap.get?_push_size _ rfl⟩
theorem Inv.fresh (I : Inv X pins σ H s) : H s.heap.objs.size = none := I.hok.fresh (Nat.le_refl _)
theorem Inv.lstM (I : Inv X pins σ H s) (hH : H l = some (.lst xs)) : xs.length ≤ sizeLine ∧ ∃ (its : List Value) (n : Nat), Vals xs its ∧ xs.length = its.length ∧ s.heap.get? l = some { cls := .type "list", data := .seq its.toArray n } := by
  obtain ⟨z, its, n, r, e⟩ := I.hok l _ hH
  exact ⟨z, its, n, r, r.length, e⟩
theorem notLongL {n : Nat} (h : n ≤ sizeLine) : Builtin.List.listTooLong n = false := by
  unfold Builtin.List.listTooLong
  exact decide_eq_false (by omega)
end
section
variable {X : Cx}
def rAppend : V → List V → Hp → VK → Prop := fun x vs H Q => ∃ l xs y, x = .ref l ∧ vs = [y] ∧ H l = some (.lst xs) ∧ xs.length < sizeLine ∧ Q .non (upd H l (.lst (xs ++ [y])))
theorem mt_append : MtM X "list.append" rAppend := by
  intro pins s σ H x vs v us Q I rx rv h
  obtain ⟨l, xs, y, rfl, rfl, hH, hz, q⟩ := h
  cases rx
  obtain ⟨u, rfl, ru⟩ := rv.one
  obtain ⟨z, its, n, r, hl, e⟩ := I.lstM hH
  refine call_meets F.slot_list_append ⟨_, e, rfl⟩ F.entry_list_append (F.args_list_append_2 _ _) (PySem.list_append l its.toArray n u (by rw [List.size_toArray]; omega)) ⟨e, ?_⟩
  refine ⟨.non, _, I.lset (its' := its ++ [u]) hH e (by simp) (r.append (.cons ru .nil)) ?_, rfl, q⟩
  rw [List.length_append, List.length_singleton]
  omega
def rExtend : V → List V → Hp → VK → Prop := fun x vs H Q => ∃ l b xs zs, x = .ref l ∧ vs = [.ref b] ∧ H l = some (.lst xs) ∧ H b = some (.lst zs) ∧ xs.length + zs.length ≤ sizeLine ∧ Q .non (upd H l (.lst (xs ++ zs)))
theorem mt_extend : MtM X "list.extend" rExtend := by
  intro pins s σ H x vs v us Q I rx rv h
  obtain ⟨l, b, xs, zs, rfl, rfl, hH, hB, hz, q⟩ := h
  cases rx
  obtain ⟨u, rfl, ru⟩ := rv.one
  cases ru
  obtain ⟨z, its, n, r, hl, e⟩ := I.lstM hH
  obtain ⟨z2, its2, n2, r2, hl2, e2⟩ := I.lstM hB
  have hsz : its.toArray.size + its2.toArray.size ≤ sizeLine := by rw [List.size_toArray, List.size_toArray]; omega
  have hlong : ¬ (!its.toArray.isEmpty && Builtin.List.listTooLong (its.toArray.size + its2.toArray.size)) = true := by
    rw [notLongL hsz, Bool.and_false]
    exact Bool.false_ne_true
  refine call_meets F.slot_list_extend ⟨_, e, rfl⟩ F.entry_list_extend (F.args_list_extend_2 _ _)
    (AutoSeq1.list_extend_list_list_0 l its.toArray n b its2.toArray n2 hlong (by rw [List.size_toArray]; omega) (by omega)) ⟨e, e2, ?_⟩
  refine ⟨.non, _, I.lset (its' := its ++ its2) hH e (by simp) (r.append r2) ?_, rfl, q⟩
  rw [List.length_append]
  omega
def rCat : R2 := fun x y H Q => ∃ l b xs zs, x = .ref l ∧ y = .ref b ∧ H l = some (.lst xs) ∧ H b = some (.lst zs) ∧ xs.length + zs.length ≤ sizeLine ∧ ∀ p, H p = none → Q (.ref p) (upd H p (.lst (xs ++ zs)))
theorem op_cat : OpR X (binaryOp .Add) rCat := by
  intro pins s σ H x y v u Q I rx ry h
  obtain ⟨l, b, xs, zs, rfl, rfl, hH, hB, hz, q⟩ := h
  cases rx
  cases ry
  obtain ⟨z, its, n, r, hl, e⟩ := I.lstM hH
  obtain ⟨z2, its2, n2, r2, hl2, e2⟩ := I.lstM hB
  refine PySem.P.add_list e e2 ?_ (by rw [List.size_toArray, List.size_toArray]; omega)
  have ea : its.toArray ++ its2.toArray = (its ++ its2).toArray := by simp
  rw [ea]
  exact ⟨.ref _, _, I.lnew (t' := s.toks) (r.append r2) (by rw [List.length_append]; omega), rfl, q _ I.fresh⟩
def rRep : R2 := fun x y H Q => ∃ l k xs, x = .ref l ∧ y = .int k ∧ H l = some (.lst xs) ∧ -(2 ^ 63) ≤ k ∧ k < 2 ^ 63 ∧ xs.length * k.toNat ≤ sizeLine ∧
  ∀ p, H p = none → Q (.ref p) (upd H p (.lst (List.replicate k.toNat xs).flatten))
theorem len_rep {α : Type} (xs : List α) (k : Nat) : (List.replicate k xs).flatten.length = k * xs.length := by
  induction k with
  | zero => simp
  | succ k ih => rw [List.replicate_succ, List.flatten_cons, List.length_append, ih, Nat.succ_mul, Nat.add_comm]
theorem op_rep : OpR X (binaryOp .Mult) rRep := by
  intro pins s σ H x y v u Q I rx ry h
  obtain ⟨l, k, xs, rfl, rfl, hH, h1, h2, hz, q⟩ := h
  cases rx
  obtain ⟨t, rfl⟩ := ry
  obtain ⟨z, its, n, r, hl, e⟩ := I.lstM hH
  have hlen : its.toArray.size * k.toNat ≤ sizeLine := by rw [List.size_toArray, ← hl]; exact hz
  have hcap : ¬ its.toArray.size * k.toNat > (2 ^ 63 - 1) / 8 := by
    have : (sizeLine : Nat) ≤ (2 ^ 63 - 1) / 8 := by decide
    omega
  have hfit : ¬ (!Builtin.List.listFitsIndex k) = true := by
    rw [fitsIndex_both h1 h2]
    exact Bool.false_ne_true
  have hlong : ¬ Builtin.List.listTooLong (its.toArray.size * k.toNat) = true := by
    rw [notLongL hlen]
    exact Bool.false_ne_true
  have hnew : List.foldl (fun x1 x2 => x1 ++ x2) #[] (List.replicate (if its.toArray.isEmpty = true then 0 else k.toNat) its.toArray) = (List.replicate k.toNat its).flatten.toArray := by
    have f0 : ∀ m : Nat, List.foldl (fun x1 x2 => x1 ++ x2) #[] (List.replicate m its.toArray) = (List.replicate m its).flatten.toArray := fun m => by
      have := foldl_rep its m []
      rw [List.nil_append] at this
      exact this
    rw [f0]
    cases its with
    | nil => simp
    | cons a r' => rw [if_neg (by simp)]
  refine wpAny_binaryOp_repeat_ref (T := "list") (U := "int") (by decide) ⟨_, e, rfl⟩ (fun s' => typeIs_int s' k t) noFill_list_mul F.fills_int_mul F.slot_int_rmul repeat_list F.slot_int_index.lookup
    (call_meets F.slot_int_rmul (typeIs_int s k t) F.entry_int_rmul (F.args_int_rmul_2 _ _) (int___rmul___int_list k t l its.toArray n)
      ⟨e, rfl, ⟨_, e, rfl⟩, call_meets F.slot_list_mul ⟨_, e, rfl⟩ F.entry_list_mul (F.args_list_mul_2 _ _) (AutoListH.list___mul___list_int_3 l its.toArray n k t hfit hcap hlong) ⟨e, ?_⟩⟩)
  rw [hnew]
  exact ⟨.ref _, _, I.lnew (t' := s.toks) (r.rep k.toNat) (by rw [len_rep, Nat.mul_comm]; exact hz), rfl, q _ I.fresh⟩
end
end L2
namespace Att
open PySem PySem.W PySem.Calls PyProof.Rows
theorem ints_of_wellAll {P : Params} {h : Heap} : ∀ (ns : List Int) (vs : List Value), WellAll P h vs (ns.map WData.int) → IntsAre vs ns := by
  intro ns
  induction ns with
  | nil =>
    intro vs w
    rw [List.map_nil] at w
    cases w
    exact .nil
  | cons n ns ih =>
    intro vs w
    rw [List.map_cons] at w
    cases w with
    | cons a b =>
      cases a
      exact .cons _ _ (ih _ b)
theorem script_of {l : OpenLaw} {n : Nat} (hn : l.most = some n) {P : Params} {h : Heap} {args : List WData} {vals : List Value}
    (hpre : l.row.toRowW.claim.pre args = true) (hwl : WellAll P h vals args) :
    ∃ a vs ns, vals = [Value.ref a] ∧ args = [WData.list (ns.map WData.int)] ∧ h.get? a = some { cls := .type "list", data := .seq vs.toArray } ∧ IntsAre vs ns ∧ ns.length ≤ n := by
  have hsh : WShape.hasAll [] args [.list .int] = true := (pre_splitW hpre).1
  have hc : l.pre.holds [] { args := args } = true := (pre_splitW hpre).2
  obtain ⟨d, r, rfl, h1, h2⟩ := hasAllW_cons hsh
  obtain rfl := hasAllW_nil h2
  obtain ⟨xs, rfl, h3⟩ := hasW_list h1
  obtain ⟨ns, rfl⟩ := items_int h3
  have hlen : ns.length ≤ n := by
    unfold OpenLaw.pre at hc
    have h4 : (WTm.not (.lt (.lit (.int (n : Int))) (.len (.arg 0)))).holds [] { args := [.list (ns.map .int)] } = true := by
      have h4 := (holds_andW hc).1
      rw [hn] at h4
      exact h4
    have h5 := condW_of h4 (w_not (w_lt w_lit (w_len_list (w_arg rfl))))
    rw [List.length_map] at h5
    refine Nat.le_of_not_lt fun q => ?_
    have q' : (n : Int) < ((ns.length : Nat) : Int) := by omega
    first
      | (rw [decide_eq_true q'] at h5; exact absurd h5 (by decide))
      | (simp at h5; omega)
  cases hwl with
  | cons w1 w2 =>
    cases w2
    cases w1 with
    | list ho hall => exact ⟨_, _, ns, rfl, rfl, ho, ints_of_wellAll ns _ hall, hlen⟩
theorem post_true (l : OpenLaw) (args : List WData) : l.row.toRowW.claim.post args (.bool true) args = true :=
  postW_of (r := l.row.toRowW) (X := (true == true))
    (show WShape.has [] (.bool true) .bool = true by first | rfl | decide | simp [WShape.has, WShape.arms, WShape.armsAll])
    (show (WTm.eq .res (.lit (.bool true))).value [] { args := args, res := some (.bool true), after := args } = some (.bool (true == true)) from w_eq_bool (w_res rfl) w_lit) rfl
theorem attach_call {l : OpenLaw} {n : Nat} {q : Program} {loose : List Str} {XP : (Str → Option Value) → Heap → Prop} {YP : World → Heap → Prop} {d : DefRec}
    (hn : l.most = some n) (hdf : d.params.defaults = [])
    (call : ∀ (w : World) (s₀ s₁ : Shared) (mg mb : Str → Option Value) (fa : Addr) (o : Obj) (pm cd doc : Value) (a : Addr) (vs : List Value) (ns : List Int),
      Ground q loose [] XP w s₀ mg mb s₁.heap → YP w s₁.heap →
      s₁.heap.get? fa = some o → o.data = .func (docDef d.name d.params d.body d.scope pm cd doc) → s₁.heap.CodeRec cd d.name → mg d.name = some (.ref fa) →
      s₁.heap.get? a = some { cls := .type "list", data := .seq vs.toArray } → IntsAre vs ns → ns.length ≤ n → s₁.gens = #[] →
      codeAny (model l.prog w) callerA (.call (.ref fa) ⟨[.ref a], []⟩) (fun r s' => r = .ok (.ret (.bool true)) ∧ OldK s₁.heap s'.heap ∧ s'.os = s₁.os ∧ AllBare s'.gens) s₁) :
    WalkO q loose XP YP l.row.toRowW d [] (fun f vs => PySem.call f vs) := by
  intro w s₀ s₁ mg mb G Y fa o pm cd doc dV kV ho hd hcd hD hmg hg args vals as hpre hlay hrd hwl hlo
  obtain rfl : dV = .none := Dflts.none hD hdf
  obtain rfl : kV = .none := Dflts.noKw hD
  obtain ⟨a, vs, ns, rfl, rfl, hobj, hints, hlen⟩ := script_of hn hpre hwl
  refine enter_call (codeAny_mono (call w s₀ s₁ mg mb fa o pm cd doc a vs ns G Y ho (fd_plain hd) hcd hmg hobj hints hlen hg) fun r s' hq => ?_)
  obtain ⟨rfl, h2, h3, h4⟩ := hq
  exact ⟨.inl ⟨.bool true, .bool true, [], rfl, fun _ => rfl, .bool true, post_true l _, fun _ => ⟨List.Pairwise.nil, fun _ hm => (nomatch hm)⟩⟩, h2, h3, h4⟩
section
variable {prog : Program} {w : World} {A : Around} {E : Value → Shared → Prop} {s : Shared} {K : Frag}
end
end Att
namespace L2
open PySem PySem.Spec PyProof.Rows
theorem vals_ints : ∀ {vs : List Value} {ns : List Int}, IntsAre vs ns → Vals (ns.map V.int) vs
  | _, _, .nil => .nil
  | _, _, .cons n t h => .cons ⟨t, rfl⟩ (vals_ints h)
def Only (H : Hp) : Prop := ∀ b, H b = none ∨ ∃ o xs, H b = some (.frz o (.lst xs))
theorem law_call {P : Program} {w : World} {K : PySem.W.Frag} {mg mb : Str → Option Value} {CX : CXT} {k : Nat} {fa a : Addr} {fd : FuncData} {x : Str} {sp : Sp} {s₁ : Shared} {vs : List Value} {ns : List Int}
    (KX : K.In s₁.heap) (hns : s₁.heap.Ns mainGlobals mg) (hb : s₁.heap.Ns builtinsNs mb) (hbb : ∀ x : Str, x ≠ "__name__" → mb x = bootBuiltins x) (hlim : s₁.heap.NoLimit) (hg : s₁.gens = #[])
    (ha : s₁.heap.get? a = some { cls := .type "list", data := .seq vs.toArray }) (hi : IntsAre vs ns) (hl : ns.length ≤ sizeLine) (hr : Room k callerA)
    (F : ∀ base : Heap, K.In base → base.Ns mainGlobals mg → FnOk P w K mg base CX k fa fd [x] sp) (hbind : ∀ (s : Shared) (u : Value), BindsTo s fd ⟨[u], []⟩ [(x, u)])
    (hsp : ∀ H : Hp, Only H → SqL K H a (ns.map V.int) → sp [.ref a] H (fun v _ => v = .bl true) fun _ _ _ => False)
    (hCX : ∀ H e s', CX [] H s₁ (fun _ _ _ => False) e s' → False) :
    codeAny (model P w) callerA (.call (.ref fa) ⟨[.ref a], []⟩) (fun r s' => r = .ok (.ret (.bool true)) ∧ OldK s₁.heap s'.heap ∧ s'.os = s₁.os ∧ AllBare s'.gens) s₁ := by
  have rv := vals_ints hi
  have lenV := hi.length
  -- from an abstract heap in which nothing but the script may be tracked
  have core : ∀ H : Hp, Only H → SqL K H a (ns.map V.int) → HOk P w H s₁.heap → (∀ b, H b ≠ none → b = a) → (H a ≠ none → K.lookup a = none) →
      codeAny (model P w) callerA (.call (.ref fa) ⟨[.ref a], []⟩) (fun r s' => r = .ok (.ret (.bool true)) ∧ OldK s₁.heap s'.heap ∧ s'.os = s₁.os ∧ AllBare s'.gens) s₁ := by
    intro H hO hS hok hA hK
    have base_of : ∀ {b : Addr} {o : Obj}, s₁.heap.get? b = some o → H b = none → (hidT s₁.heap H).get? b = some o := fun e n => hidT_get e n
    have noA : ∀ {b : Addr} {o : Obj} {es : Array DictEntry} {ep : Nat}, s₁.heap.get? b = some o → o.data = .dict es ep → H b = none := fun {b o es ep} e d => by
      cases q : H b with
      | none => rfl
      | some u =>
        have e' : b = a := hA b (by rw [q]; simp)
        subst e'
        rw [ha] at e; cases e
        have d' : Data.seq vs.toArray _ = Data.dict es ep := d
        cases d'
    have nsK : ∀ {b : Addr} {m : Str → Option Value}, s₁.heap.Ns b m → (hidT s₁.heap H).Ns b m := fun {b m} ⟨o, es, ep, e, d, r⟩ => ⟨o, es, ep, base_of e (noA e d), d, r⟩
    have hKb : K.In (hidT s₁.heap H) := fun b o e => base_of (KX b o e) (by
      cases q : H b with
      | none => rfl
      | some u =>
        have e' : b = a := hA b (by rw [q]; simp)
        subst e'
        rw [hK (by rw [q]; simp)] at e; cases e)
    have hM : Mod K mg (hidT s₁.heap H) := ⟨hKb, nsK hns, ⟨mb, nsK hb, hbb⟩, let ⟨mc, h1, h2⟩ := hlim; ⟨mc, nsK h1, h2⟩⟩
    have e0 : Env0 P w K mg (hidT s₁.heap H) callerA [] s₁ H := ⟨rfl, hM, fun b o e => of_hidT e, Nat.le_of_eq (hidT_size _ _), trivial, fun b hb => absurd (show b ∈ ([] : List Addr) from hb) (by simp), hok, .of_eq hg⟩
    refine codeAny_mono ((F _ hKb (nsK hns)).run callerA [] s₁ H ⟨[.ref a], []⟩ [.ref a] [.ref a] _ _ hr e0 (hbind s₁ (.ref a)) (.cons rfl .nil) (hsp H hO hS)) fun r s' h => ?_
    cases r with
    | error e => exact (hCX H e s' h).elim
    | ok fl =>
      cases fl with
      | next => exact False.elim h
      | brk => exact False.elim h
      | cont => exact False.elim h
      | ret u =>
        obtain ⟨v, H', os, bare, un, hok', r', q⟩ := h
        have q' : v = .bl true := q
        subst q'
        obtain rfl : u = Value.bool true := r'
        refine ⟨rfl, OldK.of_keep fun b o e => ?_, os, bare⟩
        cases q : H b with
        | none => exact un.keep b o e q (by intro z; exact absurd (show b ∈ ([] : List Addr) from z) (by simp)) (by simp)
        | some u =>
          rcases hO b with z | ⟨ob, xs, z⟩
          · rw [q] at z; cases z
          · have z2 := un.frzs b ob _ z
            obtain ⟨e1, _⟩ := hok b _ z
            obtain ⟨e2, _⟩ := hok' b _ z2
            rw [e] at e1; cases e1
            exact e2
  cases hk : K.lookup a with
  | some o =>
    -- the script is one of the module's own objects
    have e := KX a o hk
    rw [ha] at e
    cases e
    refine core (fun _ => none) (fun _ => .inl rfl) (.inr ⟨_, vs.toArray, _, hk, rfl, rfl, rfl, by rw [List.size_toArray, lenV]; exact hl, by simpa using rv⟩) (fun b u z => by have z' : (none : Option HO) = some u := z; cases z') (fun b z => absurd rfl z) fun z => absurd rfl z
  | none =>
    refine core (fun b => if b = a then some (.frz { cls := .type "list", data := .seq vs.toArray } (.lst (ns.map V.int))) else none) (fun b => ?_) (.inl (.inr ⟨{ cls := .type "list", data := .seq vs.toArray }, if_pos rfl⟩)) (fun b u z => ?_) (fun b z => ?_) fun _ => hk
    · by_cases hb : b = a
      · exact .inr ⟨_, _, if_pos hb⟩
      · exact .inl (if_neg hb)
    · by_cases hb : b = a
      · have z' := (if_pos hb).symm.trans z
        cases z'
        subst hb
        exact ⟨ha, by rw [List.length_map]; exact hl, vs, _, rv, ha⟩
      · have z' := (if_neg hb).symm.trans z
        cases z'
    · by_cases hb : b = a
      · exact hb
      · exact absurd (if_neg hb) z
end L2
namespace L2
open PySem PySem.Spec PyProof.Rows
theorem walk_of {l : PySem.W.OpenLaw} {n k : Nat} {q : Program} {loose : List Str} {XP : (Str → Option Value) → Heap → Prop} {YP : World → Heap → Prop} {d : DefRec} {K : Params → PySem.W.Frag} {CX : World → CXT} {sp : World → Sp} {x : Str}
    (hn : l.most = some n) (hn2 : n ≤ sizeLine) (hdf : d.params.defaults = []) (hr : Room k callerA)
    (hY : ∀ (w : World) (h : Heap), YP w h → (K w.params).In h)
    (F : ∀ (w : World) (mg : Str → Option Value) (fa : Addr) (h : Heap), (K w.params).In h → h.Ns mainGlobals mg → mg d.name = some (.ref fa) →
      ∃ fd : FuncData, (∀ (s : Shared) (u : Value), BindsTo s fd ⟨[u], []⟩ [(x, u)]) ∧
        ∀ base : Heap, (K w.params).In base → base.Ns mainGlobals mg → FnOk l.prog w (K w.params) mg base (CX w) k fa fd [x] (sp w))
    (hsp : ∀ (w : World) (H : Hp) (a : Addr) (ns : List Int), ns.length ≤ n → Only H → SqL (K w.params) H a (ns.map V.int) → sp w [.ref a] H (fun v _ => v = .bl true) fun _ _ _ => False)
    (hCX : ∀ (w : World) (H : Hp) (s : Shared) (e : Value) (s' : Shared), CX w [] H s (fun _ _ _ => False) e s' → False) :
    PySem.W.WalkO q loose XP YP l.row.toRowW d [] (fun f vs => PySem.call f vs) := by
  refine Att.attach_call hn hdf fun w s₀ s₁ mg mb fa o pm cd doc a vs ns G Y ho hd hcd hmg hobj hints hlen hg => ?_
  have KX := hY w _ Y
  obtain ⟨fd, hb, hF⟩ := F w mg fa _ KX G.T.g hmg
  exact law_call KX G.T.g G.T.b G.T.builtins G.T.nolimit hg hobj hints (Nat.le_trans hlen hn2) hr hF hb (fun H hO hS => hsp w H a ns hlen hO hS) fun H e s' => hCX w H s₁ e s'
end L2
/- THE LAST THEOREM (shape; LID, My.* are yours):
   My.Adr: a structure of the addresses that your layer names (classes, functions); My.Txt K t: a structure (Prop) of the equations over K;
   My.txt_mk : {K} {implicit addresses ..} (e1 : nsIn K mainGlobals "law" = some (some (.ref f))) (e2 : K.lookup f = some ⟨oc, od, .func (fnOf "law" "law" params body scope dV kV doc pm an cdv ct), sl⟩) (e3 : codeIn K cdv "law" = true) .. : ∃ t, My.Txt K t
set_option maxRecDepth 100000 in
set_option maxHeartbeats 0 in
theorem PySem.Challenge.cw_LID_holds : PySem.Challenge.rw_LID.Holds := by
  w_on; o_law; k_head; (case hw => w_witness2)
  k_fill
  refine L2.walk_of (l := PySem.Challenge.rw_LID) (n := 63) (k := 40) (x := "script") (CX := fun w => ..) (sp := fun _ => My.sp_law) rfl (by decide) rfl ⟨rfl, by decide, by decide⟩ (fun w h Y => PySem.W.kIn_of Y) ?F ?S ?C
  case F =>
    intro w mg fa h KX G hmg
    have T : ∃ t, My.Txt (L2.KOf KX) t := by
      dsimp only [L2.KOf]                          -- K must stand as «<heap const> w.params» for k_is
      refine' My.txt_mk ?e1 ?e2 ?e3 ..
      (case e1 => PySem.W.k_is)                    -- in the order: a name -> its address -> its object -> its parts
      (case e2 => PySem.W.k_is)
      ..
    obtain ⟨t, T⟩ := T
    have e0 := hmg.symm.trans (PySem.W.mg_of KX G T.law)
    cases e0                                       -- fa is the law's own address
    exact ⟨_, fun s u => .of_eq rfl, fun base kb nb => My.law_fn T kb nb⟩     -- if «.of_eq rfl» comes too early: refine' ⟨_, ?b, fun base kb nb => My.law_fn T kb nb⟩; exact fun s u => .of_eq rfl
  case S => exact fun w H a ns hl hO hS => ..
  case C => exact ..
(the tactic k_is has no namespace: write k_is) -/
namespace L2
open PySem PySem.Spec PyProof.Rows
def defArgs (s : Stmt) : Arguments := match s with
  | .FunctionDef _ a _ _ _ _ _ _ _ _ => a
  | _ => { posonlyargs := [], args := [], vararg := none, kwonlyargs := [], kw_defaults := [], kwarg := none, defaults := [] }
def defBody (s : Stmt) : List Stmt := match s with
  | .FunctionDef _ _ b _ _ _ _ _ _ _ => b
  | _ => []
def defScope (s : Stmt) : Scope := match s with
  | .FunctionDef _ _ _ _ _ _ sc _ _ _ => sc
  | _ => { kind := .function, names := [], isGenerator := false, isCoroutine := false }
abbrev CX0 : CXT := fun _ _ _ _ _ _ => False
abbrev E0 : XK := fun _ _ _ => False
theorem pass0 {X : Cx} : Passes CX0 X E0 := fun _ _ _ _ _ _ _ h => h.elim
structure Fun (K : PySem.W.Frag) (x qual : Str) (st : Stmt) (f : Addr) (fd : FuncData) : Prop where
  ex : ∃ (oc : Value) (od : Option Addr) (kV doc pm : Value) (an : Option Addr) (cdv ct : Value) (osl : Array (Option Value)),
    fd = PySem.W.fnOf x qual (defArgs st) (defBody st) (defScope st) .none kV doc pm an cdv ct ∧ K.lookup f = some ⟨oc, od, .func fd, osl⟩ ∧ PySem.W.codeIn K cdv qual = true
  kp : PySem.W.keepIn K (.ref f) = true
section
variable {P : Program} {w : World} {K : PySem.W.Frag} {mg : Str → Option Value} {base : Heap}
theorem Fun.ok {x qual : Str} {st : Stmt} {f : Addr} {fd : FuncData} {N ps : List Str} {k : Nat} {sp : Sp} (F : Fun K x qual st f fd) (S : FnScope N ps (defScope st)) (len : ∀ vs H Q E, sp vs H Q E → vs.length = ps.length)
    (hbody : ∀ (cdv : Value) (A : Around) (outer : List Env) (s : Shared) (H : Hp) (vs : List V) (Q : VK) (E : XK), Room k (A.deeper (envOfC qual (defScope st) s.heap.objs.size f cdv)) → sp vs H Q E →
      ∃ t, PSs (cxOf CX0 P w K mg base N qual (defScope st) f cdv A outer s H E).nox (defBody st) t ∧ t { nx := fun _ H' => Q .non H', rt := Q } (start N vs) H) : FnOk P w K mg base CX0 (k + 1) f fd ps sp := by
  obtain ⟨oc, od, kV, doc, pm, an, cdv, ct, osl, rfl, lk, hcd⟩ := F.ex
  refine fn_of lk hcd S len fun A outer s H vs Q E hr hsp => ?_
  obtain ⟨t, h, q⟩ := hbody cdv A outer s H vs Q E hr hsp
  exact ⟨t, h.nox, q⟩
theorem Fun.binds {x qual : Str} {st : Stmt} {f : Addr} {fd : FuncData} {ps : List Str} (F : Fun K x qual st f fd)
    (h : ∀ (kV doc pm : Value) (an : Option Addr) (cdv ct : Value) (us : List Value), us.length = ps.length → bindArgs (PySem.W.fnOf x qual (defArgs st) (defBody st) (defScope st) .none kV doc pm an cdv ct) ⟨us, []⟩ = pure (ps.zip us)) : Binds K fd ps [] := by
  obtain ⟨oc, od, kV, doc, pm, an, cdv, ct, osl, rfl, lk, hcd⟩ := F.ex
  exact .all (h kV doc pm an cdv ct)
theorem fun_mk {x qual : Str} {st : Stmt} {f : Addr} {oc : Value} {od an : Option Addr} {osl : Array (Option Value)} {kV doc pm cdv ct : Value} (l : K.lookup f = some ⟨oc, od, .func (PySem.W.fnOf x qual (defArgs st) (defBody st) (defScope st) .none kV doc pm an cdv ct), osl⟩)
    (c : PySem.W.codeIn K cdv qual = true) (k : PySem.W.keepIn K (.ref f) = true) : Fun K x qual st f (PySem.W.fnOf x qual (defArgs st) (defBody st) (defScope st) .none kV doc pm an cdv ct) := ⟨⟨oc, od, kV, doc, pm, an, cdv, ct, osl, rfl, l, c⟩, k⟩
end
theorem small1000 {n : Nat} (h : n ≤ 1000) : n < sizeLine := Nat.lt_of_le_of_lt h (by decide)
section
variable {X : Cx}
theorem pv (i : Nat) {x : Str} {pos : Pos} (hN : X.N[i]? = some x := by rfl) (hv : Vis X.env.scope x := by first | exact Or.inl rfl | exact Or.inr (Or.inl rfl) | exact Or.inr (Or.inr rfl)) (hd : (x == ("__debug__" : Str)) = false := by decide)
    (hcd : (x == ("__classdict__" : Str)) = false := by decide) : PE X (.Name x pos) (tVar i) := pe_var hN hv hd hcd
end
theorem iteF {A B : Prop} (h : B) : if false = true then A else B := by
  rw [if_neg Bool.false_ne_true]
  exact h
theorem iteT {A B : Prop} (h : A) : if true = true then A else B := by
  rw [if_pos rfl]
  exact h
def Same (H H' : Hp) : Prop := ∀ b o, H b = some o → H' b = some o
theorem Same.refl (H : Hp) : Same H H := fun _ _ h => h
theorem Same.trans {H H1 H2 : Hp} (a : Same H H1) (b : Same H1 H2) : Same H H2 := fun c o h => b c o (a c o h)
theorem Same.free {H H' : Hp} (e : Same H H') {l : Addr} (h : H' l = Option.none) : H l = Option.none := by
  cases q : H l with
  | none => rfl
  | some o =>
    rw [e l o q] at h
    cases h
theorem Same.seq {K : PySem.W.Frag} {H H' : Hp} {a : Addr} {xs : List V} (e : Same H H') (h : SqL K H a xs) : SqL K H' a xs := by
  rcases h with (h | ⟨o, h⟩) | h
  · exact .inl (.inl (e _ _ h))
  · exact .inl (.inr ⟨o, e _ _ h⟩)
  · exact .inr h
end L2
namespace L2
open PySem PySem.Spec PyProof.Rows
section
variable {κ : Type} [DecidableEq κ]
def valV (kvs : List (κ × V)) (k : κ) : Option V := (kvs.find? fun kv => decide (kv.1 = k)).map (·.2)
def putK (kvs : List (κ × V)) (k : κ) (v : V) : List (κ × V) :=
  if (kvs.any fun kv => decide (kv.1 = k)) = true then kvs.map (fun kv => if kv.1 = k then (kv.1, v) else kv) else kvs ++ [(k, v)]
def dropK (kvs : List (κ × V)) (k : κ) : List (κ × V) := kvs.filter fun kv => decide (kv.1 ≠ k)
theorem valV_pos {p : κ × V} {r : List (κ × V)} {k : κ} (e : p.1 = k) : valV (p :: r) k = some p.2 := by simp [valV, List.find?_cons, e]
theorem valV_neg {p : κ × V} {r : List (κ × V)} {k : κ} (e : ¬ p.1 = k) : valV (p :: r) k = valV r k := by simp [valV, List.find?_cons, e]
theorem valV_any (k : κ) : ∀ kvs : List (κ × V), (kvs.any fun kv => decide (kv.1 = k)) = (valV kvs k).isSome
  | [] => rfl
  | p :: r => by
    rw [List.any_cons]
    by_cases e : p.1 = k
    · simp only [valV_pos e, decide_eq_true e, Bool.true_or, Option.isSome_some]
    · rw [valV_neg e, decide_eq_false e, Bool.false_or]; exact valV_any k r
theorem valV_map (k j : κ) (y : V) : ∀ kvs : List (κ × V), valV (kvs.map fun kv => if kv.1 = k then (kv.1, y) else kv) j = (valV kvs j).map fun x => if j = k then y else x
  | [] => rfl
  | p :: r => by
    have ih := valV_map k j y r
    rw [List.map_cons]
    by_cases h : p.1 = k
    · rw [if_pos h]
      by_cases e : p.1 = j
      · rw [valV_pos (p := (p.1, y)) e, valV_pos e, Option.map_some, if_pos (e.symm.trans h)]
      · rw [valV_neg (p := (p.1, y)) e, valV_neg e, ih]
    · rw [if_neg h]
      by_cases e : p.1 = j
      · rw [valV_pos (p := p) e, valV_pos e, Option.map_some, if_neg (fun z => h (e.trans z))]
      · rw [valV_neg (p := p) e, valV_neg e, ih]
theorem valV_snoc (k j : κ) (y : V) : ∀ kvs : List (κ × V), valV kvs k = none → valV (kvs ++ [(k, y)]) j = if j = k then some y else valV kvs j
  | [], _ => by
    by_cases e : k = j
    · rw [if_pos e.symm]; exact valV_pos (p := (k, y)) e
    · rw [if_neg (fun z => e z.symm)]; exact valV_neg (p := (k, y)) e
  | p :: r, hn => by
    rw [List.cons_append]
    have hk : ¬ p.1 = k := fun z => by rw [valV_pos z] at hn; cases hn
    rw [valV_neg hk] at hn
    have ih := valV_snoc k j y r hn
    by_cases e : p.1 = j
    · rw [valV_pos e, valV_pos e, if_neg (fun z => hk (e.trans z))]
    · rw [valV_neg e, valV_neg e, ih]
theorem valV_put (kvs : List (κ × V)) (k j : κ) (y : V) : valV (putK kvs k y) j = if j = k then some y else valV kvs j := by
  unfold putK
  by_cases a : (kvs.any fun kv => decide (kv.1 = k)) = true
  · rw [if_pos a, valV_map]
    rw [valV_any] at a
    by_cases e : j = k
    · obtain ⟨x, hx⟩ := Option.isSome_iff_exists.mp a
      rw [if_pos e, e, hx, Option.map_some, if_pos rfl]
    · rw [if_neg e]
      cases valV kvs j with
      | none => rfl
      | some x => rw [Option.map_some, if_neg e]
  · rw [if_neg a]
    refine valV_snoc k j y kvs ?_
    rw [valV_any] at a
    cases q : valV kvs k with
    | none => rfl
    | some x => rw [q] at a; exact (a rfl).elim
theorem length_putK (kvs : List (κ × V)) (k : κ) (v : V) : (putK kvs k v).length ≤ kvs.length + 1 := by
  unfold putK
  split
  · rw [List.length_map]; omega
  · rw [List.length_append, List.length_cons, List.length_nil]; omega
theorem RelO.isSome_eq {o : Option V} {u : Option Value} (r : RelO o u) : o.isSome = u.isSome := by
  cases o with
  | none => cases u with
    | none => rfl
    | some _ => exact (show False from r).elim
  | some _ => cases u with
    | none => exact (show False from r).elim
    | some _ => rfl
theorem KV.val {kvs : List (κ × V)} {vs : List (κ × Value)} (r : KV kvs vs) (k : κ) : RelO (valV kvs k) (valueAt vs k) := by
  unfold KV at r
  induction r with
  | nil => exact True.intro
  | @cons p q ps qs h t ih =>
    obtain ⟨h1, h2⟩ := h
    by_cases e : p.1 = k
    · have e' : q.1 = k := h1.symm.trans e
      have b : valueAt (q :: qs) k = some q.2 := by simp [valueAt, List.find?_cons, e']
      rw [valV_pos e, b]; exact h2
    · have e' : ¬ q.1 = k := fun z => e (h1.trans z)
      have b : valueAt (q :: qs) k = valueAt qs k := by simp [valueAt, List.find?_cons, e']
      rw [valV_neg e, b]; exact ih
theorem KV.any {kvs : List (κ × V)} {vs : List (κ × Value)} (r : KV kvs vs) (k : κ) : (kvs.any fun kv => decide (kv.1 = k)) = vs.any fun kv => decide (kv.1 = k) := by
  unfold KV at r
  induction r with
  | nil => rfl
  | cons h t ih => rw [List.any_cons, List.any_cons, ih, h.1]
theorem KV.repl {kvs : List (κ × V)} {vs : List (κ × Value)} (r : KV kvs vs) (k : κ) {y : V} {u : Value} (ry : RelV y u) :
    KV (kvs.map fun kv => if kv.1 = k then (kv.1, y) else kv) (vs.map fun kv => if kv.1 = k then (kv.1, u) else kv) := by
  unfold KV at r ⊢
  induction r with
  | nil => exact .nil
  | @cons p q ps qs h t ih =>
    rw [List.map_cons, List.map_cons]
    refine .cons ?_ ih
    obtain ⟨h1, h2⟩ := h
    by_cases e : p.1 = k
    · rw [if_pos e, if_pos (h1.symm.trans e)]; exact ⟨h1, ry⟩
    · rw [if_neg e, if_neg (fun z => e (h1.trans z))]; exact ⟨h1, h2⟩
theorem KV.put {kvs : List (κ × V)} {vs : List (κ × Value)} (r : KV kvs vs) (k : κ) {y : V} {u : Value} (ry : RelV y u) : KV (putK kvs k y) (stored vs k u) := by
  unfold putK stored
  rw [r.any k]
  by_cases e : (vs.any fun kv => decide (kv.1 = k)) = true
  · rw [if_pos e, if_pos e]; exact r.repl k ry
  · rw [if_neg e, if_neg e]; exact Paired.snoc r ⟨rfl, ry⟩
theorem KV.drop {kvs : List (κ × V)} {vs : List (κ × Value)} (r : KV kvs vs) (k : κ) : KV (dropK kvs k) (without vs k) := by
  unfold KV at r ⊢
  unfold dropK without
  induction r with
  | nil => exact .nil
  | @cons p q ps qs h t ih =>
    obtain ⟨h1, h2⟩ := h
    rw [List.filter_cons, List.filter_cons]
    by_cases e : p.1 = k
    · have a : ¬ decide (p.1 ≠ k) = true := by simp [e]
      have b : ¬ decide (q.1 ≠ k) = true := by simp [h1.symm.trans e]
      rw [if_neg a, if_neg b]; exact ih
    · have e' : ¬ q.1 = k := fun z => e (h1.trans z)
      have a : decide (p.1 ≠ k) = true := by simp [e]
      have b : decide (q.1 ≠ k) = true := by simp [e']
      rw [if_pos a, if_pos b]; exact .cons ⟨h1, h2⟩ ih
theorem KV.length {kvs : List (κ × V)} {vs : List (κ × Value)} (r : KV kvs vs) : kvs.length = vs.length := Paired.length r
theorem dropK_le (kvs : List (κ × V)) (k : κ) : (dropK kvs k).length ≤ kvs.length := List.length_filter_le _ _
end
theorem kV_is {P : Program} {w : World} {k : Key} {u : Value} (r : RelV (kV k) u) : (mixKind P w).is k u = true := by
  cases k with
  | inl i => obtain ⟨t, e⟩ := (show ∃ t, u = Value.int i t from r); subst e; exact mixKind_int P w i t
  | inr x => obtain ⟨t, e⟩ := (show ∃ t, u = Value.str x t from r); subst e; exact mixKind_str P w x t
theorem items_are {P : Program} {w : World} : ∀ {ks : List Key} {us : List Value}, Vals (ks.map kV) us → ItemsAre (mixKind P w) ks us
  | [], _, r => by rw [List.map_nil] at r; cases r; exact .nil
  | k :: ks, _, r => by
    rw [List.map_cons] at r
    cases r with
    | cons h t => exact .cons (kV_is h) (items_are t)
abbrev KT (H : Hp) : List (List Key × V) → List (List Key × Addr × Value) → Prop := Paired fun p q => p.1 = q.1 ∧ H q.2.1 = some (.tup (p.1.map kV)) ∧ RelV p.2 q.2.2
theorem KT.val {H : Hp} {kvs : List (List Key × V)} {xs : List (List Key × Addr × Value)} (r : KT H kvs xs) (k : List Key) : RelO (valV kvs k) ((atKey xs k).map (·.2)) := by
  induction r with
  | nil => exact True.intro
  | @cons p q ps qs h t ih =>
    obtain ⟨h1, _, h2⟩ := h
    by_cases e : p.1 = k
    · have e' : q.1 = k := h1.symm.trans e
      have b : atKey (q :: qs) k = some q.2 := by simp [atKey, List.find?_cons, e']
      rw [valV_pos e, b]; exact h2
    · have e' : ¬ q.1 = k := fun z => e (h1.trans z)
      have b : atKey (q :: qs) k = atKey qs k := by simp [atKey, List.find?_cons, e']
      rw [valV_neg e, b]; exact ih
theorem KT.repl {H : Hp} {kvs : List (List Key × V)} {xs : List (List Key × Addr × Value)} (r : KT H kvs xs) (k : List Key) {y : V} {u : Value} (ry : RelV y u) :
    KT H (kvs.map fun kv => if kv.1 = k then (kv.1, y) else kv) (xs.map (putAt k u)) := by
  induction r with
  | nil => exact .nil
  | @cons p q ps qs h t ih =>
    rw [List.map_cons, List.map_cons]
    refine .cons ?_ ih
    obtain ⟨h1, h2, h3⟩ := h
    unfold putAt
    by_cases e : p.1 = k
    · rw [if_pos e, if_pos (h1.symm.trans e)]; exact ⟨h1, h2, ry⟩
    · rw [if_neg e, if_neg (fun z => e (h1.trans z))]; exact ⟨h1, h2, h3⟩
theorem KT.put {H : Hp} {kvs : List (List Key × V)} {xs : List (List Key × Addr × Value)} (r : KT H kvs xs) (k : List Key) {b : Addr} {y : V} {u : Value} (hb : H b = some (.tup (k.map kV))) (ry : RelV y u) :
    KT H (putK kvs k y) (storedH xs k b u) := by
  have e : (kvs.any fun kv => decide (kv.1 = k)) = (atKey xs k).isSome := by
    rw [valV_any, (r.val k).isSome_eq, Option.isSome_map]
  unfold putK storedH
  rw [e]
  by_cases q : (atKey xs k).isSome = true
  · rw [if_pos q, if_pos q]; exact r.repl k ry
  · rw [if_neg q, if_neg q]; exact Paired.snoc r ⟨rfl, hb, ry⟩
theorem KT.keeps {H H' : Hp} {kvs : List (List Key × V)} {xs : List (List Key × Addr × Value)} (r : KT H kvs xs) (ht : ∀ b ys, H b = some (.tup ys) → H' b = some (.tup ys)) : KT H' kvs xs :=
  Paired.mapP r fun _ _ z => ⟨z.1, ht _ _ z.2.1, z.2.2⟩
section
variable {P : Program} {w : World} {H : Hp} {h : Heap} {a : Addr}
theorem rd_of {u : HO} (ok : HOk P w H h) (e : Rd H a u) : ObjOk P w H h a u := e.ok ok
theorem dk_rd {kvs : List (Key × V)} (ok : HOk P w H h) (e : Rd H a (.dK kvs)) : kvs.length ≤ sizeLine ∧ (a == sysModules) = false ∧ ∃ vs, KV kvs vs ∧ h.DictOf (mixKind P w) a vs :=
  show ObjOk P w H h a (.dK kvs) from rd_of ok e
theorem dk_of {kvs : List (Key × V)} (ok : HOk P w H h) (e : H a = some (.dK kvs)) : kvs.length ≤ sizeLine ∧ (a == sysModules) = false ∧ ∃ vs, KV kvs vs ∧ h.DictOf (mixKind P w) a vs := dk_rd ok (.inl e)
theorem key_of {ks : List Key} (ok : HOk P w H h) (e : H a = some (.tup (ks.map kV))) : (tupleKind (mixKind P w)).is h ks a := by
  obtain ⟨_, its, r, o, h1, h2, n, h3⟩ := (show ObjOk P w H h a (.tup (ks.map kV)) from ok a _ e)
  exact ⟨o, its.toArray, n, h1, h2, h3, by simpa using items_are r⟩
theorem dt_rd {kvs : List (List Key × V)} (ok : HOk P w H h) (e : Rd H a (.dT kvs)) : kvs.length ≤ sizeLine ∧ (a == sysModules) = false ∧
    ∃ xs, KT H kvs xs ∧ h.DictOfH (tupleKind (mixKind P w)) a xs := by
  obtain ⟨z, y, xs, r, o, es, ep, h1, h2, h3, h4, h5⟩ := (show ObjOk P w H h a (.dT kvs) from rd_of ok e)
  refine ⟨z, y, xs, r, o, es, ep, h1, h2, h3, h4, fun x hx => ?_, h5⟩
  have all : ∀ {l : List (List Key × V)} {m : List (List Key × Addr × Value)}, KT H l m → ∀ x ∈ m, (tupleKind (mixKind P w)).is h x.1 x.2.1 := by
    intro l m q
    induction q with
    | nil => intro x hx; exact nomatch hx
    | @cons p q ps qs hq t ih =>
      intro x hx
      rcases List.mem_cons.mp hx with e | hx
      · subst e
        exact key_of ok (by rw [← hq.1]; exact hq.2.1)
      · exact ih x hx
  exact all r x hx
theorem dt_of {kvs : List (List Key × V)} (ok : HOk P w H h) (e : H a = some (.dT kvs)) : kvs.length ≤ sizeLine ∧ (a == sysModules) = false ∧
    ∃ xs, KT H kvs xs ∧ h.DictOfH (tupleKind (mixKind P w)) a xs := dt_rd ok (.inl e)
end
def DGet (H : Hp) (a : Addr) (y : V) (r : Option V) : Prop :=
  (∃ kvs k, Rd H a (.dK kvs) ∧ y = kV k ∧ r = valV kvs k) ∨ ∃ kvs k b, Rd H a (.dT kvs) ∧ y = .ref b ∧ H b = some (.tup (k.map kV)) ∧ r = valV kvs k
def DPut (H : Hp) (a : Addr) (y v : V) (H' : Hp) : Prop :=
  (∃ kvs k, H a = some (.dK kvs) ∧ y = kV k ∧ kvs.length < sizeLine ∧ H' = upd H a (.dK (putK kvs k v))) ∨
  ∃ kvs k b, H a = some (.dT kvs) ∧ y = .ref b ∧ H b = some (.tup (k.map kV)) ∧ kvs.length < sizeLine ∧ H' = upd H a (.dT (putK kvs k v))
theorem DGet.k {H : Hp} {a : Addr} {kvs : List (Key × V)} {k : Key} (e : H a = some (.dK kvs)) : DGet H a (kV k) (valV kvs k) := .inl ⟨kvs, k, .inl e, rfl, rfl⟩
theorem DPut.k {H : Hp} {a : Addr} {kvs : List (Key × V)} {k : Key} {v : V} (e : H a = some (.dK kvs)) (hl : kvs.length < sizeLine) : DPut H a (kV k) v (upd H a (.dK (putK kvs k v))) := .inl ⟨kvs, k, e, rfl, hl, rfl⟩
section
variable {X : Cx} {pins : List (Addr × Obj)} {σ : St} {H : Hp} {s : Shared} {a : Addr} {y v : V} {u r : Value} {o : Option V} {A : Around} {E : Value → Shared → Prop}
theorem Inv.big (I : Inv X pins σ H s) : sysModules < s.heap.objs.size := by
  have h : mainGlobals < s.heap.objs.size := (I.mod.glob.keeps I.bk).lt
  exact Nat.lt_trans (by decide) h
theorem d_getItem {Q : Value → Shared → Prop} (hu : A.units + 1 < cLine) (I : Inv X pins σ H s) (g : DGet H a y (some v)) (ry : RelV y u) (h : ∀ w' s', Inv X pins σ H s' → RelV v w' → Q w' s') :
    wpAny (model X.prog X.w) A (getItem (.ref a) u) Q E s := by
  rcases g with ⟨kvs, k, e, ey, l⟩ | ⟨kvs, k, b, e, ey, eb, l⟩
  · subst ey
    obtain ⟨z, hd, vs, rel, dd⟩ := dk_rd I.hok e
    obtain ⟨w', hw, rw'⟩ := RelO.some_of (v := v) (o := valueAt vs k) (by rw [l]; exact rel.val k)
    exact wpAny_getItem_of (kV_is ry) dd.mapOf hw (h w' _ (I.tok _) rw')
  · subst ey
    cases (show u = Value.ref b from ry)
    obtain ⟨z, hd, xs, rel, dd⟩ := dt_rd I.hok e
    obtain ⟨w', hw, rw'⟩ := RelO.some_of (v := v) (o := (atKey xs k).map (·.2)) (by rw [l]; exact rel.val k)
    obtain ⟨p, hp, hp2⟩ := Option.map_eq_some_iff.mp hw
    refine wpAny_getItem_heap (tupleKind_room_in1 hu) (key_of I.hok eb) dd hp ?_
    rw [hp2]
    exact h w' _ (I.tok _) rw'
theorem d_in {Q : Value → Shared → Prop} (hu : A.units + 1 < cLine) (I : Inv X pins σ H s) (g : DGet H a y o) (ry : RelV y u) (h : ∀ s', Inv X pins σ H s' → Q (.bool o.isSome) s') :
    wpAny (model X.prog X.w) A (compareOp .In u (.ref a)) Q E s := by
  rcases g with ⟨kvs, k, e, ey, l⟩ | ⟨kvs, k, b, e, ey, eb, l⟩
  · subst ey
    obtain ⟨z, hd, vs, rel, dd⟩ := dk_rd I.hok e
    refine wpAny_in_of (kV_is ry) hd dd.mapOf ?_
    rw [← (rel.val k).isSome_eq, ← l]
    exact h _ (I.tok _)
  · subst ey
    cases (show u = Value.ref b from ry)
    obtain ⟨z, hd, xs, rel, dd⟩ := dt_rd I.hok e
    refine wpAny_in_heap (tupleKind_room_in1 hu) (key_of I.hok eb) hd dd ?_
    have q := (rel.val k).isSome_eq
    rw [Option.isSome_map] at q
    rw [← q, ← l]
    exact h _ (I.tok _)
theorem d_notIn {Q : Value → Shared → Prop} (hu : A.units + 1 < cLine) (I : Inv X pins σ H s) (g : DGet H a y o) (ry : RelV y u) (h : ∀ s', Inv X pins σ H s' → Q (.bool (!o.isSome)) s') :
    wpAny (model X.prog X.w) A (compareOp .NotIn u (.ref a)) Q E s := by
  rcases g with ⟨kvs, k, e, ey, l⟩ | ⟨kvs, k, b, e, ey, eb, l⟩
  · subst ey
    obtain ⟨z, hd, vs, rel, dd⟩ := dk_rd I.hok e
    refine wpAny_notIn_of (kV_is ry) hd dd.mapOf ?_
    rw [← (rel.val k).isSome_eq, ← l]
    exact h _ (I.tok _)
  · subst ey
    cases (show u = Value.ref b from ry)
    obtain ⟨z, hd, xs, rel, dd⟩ := dt_rd I.hok e
    refine wpAny_notIn_heap (tupleKind_room_in1 hu) (key_of I.hok eb) hd dd ?_
    have q := (rel.val k).isSome_eq
    rw [Option.isSome_map] at q
    rw [← q, ← l]
    exact h _ (I.tok _)
theorem d_write {h' : Heap} {t' : Nat} {ob : HO} (I : Inv X pins σ H s) (mu : Mut (H a)) (hs : Heap.SameBut a s.heap h') (he : ∃ q, h'.get? a = some q) (new : ObjOk X.prog X.w (upd H a ob) h' a ob) :
    Inv X pins σ (upd H a ob) { s with heap := h', toks := t' } :=
  I.write (x := a) (e := a) mu (.inl rfl) (fun b q hb z => (hs.2 b hb).trans z) he new
theorem dk_new {P : Program} {w : World} {H' : Hp} {h' : Heap} {kvs : List (Key × V)} {vs : List (Key × Value)} (z : kvs.length ≤ sizeLine) (hd : (a == sysModules) = false) (rel : KV kvs vs) (dd : h'.DictOf (mixKind P w) a vs) :
    ObjOk P w H' h' a (.dK kvs) := ⟨z, hd, vs, rel, dd⟩
theorem d_setItem {H' : Hp} {Q : Unit → Shared → Prop} (hu : A.units + 1 < cLine) (I : Inv X pins σ H s) (g : DPut H a y v H') (ry : RelV y u) (rv : RelV v r) (h : ∀ s', Inv X pins σ H' s' → Q () s') :
    wpAny (model X.prog X.w) A (setItem (.ref a) u r) Q E s := by
  rcases g with ⟨kvs, k, e, ey, l, eH⟩ | ⟨kvs, k, b, e, ey, eb, l, eH⟩
  · subst ey eH
    obtain ⟨z, hd, vs, rel, dd⟩ := dk_of I.hok e
    have hz : vs.length ≤ sizeLine := by rw [← rel.length]; exact z
    have hl : (putK kvs k v).length ≤ sizeLine := by have := length_putK kvs k v; omega
    refine wpAny_setItem_pairs (hsz := hz) (kV_is ry) dd fun h' dd' hs => h _ ?_
    have he : ∃ q, h'.get? a = some q := let ⟨q, _, _, hq, _⟩ := dd'; ⟨q, hq⟩
    exact d_write I (by rw [e]; exact True.intro) hs he (dk_new hl hd (rel.put k rv) dd')
  · subst ey eH
    cases (show u = Value.ref b from ry)
    obtain ⟨z, hd, xs, rel, dd⟩ := dt_of I.hok e
    have hz : xs.length ≤ sizeLine := by rw [← Paired.length rel]; exact z
    have hl : (putK kvs k v).length ≤ sizeLine := by have := length_putK kvs k v; omega
    refine wpAny_setItem_heap (hsz := hz) (tupleKind_room_in1 hu) (key_of I.hok eb) dd fun h' dd' hs => h _ ?_
    obtain ⟨q, es, ep, hq, h2, h3, h4, _, h5⟩ := dd'
    refine d_write I (by rw [e]; exact True.intro) hs ⟨q, hq⟩ ⟨hl, hd, _, (rel.put k eb rv).keeps fun c ys ec => ?_, q, es, ep, hq, h2, h3, h4, h5⟩
    rw [upd_ne (ne_of ec e (fun z => nomatch z))]
    exact ec
end
section
variable {X : Cx} {pins : List (Addr × Obj)} {σ : St} {H : Hp} {s : Shared} {a : Addr} {kvs : List (Key × V)} {k : Key} {u : Value} {A : Around} {E : Value → Shared → Prop}
theorem d_pop {v : V} {more : List Value} {Q : Value → Shared → Prop} (I : Inv X pins σ H s) (e : H a = some (.dK kvs)) (ry : RelV (kV k) u) (l : valV kvs k = some v) (hm : more = [] ∨ ∃ x, more = [x])
    (h : ∀ w' s', Inv X pins σ (upd H a (.dK (dropK kvs k))) s' → RelV v w' → Q w' s') : wpAny (model X.prog X.w) A (call (.builtin "dict.pop") (.ref a :: u :: more)) Q E s := by
  obtain ⟨z, hd, vs, rel, dd⟩ := dk_of I.hok e
  obtain ⟨w', hw, rw'⟩ := RelO.some_of (v := v) (o := valueAt vs k) (by rw [← l]; exact rel.val k)
  have hp : (keyPart u).isSome = true := by
    cases k with
    | inl i => obtain ⟨t, q⟩ := (show ∃ t, u = Value.int i t from ry); subst q; rfl
    | inr x => obtain ⟨t, q⟩ := (show ∃ t, u = Value.str x t from ry); subst q; rfl
  have ha : argsOk "dict.pop" ⟨.ref a :: u :: more, []⟩ := by
    rcases hm with q | ⟨x, q⟩
    · subst q; exact PySem.F.args_dict_pop_2 _ _
    · subst q; exact PySem.F.args_dict_pop_3 _ _ _
  refine call_meetsIn PySem.F.slot_dict_pop dd.typeIs PySem.F.entry_dict_pop ha (meets_dict_pop_there (mixKind X.prog X.w) a (kV_is ry) more hm hp)
    ⟨vs, w', dd, by rw [← rel.length]; exact z, hw, fun h' dd' hs => h w' _ ?_ rw'⟩
  have he : ∃ q, h'.get? a = some q := let ⟨q, _, _, hq, _⟩ := dd'; ⟨q, hq⟩
  exact d_write I (by rw [e]; exact True.intro) hs he (dk_new (Nat.le_trans (dropK_le kvs k) z) hd (rel.drop k) dd')
theorem d_len {Q : Value → Shared → Prop} (I : Inv X pins σ H s) (e : Rd H a (.dK kvs)) (h : ∀ t s', Inv X pins σ H s' → Q (.int kvs.length t) s') : wpAny (model X.prog X.w) A (call (.builtin "len") [.ref a]) Q E s := by
  obtain ⟨z, hd, vs, rel, dd⟩ := dk_rd I.hok e
  refine call_len_dict hd dd (by rw [← rel.length]; rw [sizeLine_eq] at z; omega) ?_
  rw [← rel.length]
  exact h _ _ (I.tok _)
end
def NoSl (i : Expr) : Prop := ∀ ov iv, subscripted i false ov iv = operate [ov, iv] (getItem ov iv)
theorem subD_of {prog : Program} {w : World} {A : Around} {E : Value → Shared → Prop} {s : Shared} {env : Env} {value slice : Expr} {pos : Pos} {T id : String} {Q : Value → Shared → Prop}
    (hl : typeLookup (.type T) "__getitem__" = pure (some (.builtin id))) (hs : NoSl slice)
    (h : wpAny (model prog w) A (eval value env) (fun o s₁ => wpAny (model prog w) A (eval slice env) (fun i s₂ => s₂.TypeIs o T ∧ wpAny (model prog w) A (getItem o i) Q E s₂) E s₁) E s) :
    wpAny (model prog w) A (eval (.Subscript value slice pos) env) Q E s := by
  refine Subscript_ (wpAny_mono h (fun o s₁ h₁ => wpAny_mono h₁ (fun i s₂ h₂ => ?_) fun _ _ x => x) fun _ _ x => x)
  obtain ⟨hT, h₂⟩ := h₂
  unfold subscriptTail
  refine wpAny_bind ?_
  rw [getitemInPython_of_ne hT.not_modules]
  refine wpAny_bind (wpAny_specialOf hT hl ?_)
  have fin : wpAny (model prog w) A (subscripted slice false o i) (fun r s₃ => wpAny (model prog w) A (letTemporaryGo value o r >>= fun _ => pure r) Q E s₃) E s₂ := by
    rw [hs o i]
    exact wpAny_operating (wpAny_mono h₂ (fun r s₃ h₃ => wpAny_bind (wpAny_letTemporaryGo (wpAny_pure h₃))) fun _ _ x => x)
  first
    | exact wpAny_pure (wpAny_bind fin)
    | exact wpAny_bind (wpAny_pure (wpAny_bind fin))
    | exact wpAny_bind fin
theorem dict_typeIs {X : Cx} {pins : List (Addr × Obj)} {σ : St} {H : Hp} {s : Shared} {a : Addr} {y : V} {o : Option V} (I : Inv X pins σ H s) (g : DGet H a y o) : s.TypeIs (.ref a) "dict" := by
  rcases g with ⟨kvs, k, e, _, _⟩ | ⟨kvs, k, b, e, _, _, _⟩
  · obtain ⟨_, _, vs, _, dd⟩ := dk_rd I.hok e
    exact dd.typeIs
  · obtain ⟨_, _, xs, _, dd⟩ := dt_rd I.hok e
    exact dd.typeIs
def tDGet (td ty : TE) : TE := fun σ H Q => td σ H fun x H1 => ty σ H1 fun y H2 => ∃ a v, x = .ref a ∧ DGet H2 a y (some v) ∧ Q v H2
def tDNotIn (ty td : TE) : TE := fun σ H Q => ty σ H fun y H1 => td σ H1 fun x H2 => ∃ a o, x = .ref a ∧ DGet H2 a y o ∧ Q (.bl (!o.isSome)) H2
def sDPut (td ty tv : TE) : TS := fun D σ H => tv σ H fun v H1 => td σ H1 fun x H2 => ty σ H2 fun y H3 => ∃ a H4, x = .ref a ∧ DPut H3 a y v H4 ∧ D.nx σ H4
section
variable {X : Cx} {o i e value : Expr} {pos pos' tpos : Pos} {td ty tv : TE}
theorem pe_dget (hu : X.A.units + 1 < cLine) (ho : PE X o td) (hi : PE X i ty) (hs : NoSl i) : PE X (.Subscript o i pos) (tDGet td ty) := by
  intro pins s σ H Q I h
  refine subD_of PySem.F.slot_dict_getitem.lookup hs (thn (ho pins s σ H _ I h) fun u s1 ⟨x, H1, I1, rx, q1⟩ => thn (hi pins s1 σ H1 _ I1 q1) fun iv s2 ⟨y, H2, I2, ry, a, v, ex, g, q2⟩ => ?_)
  subst ex
  obtain rfl : u = Value.ref a := rx
  exact ⟨dict_typeIs I2 g, d_getItem hu I2 g ry fun w' s3 I3 rw' => ⟨v, H2, I3, rw', q2⟩⟩
theorem pc_dnotin (hu : X.A.units + 1 < cLine) (hi : PE X i ty) (ho : PE X o td) : PC X .NotIn i o (tDNotIn ty td) := by
  intro pins s σ H Q I h
  refine thn (hi pins s σ H _ I h) fun iv s1 ⟨y, H1, I1, ry, q1⟩ => thn (ho pins s1 σ H1 _ I1 q1) fun u s2 ⟨x, H2, I2, rx, a, ov, ex, g, q2⟩ => ?_
  subst ex
  obtain rfl : u = Value.ref a := rx
  exact d_notIn hu I2 g ry fun s3 I3 => ⟨.bl (!ov.isSome), H2, I3, rfl, q2⟩
theorem ps_dput (hu : X.A.units + 1 < cLine) (ho : PE X o td) (hi : PE X i ty) (hv : PE X value tv) (hs : swapsWith value (some (.Subscript o i pos')) pos.line X.env = pure false) :
    PS X (.Assign [.Subscript o i pos'] value pos) (sDPut td ty tv) := by
  intro pins s σ H D I h
  refine wpAny_Assign_Subscript (thn (hv pins s σ H _ I h) fun r s1 ⟨v, H1, I1, rv, q1⟩ => thn (ho pins s1 σ H1 _ I1 q1) fun u s2 ⟨x, H2, I2, rx, q2⟩ => thn (hi pins s2 σ H2 _ I2 q2) fun iv s3 ⟨y, H3, I3, ry, a, H4, ex, g, q3⟩ => ?_) hs
  subst ex
  obtain rfl : u = Value.ref a := rx
  exact d_setItem hu I3 g ry rv fun s4 I4 => ⟨σ, H4, I4, q3⟩
end
theorem dk_empty {P : Program} {w : World} {H : Hp} (h : Heap) (hb : sysModules < h.objs.size) : ObjOk P w H (h.push { cls := .type "dict", data := .dict #[] }) h.objs.size (.dK []) :=
  ⟨Nat.zero_le _, beq_eq_false_iff_ne.mpr (Ne.symm (Nat.ne_of_lt hb)), [], .nil, Heap.DictOf.new h⟩
def tDNewK : TE := fun _ H Q => ∀ p, H p = none → Q (.ref p) (upd H p (.dK []))
section
variable {X : Cx} {pos : Pos}
theorem pe_dnewK : PE X (.Dict [] [] pos) tDNewK := fun pins s σ H Q I h =>
  wpAny_Dict_empty ⟨.ref s.heap.objs.size, _, I.laid (a := s.heap.objs.size) (o := .dK []) (t' := s.toks) (fun _ _ q => Heap.get?_push_of_some _ q) (Nat.le_refl _) (dk_empty s.heap I.big), rfl, h _ (I.hok.fresh (Nat.le_refl _))⟩
end
structure M1 (X : Cx) (o : Expr) (m : Str) (apos : Pos) (e : Expr) (cpos : Pos) : Prop where
  base : attributeBase o m X.env (eval o X.env) = eval o X.env
  few : ((backTo cpos (starEach [e] X.env)).all (fun x => !x.1) && (backToKw cpos (keywordEach [] X.env)).all (fun x => x.1.isSome)
    && decide (([e] : List Expr).length + ([] : List Keyword).length + (if ([] : List Keyword).isEmpty then 0 else 1) < 30)) = true
  line : (apos.endLine == cpos.line) = true
  trees : backTo cpos (starEach [e] X.env) = [(false, eval e X.env)]
def IsD (H : Hp) (a : Addr) : Prop := (∃ kvs, Rd H a (.dK kvs)) ∨ ∃ kvs, Rd H a (.dT kvs)
theorem isD_at {X : Cx} {pins : List (Addr × Obj)} {σ : St} {H : Hp} {s : Shared} {a : Addr} (I : Inv X pins σ H s) (d : IsD H a) :
    s.TypeIs (.ref a) "dict" ∧ (∀ b, Value.ref a = .ref b → ∃ ob, s.heap.get? b = some ob ∧ ob.dict = none) ∧ (a == sysModules) = false := by
  rcases d with ⟨kvs, e⟩ | ⟨kvs, e⟩
  · obtain ⟨_, hd, vs, _, dd⟩ := dk_rd I.hok e
    refine ⟨dd.typeIs, fun b q => ?_, hd⟩
    cases q
    obtain ⟨ob, _, _, h1, h2, _⟩ := dd
    exact ⟨ob, h1, h2.2.1⟩
  · obtain ⟨_, hd, xs, _, dd⟩ := dt_rd I.hok e
    refine ⟨dd.typeIs, fun b q => ?_, hd⟩
    cases q
    obtain ⟨ob, _, _, h1, h2, _⟩ := dd
    exact ⟨ob, h1, h2.2.1⟩
def tDPop1 (td ty : TE) : TE := fun σ H Q => td σ H fun x H1 => ∃ a, x = .ref a ∧ IsD H1 a ∧ ty σ H1 fun y H2 => ∃ kvs k v, H2 a = some (.dK kvs) ∧ y = kV k ∧ valV kvs k = some v ∧ Q v (upd H2 a (.dK (dropK kvs k)))
section
variable {X : Cx} {o e f : Expr} {apos cpos : Pos} {td ty tx : TE}
theorem pe_dpop1 (ho : PE X o td) (he : PE X e ty) (m : M1 X o "pop" apos e cpos) : PE X (.Call (.Attribute o "pop" apos) [e] [] cpos) (tDPop1 td ty) := by
  intro pins s σ H Q I h
  refine wpAny_Call_method m.base m.few m.line PySem.F.plainAttrs_dict PySem.F.slot_dict_pop PySem.F.type_dict_pop (thn (ho pins s σ H _ I h) fun u s1 ⟨x, H1, I1, rx, a, ex, d, q1⟩ => ?_)
  subst ex
  obtain rfl : u = Value.ref a := rx
  obtain ⟨t1, t2, _⟩ := isD_at I1 d
  refine ⟨t1, t2, ?_⟩
  rw [m.trees]
  refine Calls.callWith_builtin rfl (Calls.evalArgs_plain (Calls.spliced_cons (thn (he pins s1 σ H1 _ I1 q1) fun iv s2 ⟨y, H2, I2, ry, kvs, k, v, ea, ey, l, q2⟩ => Calls.spliced_nil ?_)))
  subst ey
  exact d_pop I2 ea ry l (.inl rfl) fun w' s3 I3 rw' => ⟨v, _, I3, rw', q2⟩
end
end L2
namespace L2
open PySem PySem.Spec PyProof.Rows
section
variable {X : Cx}
theorem call_lenD : CallR X (.builtin "len") (fun xs H Q => ∃ a kvs, xs = [V.ref a] ∧ H a = some (.dK kvs) ∧ Q (.int kvs.length) H) := by
  intro pins s σ H xs us Q I r h
  obtain ⟨a, kvs, rfl, ha, q⟩ := h
  obtain ⟨u, rfl, ru⟩ := vals1 r
  cases ru
  exact d_len I (.inl ha) fun t s' I' => ⟨.int kvs.length, H, I', ⟨t, rfl⟩, q⟩
end
end L2
set_option Elab.async false
set_option linter.all false
set_option maxRecDepth 100000
namespace L2
open PySem PySem.Spec PyProof.Rows
theorem lookup_append' {α : Type} (x : Str) : ∀ (a b : List (Str × α)), (a ++ b).lookup x = match a.lookup x with | some c => some c | none => b.lookup x
  | [], b => rfl
  | (k, v) :: r, b => by
    rw [List.cons_append, List.lookup_cons, List.lookup_cons]
    cases x == k with
    | true => rfl
    | false => exact lookup_append' x r b
theorem cellsFrom_app : ∀ (names : List (Str × NameKind)) (n : Nat) (acc cl : List (Str × Addr)), cellsFrom n names (acc ++ cl) = cellsFrom n names acc ++ cl
  | [], _, _, _ => rfl
  | (y, k) :: r, n, acc, cl => by
    unfold cellsFrom
    split
    · rw [← List.cons_append]; exact cellsFrom_app r _ _ cl
    · exact cellsFrom_app r _ _ cl
theorem cellsFrom_mem {x : Str} {c : Addr} : ∀ (names : List (Str × NameKind)) (n : Nat) (acc : List (Str × Addr)), (x, c) ∈ cellsFrom n names acc → (x, NameKind.cell) ∈ names ∨ (x, c) ∈ acc
  | [], _, _, h => .inr h
  | (y, k) :: r, n, acc, h => by
    unfold cellsFrom at h
    split at h
    · rename_i hk
      have hk : k = .cell := by simpa using hk
      subst hk
      rcases cellsFrom_mem r _ _ h with z | z
      · exact .inl (List.mem_cons_of_mem _ z)
      · rcases List.mem_cons.mp z with z | z
        · cases z; exact .inl List.mem_cons_self
        · exact .inr z
    · rcases cellsFrom_mem r _ _ h with z | z
      · exact .inl (List.mem_cons_of_mem _ z)
      · exact .inr z
theorem closure_go {env : Env} (f : Str × NameKind → List (Str × Addr) → Sem (ForInStep (List (Str × Addr))))
    (hf : ∀ name kind cs, f (name, kind) cs = if kind == .free then (do let a ← cellOf env name; pure (.yield ((name, a) :: cs))) else pure (.yield cs)) :
    ∀ (names : List (Str × NameKind)) (acc : List (Str × Addr)), (∀ x, (x, NameKind.free) ∈ names → ∃ c, env.cells.lookup x = some c) → (∀ x c, acc.lookup x = some c → env.cells.lookup x = some c) →
      ∃ cl, forIn names acc f = (pure cl : Sem _) ∧ (∀ x c, cl.lookup x = some c → env.cells.lookup x = some c) ∧ (∀ x, ((x, NameKind.free) ∈ names ∨ ∃ c, acc.lookup x = some c) → ∃ c, cl.lookup x = some c)
  | [], acc, _, h2 => ⟨acc, rfl, h2, fun x h => h.elim (fun z => nomatch z) id⟩
  | (y, k) :: r, acc, h1, h2 => by
    rw [List.forIn_cons, hf]
    by_cases hk : (k == NameKind.free) = true
    · rw [if_pos hk]
      have hk' : k = .free := by simpa using hk
      subst hk'
      obtain ⟨c, hc⟩ := h1 y List.mem_cons_self
      have e : (cellOf env y : Sem Addr) = pure c := by unfold cellOf; rw [hc]
      rw [e]
      obtain ⟨cl, e1, e2, e3⟩ := closure_go f hf r ((y, c) :: acc) (fun x hx => h1 x (List.mem_cons_of_mem _ hx)) (fun x c' hx => by
        rw [List.lookup_cons] at hx
        cases hb : x == y with
        | true => rw [hb] at hx; cases hx; rw [beq_iff_eq.mp hb]; exact hc
        | false => rw [hb] at hx; exact h2 x c' hx)
      refine ⟨cl, ?_, e2, fun x hx => e3 x ?_⟩
      · exact e1
      · rcases hx with hx | ⟨c', hx⟩
        · rcases List.mem_cons.mp hx with z | z
          · cases z; exact .inr ⟨c, by rw [List.lookup_cons]; simp⟩
          · exact .inl z
        · cases hb : x == y with
          | true => exact .inr ⟨c, by rw [List.lookup_cons, hb]⟩
          | false => exact .inr ⟨c', by rw [List.lookup_cons, hb]; exact hx⟩
    · rw [if_neg hk]
      obtain ⟨cl, e1, e2, e3⟩ := closure_go f hf r acc (fun x hx => h1 x (List.mem_cons_of_mem _ hx)) h2
      refine ⟨cl, e1, e2, fun x hx => e3 x ?_⟩
      rcases hx with hx | hx
      · rcases List.mem_cons.mp hx with z | z
        · cases z; exact absurd rfl hk
        · exact .inl z
      · exact .inr hx
theorem closure_of {scope : Scope} {env : Env} (h : ∀ x, (x, NameKind.free) ∈ scope.names → ∃ c, env.cells.lookup x = some c) :
    ∃ cl, closureFor scope env = pure cl ∧ (∀ x c, cl.lookup x = some c → env.cells.lookup x = some c) ∧ ∀ x, (x, NameKind.free) ∈ scope.names → ∃ c, cl.lookup x = some c := by
  obtain ⟨cl, e1, e2, e3⟩ := closure_go (env := env) (fun x cs => match x with | (name, kind) => if kind == .free then (do let a ← cellOf env name; pure (.yield ((name, a) :: cs))) else pure (.yield cs)) (fun _ _ _ => rfl) scope.names [] h (fun x c hx => nomatch hx)
  refine ⟨cl, ?_, e2, fun x hx => e3 x (.inl hx)⟩
  have : closureFor scope env = (forIn scope.names [] (fun x cs => match x with | (name, kind) => if kind == .free then (do let a ← cellOf env name; pure (.yield ((name, a) :: cs))) else pure (.yield cs)) >>= fun cs => pure cs) := by
    simp only [closureFor]
  rw [this, e1]
  rfl
def blkEnv (scope : Scope) (cl : List (Str × Addr)) (C : Addr) (env : Env) : Env :=
  { newEnv scope C env.globals (cellsFrom (C + 1) scope.names cl) env.qual none .none (some env) builtinsNs with scope := relabel scope env }
theorem nfe_comp {M : Model} {A : Around} {E : Value → Shared → Prop} {s : Shared} {scope : Scope} {cl : List (Str × Addr)} {env : Env} {Q : Env → Shared → Prop}
    (hQ : Q (newEnv scope s.heap.objs.size env.globals (cellsFrom (s.heap.objs.size + 1) scope.names cl) env.qual none .none (some env) builtinsNs) { s with heap := pushCells (s.heap.push { cls := .type "dict", data := .dict #[] }) scope.names }) :
    wpAny M A (newFunctionEnv scope env.globals cl [] env.qual none .none (some env)) Q E s := by
  simp only [newFunctionEnv, Option.isSome_some, if_true]
  refine wpAny_bind (wpAny_alloc ?_)
  refine wpAny_bind (wpAny_layCells _ (fun name kind cells => by cases hkc : kind == NameKind.cell <;> simp [hkc]) _ _ _ _ ?_)
  rw [show ({ s with heap := s.heap.push { cls := .type "dict", data := .dict #[] } } : Shared).heap.objs.size = s.heap.objs.size + 1 from Heap.size_push ..]
  refine wpAny_bind ?_
  rw [List.forIn_nil]
  exact wpAny_pure (wpAny_pure hQ)
section
variable {prog : Program} {w : World} {A : Around} {E : Value → Shared → Prop} {R : Result → Shared → Prop} {s : Shared}
theorem comp_loop {elt target iter : Expr} {ifs : List Expr} {scope : Scope} {pos : Pos} {it acc : Value} {env : Env} (I : Nat → Shared → Prop)
    (turn : ∀ n s, I n s → wpAny (model prog w) A (pyNext it) (fun r s₁ => match r with
      | none => R (.ok .next) s₁
      | some v => wpAny (model prog w) A (letOwnedTupleGo target it v) (fun _ s₁' => wpAny (model prog w) A (assign target env v) (fun _ s₂ =>
          wpAny (model prog w) A (forIn ifs true fun c r => if r = true then do let ok ← isTrue c env (eval c env); pure (ForInStep.yield ok) else pure (ForInStep.yield r)) (fun ok s₃ =>
            if ok = true then wpAny (model prog w) A (eval elt env) (fun x s₄ =>
              wpAny (model prog w) A (call (.builtin "list.append") [acc, x]) (fun _ s₅ => ∃ m, m < n ∧ I m s₅) (notedBy (model prog w) A env fun e s' => R (.error e) s') s₄) (notedBy (model prog w) A env fun e s' => R (.error e) s') s₃
            else ∃ m, m < n ∧ I m s₃) (notedBy (model prog w) A env fun e s' => R (.error e) s') s₂) (notedBy (model prog w) A env fun e s' => R (.error e) s') s₁') (notedBy (model prog w) A env fun e s' => R (.error e) s') s₁) (notedBy (model prog w) A env fun e s' => R (.error e) s') s)
    (n : Nat) (h : I n s) :
    codeAny (model prog w) A (.compLoop (.ListComp elt [⟨target, iter, ifs, 0⟩] scope pos) 0 it acc env) R s := by
  refine codeAny_loop rfl I (fun n s hI => ?_) n h
  show wpAny _ A ((compTurn (.ListComp elt [⟨target, iter, ifs, 0⟩] scope pos) 0 it acc env).onRaise (fun x => do noteFrame x env; theTreesLotGoes x)) _ _ s
  refine wpAny_noted ?_
  rw [compTurn_list]
  refine wpAny_bind (wpAny_standAt (wpAny_bind (wpAny_mono (turn n s hI) (fun r s₁ h₁ => ?_) fun _ _ h' => h')))
  cases r with
  | none => exact wpAny_pure h₁
  | some v =>
    refine wpAny_bind (wpAny_mono h₁ (fun _ s₁' h₁' => ?_) fun _ _ h' => h')
    refine wpAny_bind (wpAny_mono h₁' (fun _ s₂ h₂ => wpAny_bind (wpAny_mono h₂ (fun ok s₃ h₃ => ?_) fun _ _ h' => h')) fun _ _ h' => h')
    cases ok with
    | false => exact wpAny_pure ⟨rfl, h₃⟩
    | true =>
      exact wpAny_bind (wpAny_bind (wpAny_mono h₃ (fun x s₄ h₄ => wpAny_bind (wpAny_mono h₄ (fun _ s₅ h₅ => wpAny_pure (wpAny_pure ⟨rfl, h₅⟩)) fun _ _ h' => h')) fun _ _ h' => h'))
end
end L2
set_option Elab.async false
set_option linter.all false
set_option maxRecDepth 100000
namespace L2
open PySem PySem.Spec PyProof.Rows
theorem relabel_look {scope : Scope} {env : Env} {x : Str} {k : NameKind} (h : (relabel scope env).names.lookup x = some k) : ∃ k', scope.names.lookup x = some k' ∧ (k = k' ∨ (k' = .free ∧ k = .cell)) := by
  unfold relabel at h
  dsimp only at h
  generalize scope.names = names at h ⊢
  induction names with
  | nil => cases h
  | cons p r ih =>
    obtain ⟨n, k0⟩ := p
    rw [List.map_cons] at h
    rw [List.lookup_cons]
    cases hb : x == n with
    | true =>
      refine ⟨k0, rfl, ?_⟩
      dsimp only at h
      split at h
      · rename_i hc
        rw [List.lookup_cons, hb] at h
        cases h
        simp only [Bool.and_eq_true, beq_iff_eq] at hc
        exact .inr ⟨hc.1.1, rfl⟩
      · rw [List.lookup_cons, hb] at h
        cases h
        exact .inl rfl
    | false =>
      dsimp only at h
      refine ih ?_
      split at h
      · rw [List.lookup_cons, hb] at h; exact h
      · rw [List.lookup_cons, hb] at h; exact h
def blkCx (X : Cx) (N : List Str) (scope : Scope) (cl : List (Str × Addr)) (s : Shared) (H : Hp) (fp : List Addr) : Cx where
  prog := X.prog
  w := X.w
  K := X.K
  mg := X.mg
  base := X.base
  A := X.A
  N := N
  s₀ := s
  H₀ := H
  env := blkEnv scope cl (s.heap.objs.size + 1) X.env
  outer := X.stack
  stack := X.stack
  ex := fp
  fn := fun x => scope.names.lookup x == some .cell
  calm := X.calm
  pn := []
  xe := fun e₀ s₁ => (∃ (pins : List (Addr × Obj)) (σ : St), Inv X pins σ H s ∧ ∀ b ∈ fp, FpOk X pins H b) → notedBy (model X.prog X.w) X.A (blkEnv scope cl (s.heap.objs.size + 1) X.env) (fun x s' => ∃ m, s'.heap.Ns (s.heap.objs.size + 1) m ∧ ∀ h', Heap.SameBut (s.heap.objs.size + 1) s'.heap h' → ∀ cenv : Env, cenv.locals = s.heap.objs.size + 1 →
    wpAny (model X.prog X.w) X.A (passOn "comprehension.variables-let-go" x cenv : Sem Value) (fun _ _ => False) X.xe { s' with heap := h' }) e₀ s₁
def subσ (ix : List (Option Nat)) (σ : St) : St := ix.map fun o => match o with | none => none | some i => match σ[i]? with | some v => v | none => none
structure BlkOk (X : Cx) (N : List Str) (ix : List (Option Nat)) (scope : Scope) : Prop where
  kind : scope.kind = .function
  nd : N.Nodup
  len : ix.length = N.length
  names : (scope.names.map (·.1)).Nodup
  free : ∀ x, (x, NameKind.free) ∈ scope.names → X.env.kindOf x = some .cell ∨ X.env.kindOf x = some .free
  at_ : ∀ (j i : Nat) (x : Str), N[j]? = some x → ix[j]? = some (some i) → X.N[i]? = some x ∧ (x, NameKind.free) ∈ scope.names
theorem lookup_of_mem {α : Type} : ∀ {l : List (Str × α)} {x : Str} {k : α}, (l.map (·.1)).Nodup → (x, k) ∈ l → l.lookup x = some k
  | (y, k0) :: r, x, k, nd, h => by
    rw [List.map_cons, List.nodup_cons] at nd
    rw [List.lookup_cons]
    rcases List.mem_cons.mp h with e | e
    · cases e; simp
    · have : x ≠ y := by
        rintro rfl
        exact nd.1 (List.mem_map.mpr ⟨(x, k), e, rfl⟩)
      have hb : (x == y) = false := by simpa using this
      rw [hb]
      exact lookup_of_mem nd.2 e
theorem blk_start {X : Cx} {pins : List (Addr × Obj)} {σ : St} {H : Hp} {s : Shared} {N : List Str} {ix : List (Option Nat)} {scope : Scope} {cl : List (Str × Addr)} {fp : List Addr} (B : BlkOk X N ix scope)
    (I : Inv X pins σ H s) (hcl : ∀ x c, cl.lookup x = some c → X.env.cells.lookup x = some c) (hcf : ∀ x, (x, NameKind.free) ∈ scope.names → ∃ c, cl.lookup x = some c)
    (hfp : ∀ b ∈ fp, FpOk X pins H b) (hob : ∀ b ∈ fp, ∃ o, s.heap.get? b = some o ∧ ∀ v, o.data ≠ .cell v) :
    Inv (blkCx X N scope cl s H fp) [] (subσ ix σ) (upd H s.heap.objs.size (.lst []))
      { s with heap := pushCells ((s.heap.push { cls := .type "list", data := .seq #[] }).push { cls := .type "dict", data := .dict #[] }) scope.names } := by
  have hs2 : (s.heap.push { cls := .type "list", data := .seq #[] }).objs.size = s.heap.objs.size + 1 := Heap.size_push ..
  have hs3 : ((s.heap.push { cls := .type "list", data := .seq #[] }).push { cls := .type "dict", data := .dict #[] }).objs.size = s.heap.objs.size + 2 := by rw [Heap.size_push, hs2]
  have hk : ∀ b o, s.heap.get? b = some o → (pushCells ((s.heap.push { cls := .type "list", data := .seq #[] }).push { cls := .type "dict", data := .dict #[] }) scope.names).get? b = some o :=
    fun b o e => pushCells_keeps _ _ b o (Heap.get?_push_of_some _ (Heap.get?_push_of_some _ e))
  have hl : (pushCells ((s.heap.push { cls := .type "list", data := .seq #[] }).push { cls := .type "dict", data := .dict #[] }) scope.names).get? s.heap.objs.size = some { cls := .type "list", data := .seq #[] } :=
    pushCells_keeps _ _ _ _ (Heap.get?_push_of_some _ (Heap.get?_push_size _ rfl))
  have ok0 := cellsFrom_ok scope.names ((s.heap.push { cls := .type "list", data := .seq #[] }).push { cls := .type "dict", data := .dict #[] }) (s.heap.objs.size + 2) [] ⟨fun _ _ hm => (nomatch hm), List.Pairwise.nil⟩ (by rw [hs3]; exact Nat.le_refl _)
  rw [hs3] at ok0
  have hcells : (blkCx X N scope cl s H fp).env.cells = cellsFrom (s.heap.objs.size + 2) scope.names [] ++ cl := by
    show cellsFrom (s.heap.objs.size + 1 + 1) scope.names cl = _
    rw [← List.nil_append cl, cellsFrom_app]
    simp
  -- a cell of the block: a new one, or one of the closure
  have cases_ : ∀ x c, (blkCx X N scope cl s H fp).env.cells.lookup x = some c → ((x, c) ∈ cellsFrom (s.heap.objs.size + 2) scope.names [] ∧ (x, NameKind.cell) ∈ scope.names) ∨ ((cellsFrom (s.heap.objs.size + 2) scope.names []).lookup x = none ∧ cl.lookup x = some c) := fun x c e => by
    rw [hcells, lookup_append'] at e
    cases q : (cellsFrom (s.heap.objs.size + 2) scope.names []).lookup x with
    | none => rw [q] at e; exact .inr ⟨rfl, e⟩
    | some c' =>
      rw [q] at e
      cases e
      have m := PySem.mem_of_lookup q
      refine .inl ⟨m, ?_⟩
      rcases cellsFrom_mem _ _ _ m with z | z
      · exact z
      · exact nomatch z
  have oldc : ∀ x c, cl.lookup x = some c → c < s.heap.objs.size := fun x c e => by
    obtain ⟨v, q⟩ := I.cell x c (hcl x c e)
    exact q.lt
  have hfree : H s.heap.objs.size = none := I.hok.fresh (Nat.le_refl _)
  have hfix : ∀ b, s.heap.objs.size < b → (upd H s.heap.objs.size (.lst [])) b = none := fun b hb => by
    rw [upd_ne (Nat.ne_of_gt hb)]
    exact I.hok.fresh (Nat.le_of_lt hb)
  have hlt : ∀ b ∈ fp, b < s.heap.objs.size := fun b hb => by
    obtain ⟨o, e, _⟩ := hob b hb
    exact Heap.lt_size e
  have e0 := I.env0
  have isnew : ∀ x c, (x, c) ∈ cellsFrom (s.heap.objs.size + 2) scope.names [] → s.heap.objs.size + 2 ≤ c := fun x c m => (ok0.empty x c m).2
  refine ⟨⟨I.ok.mod, B.kind, I.ok.glob, I.ok.blt, Nat.le_succ _, fun x y c e1 e2 => ?_, fun x hx => ?_, fun x c hx e => ?_, I.ok.hd, I.ok.frames, .inl rfl, fun b hb => ⟨?_, fun x c e => ?_⟩, e0.bs, e0.bsz, fun b o e hb => ?_, fun b hb hb2 => ?_, e0.funs, e0.frf⟩,
    rfl, I.bare, Un.laid hk (Nat.le_refl _) hfree, ⟨fun _ => none, ?_, fun j x v e1 e2 e3 => ?_⟩, fun x c e => ?_, hfix _ (Nat.lt_succ_self _), fun x c e => ?_, fun p hp => absurd (show p ∈ ([] : List (Addr × Obj)) from hp) (by simp), ?_, ?_⟩
  · rcases cases_ x c e1 with ⟨m1, k1⟩ | ⟨n1, q1⟩ <;> rcases cases_ y c e2 with ⟨m2, k2⟩ | ⟨n2, q2⟩
    · exact name_of_addr ok0.apart m1 m2
    · exact absurd (Nat.lt_of_lt_of_le (oldc _ _ q2) (Nat.le_trans (Nat.le_add_right _ _) (isnew _ _ m1))) (Nat.lt_irrefl _)
    · exact absurd (Nat.lt_of_lt_of_le (oldc _ _ q1) (Nat.le_trans (Nat.le_add_right _ _) (isnew _ _ m2))) (Nat.lt_irrefl _)
    · exact I.ok.inj x y c (hcl _ _ q1) (hcl _ _ q2)
  · have hx' : (relabel scope X.env).names.lookup x = some .cell ∨ (relabel scope X.env).names.lookup x = some .free := hx
    have key : scope.names.lookup x = some .cell ∨ scope.names.lookup x = some .free := by
      rcases hx' with z | z
      · obtain ⟨k', e, r | r⟩ := relabel_look z
        · rw [← r] at e; exact .inl e
        · rw [r.1] at e; exact .inr e
      · obtain ⟨k', e, r | r⟩ := relabel_look z
        · rw [← r] at e; exact .inr e
        · cases r.2
    rw [hcells]
    rcases key with z | z
    · obtain ⟨c, q⟩ := cell_has (n := s.heap.objs.size + 2) z
      exact ⟨c, by rw [lookup_append', q]⟩
    · obtain ⟨c, q⟩ := hcf x (PySem.mem_of_lookup z)
      cases q2 : (cellsFrom (s.heap.objs.size + 2) scope.names []).lookup x with
      | none => exact ⟨c, by rw [lookup_append', q2]; exact q⟩
      | some c' => exact ⟨c', by rw [lookup_append', q2]⟩
  · have hx' : scope.names.lookup x = some .cell := by simpa [blkCx] using hx
    rcases cases_ x c e with ⟨m1, k1⟩ | ⟨n1, q1⟩
    · exact Nat.le_trans (Nat.le_add_right _ _) (isnew _ _ m1)
    · obtain ⟨c', q⟩ := cell_has (n := s.heap.objs.size + 2) hx'
      rw [q] at n1; cases n1
  · exact Nat.ne_of_lt (Nat.lt_succ_of_lt (hlt b hb))
  · rcases cases_ x c e with ⟨m1, k1⟩ | ⟨n1, q1⟩
    · exact Nat.ne_of_gt (Nat.lt_of_lt_of_le (hlt b hb) (Nat.le_trans (Nat.le_add_right _ _) (isnew _ _ m1)))
    · exact (hfp b hb).2.2.2.2.1 x c (hcl _ _ q1)
  · rcases (hfp b hb).2.2.2.1 with z | z
    · exact I.ok.noex b o e z
    · exact absurd (Nat.lt_of_lt_of_le (Heap.lt_size e) (Nat.le_trans I.ok.bsz z)) (Nat.lt_irrefl _)
  · rcases List.mem_cons.mp (I.stkSub b hb2) with z | z
    · exact (hfp b hb).2.1 z
    · exact (hfp b hb).2.2.1 z
  · show Heap.Ns _ (s.heap.objs.size + 1) _
    rw [← hs2]
    exact (Heap.Ns.new _ (.type "dict")).keeps (pushCells_keeps _ _)
  · -- a name of the block
    unfold subσ at e2
    rw [List.getElem?_map] at e2
    cases q : ix[j]? with
    | none => rw [q] at e2; cases e2
    | some o =>
      rw [q] at e2
      cases o with
      | none => cases e2
      | some i =>
        simp only [Option.map_some, Option.some.injEq] at e2
        obtain ⟨hN, hm⟩ := B.at_ j i x e1 q
        have hσ : σ[i]? = some (some v) := by
          cases q2 : σ[i]? with
          | none => rw [q2] at e2; cases e2
          | some z => rw [q2] at e2; exact congrArg some e2
        obtain ⟨m, hn, hl'⟩ := I.loc
        have hkind := B.free x hm
        have hvis : Vis X.env.scope x := hkind.elim (fun z => .inr (.inl z)) fun z => .inr (.inr z)
        obtain ⟨u, ru, lk⟩ := hl' i x v hN hσ hvis
        refine ⟨u, ru, ?_⟩
        obtain ⟨c, hc⟩ := hcf x hm
        have hnone : (cellsFrom (s.heap.objs.size + 2) scope.names []).lookup x = none := by
          cases q2 : (cellsFrom (s.heap.objs.size + 2) scope.names []).lookup x with
          | none => rfl
          | some c' =>
            rcases cellsFrom_mem _ _ _ (PySem.mem_of_lookup q2) with z | z
            · have a1 := lookup_of_mem B.names z
              have a2 := lookup_of_mem B.names hm
              rw [a1] at a2; cases a2
            · exact nomatch z
        have hcell : (blkCx X N scope cl s H fp).env.cells.lookup x = some c := by rw [hcells, lookup_append', hnone]; exact hc
        have hkk : (blkCx X N scope cl s H fp).env.kindOf x = some .cell ∨ (blkCx X N scope cl s H fp).env.kindOf x = some .free := by
          rcases e3 with z | z | z
          · obtain ⟨k', e, r | r⟩ := relabel_look (show (relabel scope X.env).names.lookup x = some .local from z)
            · rw [lookup_of_mem B.names hm] at e; cases e; cases r
            · cases r.2
          · exact .inl z
          · exact .inr z
        refine .inr ⟨hkk, c, hcell, ?_⟩
        rcases lk with ⟨k1, _⟩ | ⟨_, c2, e4, z⟩
        · rcases hkind with z | z <;> rw [k1] at z <;> cases z
        · rw [hcl x c hc] at e4; cases e4
          exact z.keeps hk
  · rcases cases_ x c e with ⟨m1, k1⟩ | ⟨n1, q1⟩
    · exact ⟨none, (ok0.empty x c m1).1⟩
    · obtain ⟨v, z⟩ := I.cell x c (hcl _ _ q1)
      exact ⟨v, z.keeps hk⟩
  · rcases cases_ x c e with ⟨m1, k1⟩ | ⟨n1, q1⟩
    · exact hfix c (Nat.lt_of_lt_of_le (Nat.lt_add_of_pos_right (by decide)) (isnew _ _ m1))
    · rw [upd_ne (Nat.ne_of_lt (oldc _ _ q1))]
      exact I.freeC x c (hcl _ _ q1)
  · exact I.hok.laid hk (Nat.le_refl _) ⟨Nat.zero_le _, [], 0, .nil, hl⟩
  · show (subσ ix σ).length = N.length
    unfold subσ
    rw [List.length_map]
    exact B.len
end L2
set_option Elab.async false
set_option linter.all false
set_option maxRecDepth 100000
namespace L2
open PySem PySem.Spec PyProof.Rows
def PTs (X : Cx) (ifs : List Expr) (t : TT) : Prop :=
  ∀ (pins : List (Addr × Obj)) (s : Shared) (σ : St) (H : Hp) (Q : Bool → Hp → Prop), Inv X pins σ H s → t σ H Q →
    wpAny (model X.prog X.w) X.A (forIn ifs true fun c r => if r = true then do let ok ← isTrue c X.env (eval c X.env); pure (ForInStep.yield ok) else pure (ForInStep.yield r)) (TP X pins σ Q) X.xe s
def tTrue : TT := fun _ H Q => Q true H
theorem pts_nil {X : Cx} : PTs X [] tTrue := fun _ _ _ H _ I h => wpAny_tests_nil ⟨H, I, h⟩
def tCompG (ix : List (Option Nat)) (wi : TI) (g : TG) (tt : TT) (te : TE) (fin : Addr → Hp → Prop) : St → Hp → Prop := fun σ H => wi σ H fun J H1 => ∀ l, H1 l = none →
  ∃ W : Nat → Nat → St → Hp → Prop, (∃ m, W 0 m (subσ ix σ) (upd H1 l (.lst []))) ∧ ∀ i m σ' H', W i m σ' H' →
    (J.stop i H' ∧ fin l H') ∨ (J.go i H' ∧ ∃ N : St → Hp → Prop, (∀ σ'' H'', N σ'' H'' → ∃ m', m' < m ∧ W (i + 1) m' σ'' H'') ∧ ∀ x H2, J.yld i H' x H2 → g x σ' H2 fun σ2 H3 => tt σ2 H3 fun b H4 =>
      if b = true then te σ2 H4 fun y H5 => ∃ ys, H5 l = some (.lst ys) ∧ ys.length < sizeLine ∧ N σ2 (upd H5 l (.lst (ys ++ [y]))) else N σ2 H4)
section
variable {X : Cx} {pins : List (Addr × Obj)} {σ σ' : St} {H H' : Hp} {s s' : Shared} {N : List Str} {scope : Scope} {cl : List (Str × Addr)} {fp : List Addr}
theorem blk_end {h' : Heap} (I : Inv X pins σ H s) (J : Inv (blkCx X N scope cl s H fp) [] σ' H' s') (hfp : ∀ b ∈ fp, FpOk X pins H b) (sb : Heap.SameBut (s.heap.objs.size + 1) s'.heap h') : Inv X pins σ H' { s' with heap := h' } := by
  have u : Un (frs X.stack) fp H H' s.heap s'.heap := J.base
  have hC : H' (s.heap.objs.size + 1) = none := J.free
  have ne : ∀ b o, s.heap.get? b = some o → b ≠ s.heap.objs.size + 1 := fun b o e => Nat.ne_of_lt (Nat.lt_succ_of_lt (Heap.lt_size e))
  refine I.call' (s' := { s' with heap := h' }) (ch := fp) J.os ⟨fun b o e n hb hx => ?_, fun b o e n hb hx => ?_, u.free, fun b o e hx => ?_, u.tups, u.frzs, u.tbls⟩ (fun b ob e => ?_) J.bare fun b hb => ?_
  · exact (sb.2 b (ne b o e)).trans (u.keep b o e n hb hx)
  · obtain ⟨sl, q⟩ := u.slot b o e n hb hx
    exact ⟨sl, (sb.2 b (ne b o e)).trans q⟩
  · obtain ⟨o', q⟩ := u.there b o e hx
    exact ⟨o', (sb.2 b (ne b o e)).trans q⟩
  · refine (J.hok b ob e).stay (fun c w' hc q => (sb.2 c ?_).trans q) (fun _ q => q) fun _ _ q => q
    rintro rfl
    rcases hc with rfl | hc
    · rw [hC] at e; cases e
    · rw [hC] at hc; cases hc
  · obtain ⟨f0, f1, f2, f3, f4, f5⟩ := hfp b hb
    exact ⟨f3, f1, f4, f5⟩
theorem comp_run {tg iter elt : Expr} {ifs : List Expr} {pos : Pos} {ix : List (Option Nat)} {wi : TI} {g : TG} {tt : TT} {te : TE} {fin : Addr → Hp → Prop} {RR : Value → Addr → Result → Shared → Prop} (B : BlkOk X N ix scope) (hc : X.calm = true)
    (hi : PI X tg iter wi) (hg : ∀ cl s H fp, PG (blkCx X N scope cl s H fp) tg g) (ht : ∀ cl s H fp, PTs (blkCx X N scope cl s H fp) ifs tt) (he : ∀ cl s H fp, PE (blkCx X N scope cl s H fp) elt te)
    (hcl : ∀ x c, cl.lookup x = some c → X.env.cells.lookup x = some c) (hcf : ∀ x, (x, NameKind.free) ∈ scope.names → ∃ c, cl.lookup x = some c)
    (I : Inv X pins σ H s) (h : tCompG ix wi g tt te fin σ H)
    (ok : ∀ (s2 : Shared) (H2 : Hp) (fp : List Addr) (σ3 : St) (H3 : Hp) (s3 : Shared), Inv X pins σ H2 s2 → (∀ b ∈ fp, FpOk X pins H2 b) → Inv (blkCx X N scope cl s2 H2 fp) [] σ3 H3 s3 → fin s2.heap.objs.size H3 → RR (.ref s2.heap.objs.size) (s2.heap.objs.size + 1) (.ok .next) s3)
    (bad : ∀ (a C : Addr) (x : Value) (s' : Shared), (∃ m, s'.heap.Ns C m ∧ ∀ h', Heap.SameBut C s'.heap h' → ∀ cenv : Env, cenv.locals = C → wpAny (model X.prog X.w) X.A (passOn "comprehension.variables-let-go" x cenv : Sem Value) (fun _ _ => False) X.xe { s' with heap := h' }) → RR (.ref a) C (.error x) s') :
    wpAny (model X.prog X.w) X.A (eval iter X.env) (fun x s₁ => wpAny (model X.prog X.w) X.A (pyIter x) (fun it s₂ => wpAny (model X.prog X.w) X.A (newList []) (fun acc s₃ =>
      wpAny (model X.prog X.w) X.A (newFunctionEnv scope X.env.globals cl [] X.env.qual none .none (some X.env)) (fun cenv s₄ =>
        codeAny (model X.prog X.w) X.A (.compStart (.ListComp elt [⟨tg, iter, ifs, 0⟩] scope pos) 0 it acc { cenv with scope := relabel scope X.env }) (RR acc cenv.locals) s₄) X.xe s₃) X.xe s₂) X.xe s₁) X.xe s := by
  refine thn (hi pins s σ H _ I h) fun v s1 h1 => thn h1 fun itv s2 h2 => ?_
  obtain ⟨it, fp, tn, J, H2, e, I2, T, st2, f2, h2⟩ := h2
  subst e
  refine wpAny_newList (nfe_comp ?_) (Nat.zero_le _)
  have hs2 : (s2.heap.push { cls := .type "list", data := .seq (([] : List Value)).toArray }).objs.size = s2.heap.objs.size + 1 := Heap.size_push ..
  dsimp only
  rw [hs2]
  have I3 := blk_start (fp := fp) B I2 hcl hcf f2 (T.obj _ _ st2)
  obtain ⟨W, ⟨m0, w0⟩, turn⟩ := h2 s2.heap.objs.size I2.fresh
  have hk : ∀ b o, s2.heap.get? b = some o → (pushCells ((s2.heap.push { cls := .type "list", data := .seq #[] }).push { cls := .type "dict", data := .dict #[] }) scope.names).get? b = some o :=
    fun b o e => pushCells_keeps _ _ b o (Heap.get?_push_of_some _ (Heap.get?_push_of_some _ e))
  have st3 := T.keep _ _ _ st2 fun b _ o e => hk b o e
  have fr3 : ∀ b ∈ fp, (upd H2 s2.heap.objs.size (.lst [])) b = none := fun b hb => by
    obtain ⟨o, e, _⟩ := T.obj _ _ st2 b hb
    rw [upd_ne (Nat.ne_of_lt (Heap.lt_size e))]
    exact (f2 b hb).1
  have stat : ∀ {σ5 : St} {H5 : Hp} {s5 : Shared}, Inv (blkCx X N scope cl s2 H2 fp) [] σ5 H5 s5 → (∀ b ∈ fp, H5 b = none) → ∀ b ∈ fp, FpOk (blkCx X N scope cl s2 H2 fp) [] H5 b := fun I5 hn b hb =>
    ⟨hn b hb, (I5.ok.exf b hb).1, I5.ok.exfs b hb, .inl hb, (I5.ok.exf b hb).2, fun p hp => absurd (show p ∈ ([] : List (Addr × Obj)) from hp) (by simp)⟩
  have loop : ∀ s₃ : Shared, s₃ = { s2 with heap := pushCells ((s2.heap.push { cls := .type "list", data := .seq #[] }).push { cls := .type "dict", data := .dict #[] }) scope.names } →
      codeAny (model X.prog X.w) X.A (.compLoop (.ListComp elt [⟨tg, iter, ifs, 0⟩] scope pos) 0 (.ref it) (.ref s2.heap.objs.size) (blkCx X N scope cl s2 H2 fp).env) (RR (.ref s2.heap.objs.size) (s2.heap.objs.size + 1)) s₃ := by
    rintro s₃ rfl
    refine comp_loop (fun n s' => ∃ i σ' H', Inv (blkCx X N scope cl s2 H2 fp) [] σ' H' s' ∧ tn i s'.heap ∧ (∀ b ∈ fp, H' b = none) ∧ W i n σ' H') ?_ m0 ⟨0, _, _, I3, st3, fr3, w0⟩
    rintro n s4 ⟨i, σ4, H4, I4, st4, fr4, w4⟩
    have xe_ : ∀ x s', (blkCx X N scope cl s2 H2 fp).xe x s' → notedBy (model X.prog X.w) X.A (blkCx X N scope cl s2 H2 fp).env (fun e s' => RR (.ref s2.heap.objs.size) (s2.heap.objs.size + 1) (.error e) s') x s' := fun x s' hx =>
      wpAny_mono (hx ⟨pins, σ, I2, f2⟩) (fun _ s'' q => bad _ _ _ _ q) fun e s'' q => bad _ _ _ _ q
    rcases turn i n σ4 H4 w4 with ⟨stop, qn⟩ | ⟨go, Nx, hN, step⟩
    · refine wpAny_mono (T.done (blkCx X N scope cl s2 H2 fp) rfl rfl rfl hc i [] s4 σ4 H4 _ I4 (stat I4 fr4) st4 stop) (fun r s5 ⟨hr, I5⟩ => ?_) xe_
      subst hr
      exact ok s2 H2 fp σ4 H4 s5 I2 f2 I5 qn
    · refine wpAny_mono (T.item (blkCx X N scope cl s2 H2 fp) rfl rfl rfl hc i [] s4 σ4 H4 _ I4 (stat I4 fr4) st4 go) (fun r s5 ⟨u, hr, h5⟩ => ?_) xe_
      subst hr
      refine wpAny_mono h5 (fun _ s6 ⟨x, H6, I6, r6, y6, st6, fr6⟩ => ?_) xe_
      have I6' := I6.pinned (stat I6 fr6) (T.obj _ _ st6)
      refine wpAny_mono (hg cl s2 H2 fp _ s6 σ4 H6 x u _ I6' r6 (step x H6 y6)) (fun _ s7 ⟨σ7, H7, I7, q7⟩ => ?_) xe_
      have again : ∀ {σ8 : St} {H8 : Hp} {s8 : Shared}, Inv (blkCx X N scope cl s2 H2 fp) ([] ++ pinsAt fp s6.heap) σ8 H8 s8 → Nx σ8 H8 → ∃ m, m < n ∧ ∃ i σ' H', Inv (blkCx X N scope cl s2 H2 fp) [] σ' H' s8 ∧ tn i s8.heap ∧ (∀ b ∈ fp, H' b = none) ∧ W i m σ' H' := fun {σ8 H8 s8} I8 n8 => by
        obtain ⟨m', hm, w8⟩ := hN σ8 H8 n8
        refine ⟨m', hm, i + 1, σ8, H8, I8.unpinned, T.keep _ _ _ st6 fun b hb o e => (I8.pin (b, o) (List.mem_append_right _ (List.mem_append_right _ (mem_pinsAt hb e)))).1, fun b hb => ?_, w8⟩
        obtain ⟨o, e, d⟩ := T.obj _ _ st6 b hb
        exact (I8.pin (b, o) (List.mem_append_right _ (List.mem_append_right _ (mem_pinsAt hb e)))).2.1
      refine wpAny_mono (ht cl s2 H2 fp _ s7 σ7 H7 _ I7 q7) (fun okb s8 ⟨H8, I8, q8⟩ => ?_) xe_
      cases okb with
      | false => exact again I8 q8
      | true =>
        refine wpAny_mono (he cl s2 H2 fp _ s8 σ7 H8 _ I8 q8) (fun y s9 ⟨yv, H9, I9, r9, ys, hl, hz, q9⟩ => ?_) xe_
        refine wpAny_mono (mt_append (X := blkCx X N scope cl s2 H2 fp) _ s9 σ7 H9 (.ref s2.heap.objs.size) [yv] (.ref s2.heap.objs.size) [y] (fun _ H10 => Nx σ7 H10) I9 rfl (.cons r9 .nil) ⟨_, ys, yv, rfl, rfl, hl, hz, q9⟩) (fun _ s10 ⟨_, H10, I10, _, q10⟩ => ?_) xe_
        exact again I10 q10
  exact codeAny_compStart_list (loop _ rfl) (T.self _ 0 _ _ _ st3 (loop _ rfl))
def tComp (ix : List (Option Nat)) (wi : TI) (g : TG) (tt : TT) (te : TE) : TE := fun σ H Q => tCompG ix wi g tt te (fun l H' => Q (.ref l) H') σ H
def sComp (k : Nat) (ix : List (Option Nat)) (wi : TI) (g : TG) (tt : TT) (te : TE) : TS := fun D σ H => tCompG ix wi g tt te (fun l H' => D.nx (σ.set k (some (.ref l))) H') σ H
theorem comp_cl (I : Inv X pins σ H s) {ix : List (Option Nat)} (B : BlkOk X N ix scope) : ∃ cl, closureFor scope X.env = pure cl ∧ (∀ x c, cl.lookup x = some c → X.env.cells.lookup x = some c) ∧ ∀ x, (x, NameKind.free) ∈ scope.names → ∃ c, cl.lookup x = some c :=
  closure_of fun x hx => I.ok.has x (B.free x hx)
theorem names_local {ix : List (Option Nat)} (B : BlkOk X N ix scope) : ∀ x ∈ scope.names, x.2 = NameKind.local → scope.names.lookup x.1 = some .local := fun x hx e => by
  obtain ⟨n, k⟩ := x
  cases e
  exact lookup_of_mem B.names hx
theorem pe_comp {tg iter elt : Expr} {ifs : List Expr} {pos : Pos} {ix : List (Option Nat)} {wi : TI} {g : TG} {tt : TT} {te : TE} (N : List Str) (B : BlkOk X N ix scope) (hc : X.calm = true)
    (hi : PI X tg iter wi) (hg : ∀ cl s H fp, PG (blkCx X N scope cl s H fp) tg g) (ht : ∀ cl s H fp, PTs (blkCx X N scope cl s H fp) ifs tt) (he : ∀ cl s H fp, PE (blkCx X N scope cl s H fp) elt te)
    (hs : ∀ x, foldedSetIterable iter X.env x = pure x := by intro _; rfl) : PE X (.ListComp elt [⟨tg, iter, ifs, 0⟩] scope pos) (tComp ix wi g tt te) := by
  intro pins s σ H Q I h
  obtain ⟨cl, e1, e2, e3⟩ := comp_cl I B
  rw [eval_ListComp]
  refine wpAny_comprehension_free (use := none) rfl hs e1 B.kind (names_local B) ?_
  refine comp_run (RR := fun acc C => compPost (model X.prog X.w) X.A X.xe none (EP X pins σ Q) acc C) B hc hi hg ht he e2 e3 I h (fun s2 H2 fp σ3 H3 s3 I2 f2 J q => ?_) (fun a C x s' q => q)
  obtain ⟨m, hn, _⟩ := J.loc
  exact ⟨m, hn, fun h' sb => ⟨.ref _, H3, blk_end I2 J f2 sb, rfl, q⟩⟩
theorem ps_comp {y : Str} {py spos : Pos} {k : Nat} {tg iter elt : Expr} {ifs : List Expr} {pos : Pos} {ix : List (Option Nat)} {wi : TI} {g : TG} {tt : TT} {te : TE} (hN : X.N.Nodup) (hy : X.N[k]? = some y) (hx : Loc X.env.scope y)
    (hsw : swapsWith (.ListComp elt [⟨tg, iter, ifs, 0⟩] scope pos) (some (.Name y py)) spos.line X.env = pure true) (N : List Str) (B : BlkOk X N ix scope) (hc : X.calm = true)
    (hi : PI X tg iter wi) (hg : ∀ cl s H fp, PG (blkCx X N scope cl s H fp) tg g) (ht : ∀ cl s H fp, PTs (blkCx X N scope cl s H fp) ifs tt) (he : ∀ cl s H fp, PE (blkCx X N scope cl s H fp) elt te)
    (hs : ∀ x, foldedSetIterable iter X.env x = pure x := by intro _; rfl) (hf : X.fn y = true ∨ X.env.scope.names.lookup y = some .local := by first | exact .inl rfl | exact .inr rfl | assumption) :
    PS X (.Assign [.Name y py] (.ListComp elt [⟨tg, iter, ifs, 0⟩] scope pos) spos) (sComp k ix wi g tt te) := by
  intro pins s σ H D I h
  obtain ⟨cl, e1, e2, e3⟩ := comp_cl I B
  rw [exec_Assign_Name_used _ _ _ _ hsw]
  refine wpAny_bind (wpAny_standAt (wpAny_bind ?_))
  show wpAny _ X.A (do let _ ← comprehension (.ListComp elt [⟨tg, iter, ifs, 0⟩] scope pos) scope X.env _ (newList []) false (eval iter X.env) (some (assign (.Name y py) X.env))) _ _ s
  refine wpAny_bind (wpAny_mono (wpAny_comprehension_free (use := some (assign (.Name y py) X.env)) (Q := fun _ s' => SP X pins D .next s') rfl hs e1 B.kind (names_local B) ?_) (fun _ s' hq => wpAny_pure (wpAny_pure hq)) fun _ _ e => e)
  refine comp_run (RR := fun acc C => compPost (model X.prog X.w) X.A X.xe (some (assign (.Name y py) X.env)) (fun _ s' => SP X pins D .next s') acc C) B hc hi hg ht he e2 e3 I h (fun s2 H2 fp σ3 H3 s3 I2 f2 J q => ?_) (fun a C x s' q => q)
  obtain ⟨m, hn, _⟩ := J.loc
  have I3 : Inv X pins σ H3 { s3 with heap := s3.heap } := blk_end I2 J f2 (Heap.SameBut.refl _ _)
  show wpAny _ X.A (assign (.Name y py) X.env (.ref _)) _ _ _
  refine wpAny_assign_Name (store_ok2 (v := .ref _) I3 hN hy hx rfl (fun s4 I4 ⟨a, sb4, ha⟩ => ?_) hf)
  have hlt : a < s2.heap.objs.size := by
    rcases ha with rfl | ha
    · exact I2.lt
    · obtain ⟨v, z⟩ := I2.cell _ _ ha
      exact z.lt
  have hCa : s2.heap.objs.size + 1 ≠ a := Nat.ne_of_gt (Nat.lt_succ_of_lt hlt)
  refine ⟨m, hn.sameBut sb4 hCa, fun h' sb => ?_⟩
  refine ⟨_, H3, I4.turned (t' := s4.toks) (it := s2.heap.objs.size + 1) (fun b o hb e => (sb.2 b hb).trans e) J.free (Nat.ne_of_gt (Nat.lt_succ_of_lt I2.lt)) (.inr (Nat.le_trans I2.sz (Nat.le_succ _))) (fun x c e => ?_) (fun p hp => ?_), q⟩
  · obtain ⟨v, z⟩ := I2.cell x c e
    exact Nat.ne_of_lt (Nat.lt_succ_of_lt z.lt)
  · exact Nat.ne_of_lt (Nat.lt_succ_of_lt (Heap.lt_size (I2.pin p hp).1))
end
end L2
set_option Elab.async false
set_option linter.all false
set_option maxRecDepth 100000
namespace L2
open PySem PySem.Spec PyProof.Rows
def bnd {α : Type} : Option α → (α → Prop) → Prop
  | some a, k => k a
  | none, _ => False
theorem bnd_of {α : Type} {o : Option α} {a : α} {k : α → Prop} (h : o = some a) (q : k a) : bnd o k := by subst h; exact q
theorem bnd_ex {α : Type} {o : Option α} {k : α → Prop} (h : bnd o k) : ∃ a, o = some a ∧ k a := by
  cases o with
  | none => exact h.elim
  | some a => exact ⟨a, rfl, h⟩
theorem bnd_some {α : Type} {a : α} {k : α → Prop} : bnd (some a) k = k a := rfl
def unM : Option HO → Option (List V)
  | some (.lst xs) => some xs
  | _ => none
def unL : Option HO → Option (List V)
  | some (.lst xs) => some xs
  | some (.frz _ (.lst xs)) => some xs
  | _ => none
def unS : Option HO → Option (List V)
  | some (.lst xs) => some xs
  | some (.frz _ (.lst xs)) => some xs
  | some (.tup xs) => some xs
  | _ => none
theorem unM_ex {o : Option HO} {xs : List V} (h : unM o = some xs) : o = some (.lst xs) := by
  unfold unM at h; split at h
  · cases h; rfl
  · cases h
theorem unL_sq {K : PySem.W.Frag} {H : Hp} {p : Addr} {xs : List V} (h : unL (H p) = some xs) : SqL K H p xs := by
  unfold unL at h; split at h
  · rename_i e; cases h; exact .inl (.inl e)
  · rename_i o _ e; cases h; exact .inl (.inr ⟨_, e⟩)
  · cases h
theorem unS_sq {K : PySem.W.Frag} {H : Hp} {p : Addr} {xs : List V} (h : unS (H p) = some xs) : SqL K H p xs ∨ SqT K H p xs := by
  unfold unS at h; split at h
  · rename_i e; cases h; exact .inl (.inl (.inl e))
  · rename_i o _ e; cases h; exact .inl (.inl (.inr ⟨_, e⟩))
  · rename_i e; cases h; exact .inr (.inl (.inl e))
  · cases h
mutual
inductive DV (K : PySem.W.Frag) (H : Hp) : V → PyData → Prop
  | non : DV K H .non .none
  | bl (b : Bool) : DV K H (.bl b) (.bool b)
  | int (i : Int) : DV K H (.int i) (.int i)
  | str (x : Str) : DV K H (.str x) (.str x)
  | lst {a : Addr} {xs : List V} {ds : List PyData} : SqL K H a xs → DVs K H xs ds → DV K H (.ref a) (.list ds)
  | tup {a : Addr} {xs : List V} {ds : List PyData} : SqT K H a xs → DVs K H xs ds → DV K H (.ref a) (.tuple ds)
inductive DVs (K : PySem.W.Frag) (H : Hp) : List V → List PyData → Prop
  | nil : DVs K H [] []
  | cons {x : V} {d : PyData} {xs : List V} {ds : List PyData} : DV K H x d → DVs K H xs ds → DVs K H (x :: xs) (d :: ds)
end
section
variable {X : Cx} {pins : List (Addr × Obj)} {σ : St} {H : Hp} {s : Shared}
mutual
theorem DV.reads (I : Inv X pins σ H s) : ∀ {x : V} {d : PyData} {v : Value}, DV X.K H x d → RelV x v → ∃ as, Reads s.heap v d as
  | _, _, _, .non, r => by cases r; exact ⟨_, .none⟩
  | _, _, _, .bl b, r => by cases r; exact ⟨_, .bool b⟩
  | _, _, _, .int i, r => by obtain ⟨t, rfl⟩ := r; exact ⟨_, .int i t⟩
  | _, _, _, .str x, r => by obtain ⟨t, rfl⟩ := r; exact ⟨_, .str x t⟩
  | _, _, _, .lst (a := a) h hs, r => by
    cases r
    obtain ⟨its, rv, p, _⟩ := I.list h
    obtain ⟨as, q⟩ := DVs.reads I hs rv
    obtain ⟨o, h1, h2, n, h3⟩ := p.isList
    exact ⟨_, .list h1 h2 h3 q⟩
  | _, _, _, .tup (a := a) h hs, r => by
    cases r
    obtain ⟨its, rv, p, _⟩ := I.tuple h
    obtain ⟨as, q⟩ := DVs.reads I hs rv
    obtain ⟨o, h1, h2, n, h3⟩ := p
    exact ⟨_, .tuple h1 h2 h3 q⟩
theorem DVs.reads (I : Inv X pins σ H s) : ∀ {xs : List V} {ds : List PyData} {us : List Value}, DVs X.K H xs ds → Vals xs us → ∃ as, ReadsAll s.heap us ds as
  | _, _, _, .nil, .nil => ⟨_, .nil⟩
  | _, _, _, .cons h hs, .cons r rs => by
    obtain ⟨as, q⟩ := DV.reads I h r
    obtain ⟨bs, q2⟩ := DVs.reads I hs rs
    exact ⟨_, .cons q q2⟩
end
end
theorem DVs.ints {K : PySem.W.Frag} {H : Hp} : ∀ ns : List Int, DVs K H (ns.map V.int) (ns.map PyData.int)
  | [] => .nil
  | n :: r => .cons (.int n) (DVs.ints r)
theorem eqv_ints : ∀ ns ms : List Int, PyData.eqvAll (ns.map PyData.int) (ms.map PyData.int) = decide (ns = ms) := PySem.W.ked_eqvAll
theorem lay_ints : ∀ ns : List Int, PyData.canLayAll0 (ns.map PyData.int) = true
  | [] => rfl
  | n :: r => by rw [List.map_cons, PyData.canLayAll0, lay_ints r]; rfl
theorem depth_ints : ∀ ns : List Int, PyData.depthAll (ns.map PyData.int) = 0
  | [] => rfl
  | n :: r => by rw [List.map_cons, PyData.depthAll, depth_ints r]; rfl
theorem shaped_ints (ns : List Int) : SeqAt.shaped (.list (ns.map PyData.int)) = true := by
  simp [SeqAt.shaped, PyData.canLay0, lay_ints, PyData.depth, depth_ints]
def cAdd : R2
  | .int i, .int j, H, Q => Q (.int (i + j)) H
  | .str i, .str j, H, Q => i.length + j.length ≤ sizeLine ∧ Q (.str (i ++ j)) H
  | .ref l, .ref b, H, Q => bnd (unM (H l)) fun xs => bnd (unM (H b)) fun zs => xs.length + zs.length ≤ sizeLine ∧ ∀ p, H p = none → Q (.ref p) (upd H p (.lst (xs ++ zs)))
  | _, _, _, _ => False
def cSub : R2
  | .int i, .int j, H, Q => Q (.int (i - j)) H
  | _, _, _, _ => False
def cMul : R2
  | .int i, .int j, H, Q => CMul i j ∧ Q (.int (i * j)) H
  | _, _, _, _ => False
def cDiv : R2
  | .int i, .int j, H, Q => CDiv i j ∧ Q (.int (i / j)) H
  | _, _, _, _ => False
def cMod : R2
  | .int i, .int j, H, Q => 0 < j ∧ Q (.int (i % j)) H
  | _, _, _, _ => False
def cPow : R2
  | .int i, .int j, H, Q => CPow i j ∧ Q (.int (i ^ j.toNat)) H
  | _, _, _, _ => False
def cCmp (g : Int → Int → Bool) : R2
  | .int i, .int j, H, Q => Q (.bl (g i j)) H
  | _, _, _, _ => False
def rEqD (K : PySem.W.Frag) : R2 := fun x y H Q => ∃ d e, DV K H x d ∧ DV K H y e ∧ SeqAt.shaped d = true ∧ SeqAt.shaped e = true ∧ Q (.bl (PyData.eqv d e)) H
def rNeD (K : PySem.W.Frag) : R2 := fun x y H Q => ∃ d e, DV K H x d ∧ DV K H y e ∧ SeqAt.shaped d = true ∧ SeqAt.shaped e = true ∧ Q (.bl (!PyData.eqv d e)) H
def cEq (K : PySem.W.Frag) : R2
  | .int i, .int j, H, Q => Q (.bl (decide (i = j))) H
  | .bl i, .bl j, H, Q => Q (.bl (decide (i = j))) H
  | .str i, .str j, H, Q => Q (.bl (decide (i = j))) H
  | x, y, H, Q => rEqD K x y H Q
def cNe (K : PySem.W.Frag) : R2
  | .int i, .int j, H, Q => Q (.bl (!decide (i = j))) H
  | .bl i, .bl j, H, Q => Q (.bl (!decide (i = j))) H
  | .str i, .str j, H, Q => Q (.bl (!decide (i = j))) H
  | x, y, H, Q => rNeD K x y H Q
def rInD (K : PySem.W.Frag) (neg : Bool) : R2 := fun x y H Q => ∃ d ds, DV K H x d ∧ (DV K H y (.list ds) ∨ DV K H y (.tuple ds)) ∧ PyData.canLayAll0 ds = true ∧ PyData.canLay0 d = true ∧ min (PyData.depthAll ds) d.depth ≤ 62 ∧
  Q (.bl (if neg then !ds.any (fun y => PyData.eqv y d) else ds.any fun y => PyData.eqv y d)) H
def keyOf : V → Option Key
  | .int i => some (.inl i)
  | .str x => some (.inr x)
  | _ => none
def unD : Option HO → Option (List (Key × V))
  | some (.dK kvs) => some kvs
  | _ => none
def cIn (K : PySem.W.Frag) (neg : Bool) : R2
  | .ref a, y, H, Q => rInD K neg (.ref a) y H Q
  | x, .ref p, H, Q => (match unD (H p) with
    | some kvs => bnd (keyOf x) fun k => Q (.bl (if neg then !(valV kvs k).isSome else (valV kvs k).isSome)) H
    | none => bnd (unS (H p)) fun xs => flatV x = true ∧ xs.all flatV = true ∧ Q (.bl (if neg then !inV x xs else inV x xs)) H)
  | .str i, .str j, H, Q => Q (.bl (if neg then !(!(Builtin.Str.occurrences j i 0 j.length 1).isEmpty) else !(Builtin.Str.occurrences j i 0 j.length 1).isEmpty)) H
  | _, _, _, _ => False
def cIx : R2
  | .ref p, y, H, Q => (match unD (H p) with
    | some kvs => bnd (keyOf y) fun k => bnd (valV kvs k) fun v => Q v H
    | none => match y with
      | .int i => bnd (unS (H p)) fun xs => bnd (atI xs i) fun v => Q v H
      | _ => False)
  | .str z, .int i, H, Q => z.length ≤ sizeLine ∧ bnd (atI z.cps.toList i) fun c => Q (.str ⟨#[c]⟩) H
  | _, _, _, _ => False
theorem unD_ex {o : Option HO} {kvs : List (Key × V)} (h : unD o = some kvs) : o = some (.dK kvs) := by
  unfold unD at h; split at h
  · cases h; rfl
  · cases h
theorem keyOf_kV {x : V} {k : Key} (h : keyOf x = some k) : x = kV k := by
  unfold keyOf at h; split at h
  · cases h; rfl
  · cases h; rfl
  · cases h
section
variable {X : Cx} {a b c : Expr} {ta tb tc : TE} {pos : Pos}
theorem op_cAdd : OpR X (binaryOp .Add) cAdd := by
  intro pins s σ H x y v u Q I rx ry h
  unfold cAdd at h
  split at h
  · exact op_add pins s σ H _ _ v u Q I rx ry ⟨_, _, rfl, rfl, h⟩
  · exact op_add_str pins s σ H _ _ v u Q I rx ry ⟨_, _, rfl, rfl, h.1, h.2⟩
  · obtain ⟨xs, e1, h⟩ := bnd_ex h
    obtain ⟨zs, e2, h⟩ := bnd_ex h
    exact op_cat pins s σ H _ _ v u Q I rx ry ⟨_, _, xs, zs, rfl, rfl, unM_ex e1, unM_ex e2, h.1, h.2⟩
  · exact h.elim
theorem op_cSub : OpR X (binaryOp .Sub) cSub := by
  intro pins s σ H x y v u Q I rx ry h
  unfold cSub at h
  split at h
  · exact op_sub pins s σ H _ _ v u Q I rx ry ⟨_, _, rfl, rfl, h⟩
  · exact h.elim
theorem op_cMul : OpR X (binaryOp .Mult) cMul := by
  intro pins s σ H x y v u Q I rx ry h
  unfold cMul at h
  split at h
  · exact op_mul pins s σ H _ _ v u Q I rx ry ⟨_, _, rfl, rfl, h.1, h.2⟩
  · exact h.elim
theorem op_cDiv : OpR X (binaryOp .FloorDiv) cDiv := by
  intro pins s σ H x y v u Q I rx ry h
  unfold cDiv at h
  split at h
  · exact op_fdiv pins s σ H _ _ v u Q I rx ry ⟨_, _, rfl, rfl, h.1, h.2⟩
  · exact h.elim
theorem op_cMod : OpR X (binaryOp .Mod) cMod := by
  intro pins s σ H x y v u Q I rx ry h
  unfold cMod at h
  split at h
  · exact op_mod pins s σ H _ _ v u Q I rx ry ⟨_, _, rfl, rfl, h.1, h.2⟩
  · exact h.elim
theorem op_cCmp {op : CmpOp} {g : Int → Int → Bool} (o : OpR X (compareOp op) (rI0 fun i j => .bl (g i j))) : OpR X (compareOp op) (cCmp g) := by
  intro pins s σ H x y v u Q I rx ry h
  unfold cCmp at h
  split at h
  · exact o pins s σ H _ _ v u Q I rx ry ⟨_, _, rfl, rfl, h⟩
  · exact h.elim
theorem op_cLt : OpR X (compareOp .Lt) (cCmp fun i j => decide (i < j)) := op_cCmp op_lt
theorem op_cLe : OpR X (compareOp .LtE) (cCmp fun i j => decide (i ≤ j)) := op_cCmp op_le
theorem op_cGt : OpR X (compareOp .Gt) (cCmp fun i j => decide (j < i)) := op_cCmp op_gt
theorem op_cGe : OpR X (compareOp .GtE) (cCmp fun i j => decide (j ≤ i)) := op_cCmp op_ge
theorem op_eqD (hu : X.A.units + 64 < cLine) : OpR X (compareOp .Eq) (rEqD X.K) := by
  intro pins s σ H x y v u Q I rx ry h
  obtain ⟨d, e, h1, h2, h3, h4, q⟩ := h
  obtain ⟨as, r1⟩ := h1.reads I rx
  obtain ⟨bs, r2⟩ := h2.reads I ry
  exact eq_dataH r1 r2 h3 h4 hu ⟨.bl _, H, I, rfl, q⟩
theorem op_neD (hu : X.A.units + 64 < cLine) : OpR X (compareOp .NotEq) (rNeD X.K) := by
  intro pins s σ H x y v u Q I rx ry h
  obtain ⟨d, e, h1, h2, h3, h4, q⟩ := h
  obtain ⟨as, r1⟩ := h1.reads I rx
  obtain ⟨bs, r2⟩ := h2.reads I ry
  exact ne_dataH r1 r2 h3 h4 hu ⟨.bl _, H, I, rfl, q⟩
theorem op_cEq (hu : X.A.units + 64 < cLine) : OpR X (compareOp .Eq) (cEq X.K) := by
  intro pins s σ H x y v u Q I rx ry h
  unfold cEq at h
  split at h
  · refine op_eq pins s σ H _ _ v u Q I rx ry ⟨rfl, ?_⟩
    simpa using h
  · refine op_eq pins s σ H _ _ v u Q I rx ry ⟨rfl, ?_⟩
    simpa using h
  · refine op_eq pins s σ H _ _ v u Q I rx ry ⟨rfl, ?_⟩
    simpa using h
  · exact op_eqD hu pins s σ H _ _ v u Q I rx ry h
theorem op_cNe (hu : X.A.units + 64 < cLine) : OpR X (compareOp .NotEq) (cNe X.K) := by
  intro pins s σ H x y v u Q I rx ry h
  unfold cNe at h
  split at h
  · refine op_ne pins s σ H _ _ v u Q I rx ry ⟨rfl, ?_⟩
    simpa using h
  · refine op_ne pins s σ H _ _ v u Q I rx ry ⟨rfl, ?_⟩
    simpa using h
  · refine op_ne pins s σ H _ _ v u Q I rx ry ⟨rfl, ?_⟩
    simpa using h
  · exact op_neD hu pins s σ H _ _ v u Q I rx ry h
theorem op_inD (hu : X.A.units + 64 < cLine) : OpR X (compareOp .In) (rInD X.K false) := by
  intro pins s σ H x y v u Q I rx ry h
  obtain ⟨d, ds, h1, h2, h3, h4, h5, q⟩ := h
  obtain ⟨as, r1⟩ := h1.reads I rx
  rcases h2 with h2 | h2
  · obtain ⟨bs, r2⟩ := h2.reads I ry
    exact SeqAt.in_list_reads r2 r1 h3 h4 (by omega) ⟨.bl _, H, I, rfl, q⟩
  · obtain ⟨bs, r2⟩ := h2.reads I ry
    exact SeqAt.in_tuple_reads r2 r1 h3 h4 (by omega) ⟨.bl _, H, I, rfl, q⟩
theorem op_cIn (hu : X.A.units + 64 < cLine) : OpR X (compareOp .In) (cIn X.K false) := by
  intro pins s σ H x y v u Q I rx ry h
  unfold cIn at h
  split at h
  · exact op_inD hu pins s σ H _ _ v u Q I rx ry h
  · rename_i p hx
    split at h
    · rename_i kvs e
      obtain ⟨k, ek, q⟩ := bnd_ex h
      cases (show u = Value.ref p from ry)
      have g : DGet H p x (valV kvs k) := by rw [keyOf_kV ek]; exact DGet.k (unD_ex e)
      exact d_in (Nat.lt_of_le_of_lt (Nat.add_le_add_left (by decide : 1 ≤ 64) _) hu) I g rx fun s' I' => ⟨.bl _, H, I', rfl, q⟩
    · obtain ⟨xs, e, f1, f2, q⟩ := bnd_ex h
      exact op_in_seq pins s σ H _ _ v u Q I rx ry ⟨p, xs, rfl, unS_sq e, f1, f2, q⟩
  · exact op_in_str pins s σ H _ _ v u Q I rx ry ⟨_, _, rfl, rfl, h⟩
  · exact h.elim
end
end L2
set_option Elab.async false
set_option linter.all false
set_option maxRecDepth 100000
namespace L2
open PySem PySem.Spec PyProof.Rows
section
variable {X : Cx} {a b c : Expr} {ta tb tc : TE} {pos : Pos}
theorem ix_c (hu : X.A.units + 64 < cLine) : IxR X cIx := by
  intro value slice pins s σ H x y v u Q I rx ry h hs
  cases x with
  | ref p =>
    unfold cIx at h
    dsimp only at h
    split at h
    · rename_i kvs e
      obtain ⟨k, ek, h⟩ := bnd_ex h
      obtain ⟨z, ez, q⟩ := bnd_ex h
      cases (show v = Value.ref p from rx)
      have g : DGet H p y (some z) := by rw [keyOf_kV ek, ← ez]; exact DGet.k (unD_ex e)
      exact tail_any (dict_typeIs I g) PySem.F.slot_dict_getitem.lookup (d_getItem (Nat.lt_of_le_of_lt (Nat.add_le_add_left (by decide : 1 ≤ 64) _) hu) I g ry fun w' s3 I3 rw' => ⟨z, H, I3, rw', q⟩) hs
    · split at h
      · obtain ⟨xs, e, h⟩ := bnd_ex h
        obtain ⟨z, ez, q⟩ := bnd_ex h
        rcases unS_sq (K := X.K) e with r | r
        · exact ix_list value slice pins s σ H _ _ v u Q I rx ry ⟨p, xs, _, z, rfl, rfl, r, ez, q⟩ hs
        · exact ix_tup value slice pins s σ H _ _ v u Q I rx ry ⟨p, xs, _, z, rfl, rfl, r, ez, q⟩ hs
      · exact h.elim
  | str zz =>
    cases y with
    | int i =>
      obtain ⟨hz, h⟩ := (show zz.length ≤ sizeLine ∧ bnd (atI zz.cps.toList i) fun c => Q (.str ⟨#[c]⟩) H from h)
      obtain ⟨z, ez, q⟩ := bnd_ex h
      exact ix_str value slice pins s σ H _ _ v u Q I rx ry ⟨_, _, z, rfl, rfl, hz, ez, q⟩ hs
    | _ => exact False.elim h
  | _ => exact False.elim h
def kLen : List V → Hp → VK → Prop
  | [.ref p], H, Q => (match unD (H p) with
    | some kvs => Q (.int kvs.length) H
    | none => bnd (unS (H p)) fun xs => Q (.int xs.length) H)
  | [.str z], H, Q => z.length ≤ sizeLine ∧ Q (.int z.length) H
  | _, _, _ => False
theorem call_kLen : CallR X (.builtin "len") kLen := by
  intro pins s σ H xs us Q I r h
  unfold kLen at h
  split at h
  · split at h
    · rename_i kvs e
      exact call_lenD pins s σ H _ us Q I r ⟨_, kvs, rfl, unD_ex e, h⟩
    · obtain ⟨ys, e, q⟩ := bnd_ex h
      exact call_len_seq pins s σ H _ us Q I r ⟨_, ys, rfl, unS_sq e, q⟩
  · exact call_len_str pins s σ H _ us Q I r ⟨_, rfl, h.1, h.2⟩
  · exact h.elim
def kAbs : List V → Hp → VK → Prop
  | [.int i], H, Q => Q (.int (if i < 0 then -i else i)) H
  | _, _, _ => False
def kMin : List V → Hp → VK → Prop
  | [.int i, .int j], H, Q => Q (.int (if j < i then j else i)) H
  | _, _, _ => False
def kMax : List V → Hp → VK → Prop
  | [.int i, .int j], H, Q => Q (.int (if j > i then j else i)) H
  | _, _, _ => False
def kList : List V → Hp → VK → Prop
  | [.ref p], H, Q => bnd (unS (H p)) fun ys => ∀ l, H l = none → Q (.ref l) (upd H l (.lst ys))
  | _, _, _ => False
theorem call_kList : CallR X (.type "list") kList := by
  intro pins s σ H xs us Q I r h
  unfold kList at h
  split at h
  · obtain ⟨ys, e, q⟩ := bnd_ex h
    exact call_list_of pins s σ H _ us Q I r ⟨_, ys, rfl, unS_sq e, q⟩
  · exact h.elim
def tyName (H : Hp) : V → Option String
  | .non => some "NoneType"
  | .bl _ => some "bool"
  | .int _ => some "int"
  | .str _ => some "str"
  | .ref p => match H p with
    | some (.lst _) => some "list"
    | some (.frz _ (.lst _)) => some "list"
    | some (.tup _) => some "tuple"
    | some (.dK _) => some "dict"
    | _ => none
  | _ => none
def isTy (t n : String) : Bool := t == n || (t == "bool" && n == "int")
def tyKnown (n : String) : Bool := ["int", "bool", "str", "list", "tuple", "dict"].contains n
theorem tyName_of {K : PySem.W.Frag} {H : Hp} {x : V} {t : String} (h : tyName H x = some t) : TyOf K H x (.type t) ∧ ["NoneType", "int", "bool", "str", "list", "tuple", "dict"].contains t = true := by
  cases x with
  | non => cases h; exact ⟨.non, by decide⟩
  | bl b => cases h; exact ⟨.bl b, by decide⟩
  | int i => cases h; exact ⟨.int i, by decide⟩
  | str i => cases h; exact ⟨.str i, by decide⟩
  | byt _ => cases h
  | flt _ => cases h
  | ty _ => cases h
  | ref p =>
    unfold tyName at h
    dsimp only at h
    split at h
    · rename_i e; cases h; exact ⟨.lst e, by decide⟩
    · rename_i e; cases h; exact ⟨.frz e, by decide⟩
    · rename_i e; cases h; exact ⟨.tup e, by decide⟩
    · rename_i e; cases h; exact ⟨.dK e, by decide⟩
    · cases h
theorem kit_ty (K : PySem.W.Frag) : ∀ t ∈ ["NoneType", "int", "bool", "str", "list", "tuple", "dict"], ∀ n ∈ ["int", "bool", "str", "list", "tuple", "dict"], PySem.W.kitOne K (.type t) (.type n) = some (isTy t n) := by
  intro t ht n hn
  simp only [List.mem_cons, List.not_mem_nil, or_false] at ht hn
  rcases ht with rfl | rfl | rfl | rfl | rfl | rfl | rfl <;> rcases hn with rfl | rfl | rfl | rfl | rfl | rfl <;> rfl
def kIsi : List V → Hp → VK → Prop
  | [x, .ty n], H, Q => tyKnown n = true ∧ bnd (tyName H x) fun t => Q (.bl (isTy t n)) H
  | _, _, _ => False
theorem call_kIsi : CallR X (.builtin "isinstance") kIsi := by
  intro pins s σ H xs us Q I r h
  unfold kIsi at h
  split at h
  · obtain ⟨hn, h⟩ := h
    obtain ⟨t, et, q⟩ := bnd_ex h
    obtain ⟨u, w, rfl, ru, rw'⟩ := vals2 r
    cases rw'
    obtain ⟨ty, ht⟩ := tyName_of (K := X.K) et
    exact isinst_ok I ru ty (kit_ty X.K t (by simpa using ht) _ (by simpa [tyKnown] using hn)) fun tk => ⟨.bl _, H, I.tok tk, rfl, q⟩
  · exact h.elim
def kAppend : V → List V → Hp → VK → Prop
  | .ref l, [y], H, Q => bnd (unM (H l)) fun xs => xs.length < sizeLine ∧ Q .non (upd H l (.lst (xs ++ [y])))
  | _, _, _, _ => False
theorem mt_kAppend : MtR X "list.append" kAppend := by
  intro pins s σ H x vs v us Q I rx rv h
  unfold kAppend at h
  split at h
  · obtain ⟨xs, e, h1, q⟩ := bnd_ex h
    exact mt_append pins s σ H _ _ v us Q I rx rv ⟨_, xs, _, rfl, rfl, unM_ex e, h1, q⟩
  · exact h.elim
def kExtend : V → List V → Hp → VK → Prop
  | .ref l, [.ref b], H, Q => bnd (unM (H l)) fun xs => bnd (unM (H b)) fun zs => xs.length + zs.length ≤ sizeLine ∧ Q .non (upd H l (.lst (xs ++ zs)))
  | _, _, _, _ => False
theorem mt_kExtend : MtR X "list.extend" kExtend := by
  intro pins s σ H x vs v us Q I rx rv h
  unfold kExtend at h
  split at h
  · obtain ⟨xs, e, h⟩ := bnd_ex h
    obtain ⟨zs, e2, h1, q⟩ := bnd_ex h
    exact mt_extend pins s σ H _ _ v us Q I rx rv ⟨_, _, xs, zs, rfl, rfl, unM_ex e, unM_ex e2, h1, q⟩
  · exact h.elim
theorem tyV_list {K : PySem.W.Frag} {H : Hp} {p : Addr} {xs : List V} (h : H p = some (.lst xs)) : tyV K "list" (.ref p) H := .inl ⟨rfl, _, SqL.of h⟩
def cSl : V → Option Int → Option Int → Hp → VK → Prop
  | .ref p, lo, hi, H, Q => bnd (unL (H p)) fun xs => ∀ l, H l = none → Q (.ref l) (upd H l (.lst (cutV xs lo hi)))
  | _, _, _, _, _ => False
theorem sl_c : SlR X cSl := by
  intro pins s σ H x v vl vu lo hi sl Q I rx hs pl pu h
  unfold cSl at h
  split at h
  · obtain ⟨xs, e, q⟩ := bnd_ex h
    exact sl_list pins s σ H _ v vl vu lo hi sl Q I rx hs pl pu ⟨_, xs, rfl, unL_sq e, q⟩
  · exact h.elim
end
structure Cal (P : Program) (w : World) (K : PySem.W.Frag) (mg : Str → Option Value) (base : Heap) (k : Nat) (x : Str) (ps : List Str) (sp : Sp) : Prop where
  ex : ∃ (f : Addr) (fd : FuncData), FnOk P w K mg base CX0 k f fd ps sp ∧ mg x = some (.ref f) ∧ PySem.W.keepIn K (.ref f) = true ∧ Binds K fd ps []
theorem pe_cal {X : Cx} {k n : Nat} {x : Str} {ps : List Str} {sp : Sp} {p pos : Pos} {e : Expr} {es : List Expr} {t : TA} (C : Cal X.prog X.w X.K X.mg X.base k x ps sp) (hr : Room n X.A) (hk : k ≤ n) (hg : Gl X x) (ha : PA X (e :: es) t)
    (hdb : (x == ("__debug__" : Str)) = false := by decide) (he : starEach (e :: es) X.env = (false, eval e X.env) :: starEach es X.env := by rfl) (hpl : (backTo pos (starEach es X.env)).any (·.1) = false := by rfl) :
    PE X (.Call (.Name x p) (e :: es) [] pos) (tCall sp [] E0 t) := by
  obtain ⟨f, fd, F, hm, hkp, hb⟩ := C.ex
  exact pe_call F (hr.mono hk) hg hm hkp hb .nil pass0 ha hdb he hpl
end L2
set_option Elab.async false
set_option linter.all false
set_option maxRecDepth 100000
namespace L2
open PySem PySem.Spec PyProof.Rows
theorem hu1 {u : Nat} (h : u + 64 < cLine) : u + 1 < cLine := Nat.lt_of_le_of_lt (Nat.add_le_add_left (by decide : 1 ≤ 64) _) h
theorem bt_len : bootBuiltins "len" = some (.builtin "len") := by decide +kernel
theorem bt_isinstance : bootBuiltins "isinstance" = some (.builtin "isinstance") := by decide +kernel
theorem bt_list : bootBuiltins "list" = some (.type "list") := by decide +kernel
theorem bt_int : bootBuiltins "int" = some (.type "int") := by decide +kernel
theorem bt_bool : bootBuiltins "bool" = some (.type "bool") := by decide +kernel
theorem bt_str : bootBuiltins "str" = some (.type "str") := by decide +kernel
theorem bt_tuple : bootBuiltins "tuple" = some (.type "tuple") := by decide +kernel
def compN (scope : Scope) : List Str := (scope.names.filter fun p => p.2 == .local || p.2 == .cell || p.2 == .free).map (·.1)
def compIx (N : List Str) (scope : Scope) : List (Option Nat) := (compN scope).map fun x => if scope.names.lookup x == some .free then N.findIdx? (· == x) else none
def isCF : Option NameKind → Bool
  | some .cell => true
  | some .free => true
  | _ => false
theorem blk_ok {X : Cx} {scope : Scope} (h1 : scope.kind = .function) (h2 : (scope.names.map (·.1)).Nodup) (h3 : (scope.names.all fun p => p.2 != .free || isCF (X.env.kindOf p.1)) = true) : BlkOk X (compN scope) (compIx X.N scope) scope where
  kind := h1
  nd := h2.sublist (List.Sublist.map _ (List.filter_sublist ..))
  len := by unfold compIx; rw [List.length_map]
  names := h2
  free := fun x hx => by
    have := List.all_eq_true.mp h3 (x, .free) hx
    simp only [bne_self_eq_false, Bool.false_or] at this
    unfold isCF at this
    split at this
    · rename_i e; exact .inl e
    · rename_i e; exact .inr e
    · cases this
  at_ := fun j i x e1 e2 => by
    unfold compIx at e2
    rw [List.getElem?_map, e1] at e2
    simp only [Option.map_some, Option.some.injEq] at e2
    split at e2
    · rename_i hf
      obtain ⟨hlt, hp, _⟩ := List.findIdx?_eq_some_iff_getElem.mp e2
      have hx : X.N[i]? = some x := by
        rw [List.getElem?_eq_getElem hlt]
        have : X.N[i] = x := by simpa using hp
        rw [this]
      refine ⟨hx, PySem.mem_of_lookup (by simpa using hf)⟩
    · cases e2
end L2
set_option Elab.async false
set_option linter.all false
set_option maxRecDepth 100000
namespace L2
open PySem PySem.Spec PyProof.Rows
section
variable {t u : TS} {D : Ends} {σ : St} {H : Hp} {Q : VK} {ta tb : TE} {R : Bool → Hp → Prop} {c d : TT}
theorem w_seq : tSeq t u D σ H = t { D with nx := u D } σ H := rfl
theorem w_next : tNext D σ H = D.nx σ H := rfl
theorem w_asg {g : TG} : tAsg ta g D σ H = ta σ H fun x H1 => g x σ H1 D.nx := rfl
theorem w_gname {i : Nat} {v : V} {k : St → Hp → Prop} : gName i v σ H k = k (σ.set i (some v)) H := rfl
theorem w_var0 {v : V} {σ : St} : tVar 0 (some v :: σ) H Q = Q v H := rfl
theorem w_varS {i : Nat} {a : Option V} {σ : St} : tVar (i + 1) (a :: σ) H Q = tVar i σ H Q := rfl
theorem w_c {v : V} : tC v σ H Q = Q v H := rfl
theorem w_op {r : R2} : tOp r ta tb σ H Q = ta σ H fun x H1 => tb σ H1 fun y H2 => r x y H2 Q := rfl
theorem w_ret : tRet ta D σ H = ta σ H D.rt := rfl
theorem w_retN : tRetN D σ H = D.rt .non H := rfl
theorem w_drop : tDrop ta D σ H = ta σ H fun _ H1 => D.nx σ H1 := rfl
theorem w_if : tIfS c t u D σ H = c σ H fun b H1 => if b = true then t D σ H1 else u D σ H1 := rfl
theorem w_test : tTest ta σ H R = ta σ H fun x H' => ∃ k, x = .bl k ∧ R k H' := rfl
theorem w_b : tB ta σ H R = ta σ H fun x H' => ∃ k, x = .bl k ∧ R k H' := rfl
theorem w_not : tNot c σ H R = c σ H fun k H1 => R (!k) H1 := rfl
theorem w_and : tAnd c d σ H R = c σ H fun k H1 => if k = true then d σ H1 R else R false H1 := rfl
theorem w_or : tOr c d σ H R = c σ H fun k H1 => if k = true then R true H1 else d σ H1 R := rfl
theorem w_notV : tNotV ta σ H Q = ta σ H fun x H1 => ∃ c, x = .bl c ∧ Q (.bl (!c)) H1 := rfl
theorem w_andV : tAndV ta tb σ H Q = ta σ H fun x H1 => ∃ c, x = .bl c ∧ if c = true then tb σ H1 Q else Q (.bl false) H1 := rfl
theorem w_orV : tOrV ta tb σ H Q = ta σ H fun x H1 => ∃ c, x = .bl c ∧ if c = true then Q (.bl true) H1 else tb σ H1 Q := rfl
theorem w_nil {k : List V → Hp → Prop} : tNil σ H k = k [] H := rfl
theorem w_cons {tr : TA} {k : List V → Hp → Prop} : tCons ta tr σ H k = ta σ H fun x H1 => tr σ H1 fun xs H2 => k (x :: xs) H2 := rfl
theorem w_cb {r : List V → Hp → VK → Prop} {tr : TA} : tCB r tr σ H Q = tr σ H fun vs H1 => r vs H1 Q := rfl
theorem w_call {sp : Sp} {dvs : List V} {E : XK} {tr : TA} : tCall sp dvs E tr σ H Q = tr σ H fun vs H1 => sp (vs ++ dvs) H1 Q E := rfl
theorem w_tup {tr : TA} : tTup tr σ H Q = tr σ H fun xs H1 => xs.length ≤ sizeLine ∧ ∀ p, H1 p = none → Q (.ref p) (upd H1 p (.tup xs)) := rfl
theorem w_lst {tr : TA} : tLst tr σ H Q = tr σ H fun xs H1 => xs.length ≤ sizeLine ∧ ∀ p, H1 p = none → Q (.ref p) (upd H1 p (.lst xs)) := rfl
theorem w_bm {K : PySem.W.Frag} {T : String} {r : V → List V → Hp → VK → Prop} {tr : TA} : tBM K T r ta tr σ H Q = ta σ H fun x H1 => tyV K T x H1 ∧ tr σ H1 fun xs H2 => r x xs H2 Q := rfl
theorem w_bm0 {K : PySem.W.Frag} {T : String} {r : V → List V → Hp → VK → Prop} : tBM0 K T r ta σ H Q = ta σ H fun x H1 => tyV K T x H1 ∧ r x [] H1 Q := rfl
theorem w_true : tTrue σ H R = R true H := rfl
theorem w_dnew : tDNewK σ H Q = ∀ p, H p = none → Q (.ref p) (upd H p (.dK [])) := rfl
theorem w_dput {td ty tv : TE} : sDPut td ty tv D σ H = tv σ H fun v H1 => td σ H1 fun x H2 => ty σ H2 fun y H3 => ∃ a H4, x = .ref a ∧ DPut H3 a y v H4 ∧ D.nx σ H4 := rfl
theorem w_add {i j : Int} : cAdd (.int i) (.int j) H Q = Q (.int (i + j)) H := rfl
theorem w_sub {i j : Int} : cSub (.int i) (.int j) H Q = Q (.int (i - j)) H := rfl
theorem w_mul {i j : Int} : cMul (.int i) (.int j) H Q = (CMul i j ∧ Q (.int (i * j)) H) := rfl
theorem w_div {i j : Int} : cDiv (.int i) (.int j) H Q = (CDiv i j ∧ Q (.int (i / j)) H) := rfl
theorem w_mod {i j : Int} : cMod (.int i) (.int j) H Q = (0 < j ∧ Q (.int (i % j)) H) := rfl
theorem w_cmp {g : Int → Int → Bool} {i j : Int} : cCmp g (.int i) (.int j) H Q = Q (.bl (g i j)) H := rfl
theorem w_eqI {K : PySem.W.Frag} {i j : Int} : cEq K (.int i) (.int j) H Q = Q (.bl (decide (i = j))) H := rfl
theorem w_neI {K : PySem.W.Frag} {i j : Int} : cNe K (.int i) (.int j) H Q = Q (.bl (!decide (i = j))) H := rfl
theorem w_eqB {K : PySem.W.Frag} {i j : Bool} : cEq K (.bl i) (.bl j) H Q = Q (.bl (decide (i = j))) H := rfl
theorem w_neB {K : PySem.W.Frag} {i j : Bool} : cNe K (.bl i) (.bl j) H Q = Q (.bl (!decide (i = j))) H := rfl
theorem w_ix {p : Addr} {i : Int} {xs : List V} (h : H p = some (.tup xs)) : cIx (.ref p) (.int i) H Q = bnd (atI xs i) fun v => Q v H := by
  unfold cIx; dsimp only; rw [h]; rfl
theorem w_ixL {p : Addr} {i : Int} {xs : List V} (h : H p = some (.lst xs)) : cIx (.ref p) (.int i) H Q = bnd (atI xs i) fun v => Q v H := by
  unfold cIx; dsimp only; rw [h]; rfl
theorem w_abs {i : Int} : kAbs [.int i] H Q = Q (.int (if i < 0 then -i else i)) H := rfl
theorem w_min {i j : Int} : kMin [.int i, .int j] H Q = Q (.int (if j < i then j else i)) H := rfl
theorem w_len {p : Addr} {xs : List V} (h : H p = some (.lst xs)) : kLen [.ref p] H Q = Q (.int xs.length) H := by
  unfold kLen; dsimp only; rw [h]; rfl
theorem w_lenT {p : Addr} {xs : List V} (h : H p = some (.tup xs)) : kLen [.ref p] H Q = Q (.int xs.length) H := by
  unfold kLen; dsimp only; rw [h]; rfl
theorem w_append {p : Addr} {xs : List V} {y : V} (h : H p = some (.lst xs)) : kAppend (.ref p) [y] H Q = (xs.length < sizeLine ∧ Q .non (upd H p (.lst (xs ++ [y])))) := by
  unfold kAppend; dsimp only; rw [h]; rfl
theorem flat_ints : ∀ ns : List Int, (ns.map V.int).all flatV = true
  | [] => rfl
  | n :: r => by rw [List.map_cons, List.all_cons, flat_ints r]; rfl
end
def LoopR (J : It) (g : TG) (tb : TS) (D : Ends) (σ : St) (H1 : Hp) : Prop := ∃ W : Nat → Nat → St → Hp → Prop, (∃ m, W 0 m σ H1) ∧ ∀ i m σ H, W i m σ H →
  (J.stop i H ∧ D.nx σ H) ∨ (J.go i H ∧ ∃ N : St → Hp → Prop, (∀ σ' H', N σ' H' → ∃ m', m' < m ∧ W (i + 1) m' σ' H') ∧ ∀ x H', J.yld i H x H' → g x σ H' fun σ2 H2 => tb { D with nx := N, ct := N, bk := D.nx } σ2 H2)
def CompR (J : It) (g : TG) (tt : TT) (te : TE) (fin : Addr → Hp → Prop) (σ0 : St) (H1 : Hp) : Prop := ∀ l, H1 l = none →
  ∃ W : Nat → Nat → St → Hp → Prop, (∃ m, W 0 m σ0 (upd H1 l (.lst []))) ∧ ∀ i m σ' H', W i m σ' H' →
    (J.stop i H' ∧ fin l H') ∨ (J.go i H' ∧ ∃ N : St → Hp → Prop, (∀ σ'' H'', N σ'' H'' → ∃ m', m' < m ∧ W (i + 1) m' σ'' H'') ∧ ∀ x H2, J.yld i H' x H2 → g x σ' H2 fun σ2 H3 => tt σ2 H3 fun b H4 =>
      if b = true then te σ2 H4 fun y H5 => ∃ ys, H5 l = some (.lst ys) ∧ ys.length < sizeLine ∧ N σ2 (upd H5 l (.lst (ys ++ [y]))) else N σ2 H4)
section
variable {K : PySem.W.Frag} {g : TG} {tb : TS} {D : Ends} {σ : St} {H : Hp} {tl : TE} {ta : TA} {ix : List (Option Nat)} {tt : TT} {te : TE} {k : Nat} {Q : VK}
theorem w_forL : tFor (iList K tl) g tb D σ H = tl σ H fun x H1 => ∃ a, x = .ref a ∧ (∃ xs, SqL K H1 a xs) ∧ LoopR (Itl K a) g tb D σ H1 := rfl
theorem w_forR1 : tFor (iRng1 ta) g tb D σ H = ta σ H fun vs H1 => ∃ j : Int, vs = [.int j] ∧ -(2 ^ 62) ≤ j ∧ j < 2 ^ 62 ∧ LoopR (Itr 0 j.toNat) g tb D σ H1 := rfl
theorem w_forR2 : tFor (iRng2 ta) g tb D σ H = ta σ H fun vs H1 => ∃ i j : Int, vs = [.int i, .int j] ∧ (-(2 ^ 62) ≤ i ∧ i < 2 ^ 62 ∧ -(2 ^ 62) ≤ j ∧ j < 2 ^ 62) ∧ LoopR (Itr i (j - i).toNat) g tb D σ H1 := rfl
theorem w_compL : tComp ix (iList K tl) g tt te σ H Q = tl σ H fun x H1 => ∃ a, x = .ref a ∧ (∃ xs, SqL K H1 a xs) ∧ CompR (Itl K a) g tt te (fun l H' => Q (.ref l) H') (subσ ix σ) H1 := rfl
theorem w_compR1 : tComp ix (iRng1 ta) g tt te σ H Q = ta σ H fun vs H1 => ∃ j : Int, vs = [.int j] ∧ -(2 ^ 62) ≤ j ∧ j < 2 ^ 62 ∧ CompR (Itr 0 j.toNat) g tt te (fun l H' => Q (.ref l) H') (subσ ix σ) H1 := rfl
theorem w_scompL : sComp k ix (iList K tl) g tt te D σ H = tl σ H fun x H1 => ∃ a, x = .ref a ∧ (∃ xs, SqL K H1 a xs) ∧ CompR (Itl K a) g tt te (fun l H' => D.nx (σ.set k (some (.ref l))) H') (subσ ix σ) H1 := rfl
theorem w_scompR1 : sComp k ix (iRng1 ta) g tt te D σ H = ta σ H fun vs H1 => ∃ j : Int, vs = [.int j] ∧ -(2 ^ 62) ≤ j ∧ j < 2 ^ 62 ∧ CompR (Itr 0 j.toNat) g tt te (fun l H' => D.nx (σ.set k (some (.ref l))) H') (subσ ix σ) H1 := rfl
theorem comp_range {lo : Int} {n : Nat} {fin : Addr → Hp → Prop} {σ0 : St} {H1 : Hp} (Pv : Addr → Nat → St → Hp → Prop) (h0 : ∀ l, H1 l = none → Pv l 0 σ0 (upd H1 l (.lst [])))
    (hs : ∀ l i σ H, H1 l = none → i < n → Pv l i σ H → g (.int (lo + i)) σ H fun σ2 H3 => tt σ2 H3 fun b H4 => if b = true then te σ2 H4 fun y H5 => ∃ ys, H5 l = some (.lst ys) ∧ ys.length < sizeLine ∧ Pv l (i + 1) σ2 (upd H5 l (.lst (ys ++ [y]))) else Pv l (i + 1) σ2 H4)
    (hd : ∀ l σ H, H1 l = none → Pv l n σ H → fin l H) : CompR (Itr lo n) g tt te fin σ0 H1 := by
  intro l hl0
  refine ⟨fun i m σ H => m = n - i ∧ i ≤ n ∧ Pv l i σ H, ⟨n, by simp, Nat.zero_le _, h0 l hl0⟩, ?_⟩
  rintro i m σ H ⟨rfl, hi, p⟩
  by_cases hlt : i < n
  · refine .inr ⟨hlt, Pv l (i + 1), fun σ' H' p' => ⟨n - (i + 1), by omega, rfl, hlt, p'⟩, fun x H' y => ?_⟩
    obtain ⟨e, y⟩ := y
    subst e y
    exact hs l i σ _ hl0 hlt p
  · have e : i = n := by omega
    subst e
    exact .inl ⟨Nat.le_refl _, hd l σ H hl0 p⟩
theorem comp_list {a : Addr} {xs : List V} {fin : Addr → Hp → Prop} {σ0 : St} {H1 : Hp} (Pv : Addr → Nat → St → Hp → Prop) (h0 : ∀ l, H1 l = none → Pv l 0 σ0 (upd H1 l (.lst []))) (hq : ∀ l i σ H, H1 l = none → i ≤ xs.length → Pv l i σ H → SqL K H a xs)
    (hs : ∀ l i x σ H, H1 l = none → xs[i]? = some x → Pv l i σ H → g x σ H fun σ2 H3 => tt σ2 H3 fun b H4 => if b = true then te σ2 H4 fun y H5 => ∃ ys, H5 l = some (.lst ys) ∧ ys.length < sizeLine ∧ Pv l (i + 1) σ2 (upd H5 l (.lst (ys ++ [y]))) else Pv l (i + 1) σ2 H4)
    (hd : ∀ l σ H, H1 l = none → Pv l xs.length σ H → fin l H) : CompR (Itl K a) g tt te fin σ0 H1 := by
  intro l hl0
  refine ⟨fun i m σ H => m = xs.length - i ∧ i ≤ xs.length ∧ Pv l i σ H, ⟨xs.length, by simp, Nat.zero_le _, h0 l hl0⟩, ?_⟩
  rintro i m σ H ⟨rfl, hi, p⟩
  have q := hq l i σ H hl0 hi p
  by_cases hlt : i < xs.length
  · refine .inr ⟨⟨xs, xs[i], q, by simp [hlt]⟩, Pv l (i + 1), fun σ' H' p' => ⟨xs.length - (i + 1), by omega, rfl, hlt, p'⟩, fun x H' y => ?_⟩
    obtain ⟨e, y⟩ := y
    subst e
    exact hs l i x σ _ hl0 (y xs q) p
  · have e : i = xs.length := by omega
    subst e
    exact .inl ⟨⟨xs, q, Nat.le_refl _⟩, hd l σ H hl0 p⟩
theorem w_eqL {p q : Addr} {xs ys : List Int} (hp : H p = some (.lst (xs.map V.int))) (hq : H q = some (.lst (ys.map V.int))) (h : Q (.bl (decide (xs = ys))) H) : cEq K (.ref p) (.ref q) H Q := by
  show rEqD K (.ref p) (.ref q) H Q
  refine ⟨.list (xs.map PyData.int), .list (ys.map PyData.int), .lst (SqL.of hp) (.ints xs), .lst (SqL.of hq) (.ints ys), shaped_ints xs, shaped_ints ys, ?_⟩
  rw [PyData.eqv, eqv_ints]
  exact h
theorem w_list {p : Addr} {xs : List V} (hp : H p = some (.lst xs)) (h : ∀ l, H l = none → Q (.ref l) (upd H l (.lst xs))) : kList [.ref p] H Q := by
  unfold kList
  dsimp only
  rw [hp]
  exact h
end
theorem blk_ok2 {X : Cx} {N : List Str} {ix : List (Option Nat)} {scope : Scope} (h1 : scope.kind = .function) (h2 : (scope.names.map (·.1)).Nodup) (h3 : (scope.names.all fun p => p.2 != .free || isCF (X.env.kindOf p.1)) = true) (h4 : N = compN scope) (h5 : ix = compIx X.N scope) : BlkOk X N ix scope := by
  subst h4 h5
  exact blk_ok h1 h2 h3
def kLenS (K : PySem.W.Frag) : List V → Hp → VK → Prop := fun xs H Q => ∃ p ys, xs = [.ref p] ∧ (SqL K H p ys ∨ SqT K H p ys) ∧ Q (.int ys.length) H
structure Bt (mg : Str → Option Value) : Prop where
  len_ : mg "len" = none
  abs_ : mg "abs" = none
  min_ : mg "min" = none
  max_ : mg "max" = none
  sorted_ : mg "sorted" = none
  any_ : mg "any" = none
  isinstance_ : mg "isinstance" = none
  list_ : mg "list" = none
  int_ : mg "int" = none
  bool_ : mg "bool" = none
  str_ : mg "str" = none
  tuple_ : mg "tuple" = none
  reversed_ : mg "reversed" = none
  set_ : mg "set" = none
  range_ : mg "range" = none
  zip_ : mg "zip" = none
end L2
set_option Elab.async false
set_option linter.all false
set_option maxRecDepth 100000
namespace L2
open PySem PySem.Spec PyProof.Rows
theorem Vals.get' : ∀ {xs : List V} {us : List Value} {i : Nat} {u : Value}, Vals xs us → us[i]? = some u → ∃ x, xs[i]? = some x ∧ RelV x u
  | _, _, _, _, .nil, h => by simp at h
  | _, _, 0, _, .cons r _, h => by simp at h; subst h; exact ⟨_, rfl, r⟩
  | _, _, i + 1, _, .cons _ t, h => by
    obtain ⟨x, hx, r⟩ := Vals.get' (i := i) t (by simpa using h)
    exact ⟨x, by simpa using hx, r⟩
section
variable {X : Cx} {pins : List (Addr × Obj)} {σ : St} {H : Hp} {s s' : Shared}
theorem Inv.kept' (I : Inv X pins σ H s) (k : ∀ b u, s.heap.get? b = some u → s'.heap.get? b = some u) (ho : s'.os = s.os) (hg : AllBare s'.gens) : Inv X pins σ H s' :=
  I.call' (ch := []) ho (Un.kept k) (I.hok.kept k) hg fun b z => absurd z (by simp)
theorem Inv.walked {l : Addr} {o : Obj} (I : Inv X pins σ H s) (hm : Moved [s.heap.objs.size] (fun a b => b = a) { s with heap := s.heap.push o } s') : Inv X pins σ H s' := by
  refine I.kept' (fun b u e => hm.heap b u (fun z => ?_) (Heap.get?_push_of_some _ e)) hm.os (by rw [show s'.gens = s.gens from hm.gens]; exact I.bare)
  have : b = s.heap.objs.size := by simpa using z
  exact absurd (Heap.lt_size e) (by rw [this]; exact Nat.lt_irrefl _)
end
end L2
set_option Elab.async false
set_option linter.all false
set_option maxRecDepth 100000
namespace L2
open PySem PySem.Spec PyProof.Rows
open Builtin Builtin.Str
theorem strs_of : ∀ {ts : List Str} {us : List Value}, Vals (ts.map V.str) us → ∃ l : List (Str × Tok), us = strValues l ∧ l.map (·.1) = ts
  | [], _, .nil => ⟨[], rfl, rfl⟩
  | t :: ts, _, .cons r rs => by
    obtain ⟨l, rfl, e⟩ := strs_of (ts := ts) rs
    obtain ⟨u, rfl⟩ := r
    exact ⟨(t, u) :: l, rfl, by rw [List.map_cons, e]⟩
theorem vals_strs : ∀ (l : List (Str × Tok)), Vals ((l.map (·.1)).map V.str) (strValues l)
  | [] => .nil
  | (t, u) :: l => .cons ⟨u, rfl⟩ (vals_strs l)
section
variable {X : Cx}
def kJoin : V → List V → Hp → VK → Prop
  | .str sep, [.ref p], H, Q => bnd (unL (H p)) fun ys => ∃ ts : List Str, ys = ts.map V.str ∧ JoinOk sep ts = true ∧ Q (.str (Txt.join sep ts)) H
  | _, _, _, _ => False
theorem mt_kJoin : MtR X "str.join" kJoin := by
  intro pins s σ H x vs v us Q I rx rv h
  unfold kJoin at h
  split at h
  · rename_i sep p
    obtain ⟨ys, e, ts, rfl, hok, q⟩ := bnd_ex h
    obtain ⟨t, rfl⟩ := rx
    obtain ⟨u, rfl, ru⟩ := vals1 rv
    cases ru
    obtain ⟨its, rvv, pl, hz⟩ := I.list (unL_sq e)
    obtain ⟨l, rfl, hl⟩ := strs_of rvv
    exact SC.join pl.isList hl hok fun t' k => ⟨.str _, H, I.tok k, ⟨t', rfl⟩, q⟩
  · exact h.elim
def kFind : V → List V → Hp → VK → Prop
  | .str x, [.str y], H, Q => Q (.int (Txt.find x y)) H
  | _, _, _, _ => False
theorem mt_kFind : MtR X "str.find" kFind := by
  intro pins s σ H x vs v us Q I rx rv h
  unfold kFind at h
  split at h
  · obtain ⟨t, rfl⟩ := rx
    obtain ⟨u, rfl, ru⟩ := vals1 rv
    obtain ⟨t2, rfl⟩ := ru
    exact SC.find ⟨.int _, H, I.tok _, ⟨_, rfl⟩, h⟩
  · exact h.elim
def kSplit : V → List V → Hp → VK → Prop
  | .str x, [.str y], H, Q => (y.length == 0) = false ∧ x.length ≤ sizeLine ∧ (Txt.split x y).length ≤ sizeLine ∧ ∀ l, H l = none → Q (.ref l) (upd H l (.lst ((Txt.split x y).map V.str)))
  | _, _, _, _ => False
theorem mt_kSplit : MtR X "str.split" kSplit := by
  intro pins s σ H x vs v us Q I rx rv h
  unfold kSplit at h
  split at h
  · rename_i x y
    obtain ⟨t, rfl⟩ := rx
    obtain ⟨u, rfl, ru⟩ := vals1 rv
    obtain ⟨t2, rfl⟩ := ru
    obtain ⟨hy, hx, hn, q⟩ := h
    have fin : ∀ (l : List (Str × Tok)) (k : Nat), l.map (·.1) = Txt.split x y → EP X pins σ Q (.ref s.heap.objs.size) { s with heap := s.heap.push { cls := .type "list", data := .seq (strValues l).toArray }, toks := k } := fun l k e => by
      refine ⟨.ref s.heap.objs.size, _, I.lnew (t' := k) (ys := (Txt.split x y).map V.str) (its := strValues l) ?_ (by rw [List.length_map]; exact hn), rfl, q _ I.fresh⟩
      rw [← e]
      exact vals_strs l
    cases h1 : (decide (x.length < y.length) || decide (strKind x < strKind y))
    · cases hf : (occurrences x y 0 x.length (x.length + 1)).isEmpty
      · have e3 : Txt.split x y = partsBetween x (occurrences x y 0 x.length (x.length + 1)) y.length := (if_neg (ne_true_of_eq_false h1)).trans (if_neg (ne_true_of_eq_false hf))
        refine call_meets F.slot_str_split (typeIs_str _ _ _) F.entry_str_split (F.args_str_split_2 _ _) (meets_str_split_sep x y t t2 h1 hy hf hx (by rw [← e3]; exact hn)) ?_
        show wants _ _ _ { s with toks := _, heap := s.heap.push { cls := .type "list", data := .seq (strsFrom s.toks (partsBetween x (occurrences x y 0 x.length (x.length + 1)) y.length)).toArray } }
        rw [strsFrom_eq]
        exact fin (numbered s.toks _) _ ((numbered_texts _ _).trans e3.symm)
      · exact call_meets F.slot_str_split (typeIs_str _ _ _) F.entry_str_split (F.args_str_split_2 _ _) (meets_str_split_not_found x y t t2 h1 hy hf)
          (fin [(x, t)] s.toks ((if_neg (ne_true_of_eq_false h1)).trans (if_pos hf)).symm)
    · exact call_meets F.slot_str_split (typeIs_str _ _ _) F.entry_str_split (F.args_str_split_2 _ _) (meets_str_split_cannot_occur x y t t2 h1)
        (fin [(x, t)] s.toks (if_pos h1).symm)
  · exact h.elim
def cSl2 : V → Option Int → Option Int → Hp → VK → Prop
  | .ref p, lo, hi, H, Q => cSl (.ref p) lo hi H Q
  | .str z, lo, hi, H, Q => z.length ≤ sizeLine ∧ Q (.str (Txt.slice z lo hi)) H
  | _, _, _, _, _ => False
theorem sl_c2 : SlR X cSl2 := by
  intro pins s σ H x v vl vu lo hi sl Q I rx hs pl pu h
  cases x with
  | ref p => exact sl_c pins s σ H _ v vl vu lo hi sl Q I rx hs pl pu h
  | str z =>
    obtain ⟨hz, q⟩ := (show z.length ≤ sizeLine ∧ Q (.str (Txt.slice z lo hi)) H from h)
    obtain ⟨t, rfl⟩ := rx
    have fin : ∀ t' k, EP X pins σ Q (.str (Txt.slice z lo hi) t') { s with toks := k } := fun t' k => ⟨.str _, H, I.tok k, ⟨t', rfl⟩, q⟩
    refine ⟨"str", _, F.slot_str_getitem.lookup, typeIs_str _ _ _, ?_⟩
    cases pl with
    | none =>
      cases pu with
      | none => exact wpAny_getItem_str_slice (l := none) (u := none) (st := none) hs rfl (post_val_or_str ⟨Nat.le_trans (Txt.slice_le z _ _) hz, fin⟩)
      | int j tj => exact wpAny_getItem_str_slice (l := none) (u := some (j, tj)) (st := none) hs rfl (post_val_or_str ⟨Nat.le_trans (Txt.slice_le z _ _) hz, fin⟩)
    | int i ti =>
      cases pu with
      | none => exact wpAny_getItem_str_slice (l := some (i, ti)) (u := none) (st := none) hs rfl (post_val_or_str ⟨Nat.le_trans (Txt.slice_le z _ _) hz, fin⟩)
      | int j tj => exact wpAny_getItem_str_slice (l := some (i, ti)) (u := some (j, tj)) (st := none) hs rfl (post_val_or_str ⟨Nat.le_trans (Txt.slice_le z _ _) hz, fin⟩)
  | _ => exact False.elim h
def Its (x : Str) : It := ⟨fun i _ => i < x.cps.size, fun i H v H' => H' = H ∧ ∃ c, x.cps[i]? = some c ∧ v = .str ⟨#[c]⟩, fun i _ => x.cps.size ≤ i⟩
theorem turn_str {P : Program} {w : World} {K : PySem.W.Frag} {tg : Expr} {x : Str} {t : Tok} (it : Addr) (ty : String) (hty : ["enumerate", "zip", "dict_itemiterator", "dict_reverseitemiterator", "odict_iterator", "itertools.zip_longest", "itertools.pairwise"].contains ty = false)
    (W : ∀ A : Around, A.handled = none → Walks P w A it [it] [it] x.cps.size (SignAt x) (fun i h => h.IsStrIter it ty x t i))
    (slf : ∀ (A : Around) (i : Nat) (s : Shared) (Q : Value → Shared → Prop) (E : Value → Shared → Prop), s.heap.IsStrIter it ty x t i → Q (.ref it) s → wpAny (model P w) A (pyIter (.ref it)) Q E s) :
    Turn P w K tg (Its x) [it] it (fun i h => i ≤ x.cps.size ∧ h.IsStrIter it ty x t i) where
  mem := by simp
  obj := fun i h st b hb => by
    have e : b = it := by simpa using hb
    subst e
    obtain ⟨_, o, e, c, d⟩ := st
    exact ⟨o, e, fun v z => by rw [d] at z; cases z⟩
  keep := fun i h h' st k => by
    obtain ⟨hi, o, e, c, d⟩ := st
    exact ⟨hi, o, k it (by simp) o e, c, d⟩
  item := by
    intro X hP hw hK hc i pins s σ H E I hf st hg
    subst hP hw hK
    obtain ⟨f0, f1, f2, f3, f4, f5⟩ := hf it (by simp)
    have hlt : i < x.cps.size := hg
    refine (W X.A (I.ok.hd hc)).item i s _ _ hlt st.2 fun v h' tk hv st' kk => ?_
    obtain ⟨c, u, hcu, rfl⟩ := hv
    have I1 : Inv X pins σ H { s with heap := h', toks := tk } := I.turned (fun b o hb e => kk b o (by simpa using hb) e) f0 f1 f3 f4 f5
    obtain ⟨o, e, c', d⟩ := id st'
    exact ⟨_, rfl, go_of (s := { s with heap := h', toks := tk }) e c' d hty ⟨.str ⟨#[c]⟩, H, I1, ⟨u, rfl⟩, ⟨rfl, c, hcu, rfl⟩, ⟨hlt, st'⟩, fun b hb => (hf b hb).1⟩⟩
  done := by
    intro X hP hw hK hc i pins s σ H E I hf st hg
    subst hP hw hK
    obtain ⟨f0, f1, f2, f3, f4, f5⟩ := hf it (by simp)
    have hle : x.cps.size ≤ i := hg
    have e : i = x.cps.size := Nat.le_antisymm st.1 hle
    subst e
    exact (W X.A (I.ok.hd hc)).done s _ _ st.2 fun h' tk kk => ⟨rfl, I.turned (fun b o hb e => kk b o (by simpa using hb) e) f0 f1 f3 f4 f5⟩
  self := fun A i s Q E st h => slf A i s Q E st.2 h
def iStr (tl : TE) : TI := fun σ H R => tl σ H fun x H1 => ∃ z, x = .str z ∧ R (Its z) H1
theorem pi_str {tg l : Expr} {tl : TE} (hl : PE X l tl) : PI X tg l (iStr tl) := by
  intro pins s σ H R I h
  refine thn (hl pins s σ H _ I h) fun v s1 ⟨x, H1, I1, r1, q1⟩ => ?_
  obtain ⟨z, rfl, q⟩ := q1
  obtain ⟨t, rfl⟩ := r1
  have fin : ∀ b ∈ [s1.heap.objs.size], FpOk X pins H1 b := fun b hb => by
    have e : b = s1.heap.objs.size := by simpa using hb
    subst e
    exact I1.fpOk (Nat.le_refl _) (I1.hok.fresh (Nat.le_refl _))
  cases ha : z.cps.all (· < 128)
  · refine wpAny_pyIter_wide ha ⟨s1.heap.objs.size, [s1.heap.objs.size], _, Its z, H1, rfl, I1.kept (t' := s1.toks) fun b o e => Heap.get?_push_of_some _ e, turn_str (t := t) _ "str_iterator" (by decide) (fun A' hA => Walks.strWide hA _ z t) (fun A i s Q E st hq => wpAny_pyIter_striter_wide st hq), ⟨Nat.zero_le _, _, Heap.get?_push_size _ rfl, rfl, rfl⟩, fin, q⟩
  · refine wpAny_pyIter_ascii ha ⟨s1.heap.objs.size, [s1.heap.objs.size], _, Its z, H1, rfl, I1.kept (t' := s1.toks) fun b o e => Heap.get?_push_of_some _ e, turn_str (t := t) _ "str_ascii_iterator" (by decide) (fun A' hA => Walks.strAscii hA _ z t) (fun A i s Q E st hq => wpAny_pyIter_striter_ascii st hq), ⟨Nat.zero_le _, _, Heap.get?_push_size _ rfl, rfl, rfl⟩, fin, q⟩
end
section
variable {K : PySem.W.Frag} {g : TG} {tb : TS} {D : Ends} {σ : St} {H : Hp} {tl : TE} {ix : List (Option Nat)} {tt : TT} {te ta : TE} {k : Nat} {Q : VK}
theorem w_sl {r : V → Option Int → Option Int → Hp → VK → Prop} {a b : TO} : tSl r te a b σ H Q = te σ H fun x H1 => a σ H1 fun l H2 => b σ H2 fun u H3 => r x l u H3 Q := rfl
theorem w_part {R : Option Int → Hp → Prop} : tPart te σ H R = te σ H fun x H1 => ∃ i, x = .int i ∧ R (some i) H1 := rfl
theorem w_nopart {R : Option Int → Hp → Prop} : tNoPart σ H R = R none H := rfl
theorem w_gsub {to ti : TE} {t : TSet} {v : V} {R : St → Hp → Prop} : gSub to ti t v σ H R = to σ H fun o H1 => ti σ H1 fun i H2 => t o i v H2 fun H3 => R σ H3 := rfl
theorem w_un {r : V → Hp → VK → Prop} : tUn r te σ H Q = te σ H fun x H1 => r x H1 Q := rfl
theorem w_forS : tFor (iStr tl) g tb D σ H = tl σ H fun x H1 => ∃ z, x = .str z ∧ LoopR (Its z) g tb D σ H1 := rfl
theorem w_compS : tComp ix (iStr tl) g tt te σ H Q = tl σ H fun x H1 => ∃ z, x = .str z ∧ CompR (Its z) g tt te (fun l H' => Q (.ref l) H') (subσ ix σ) H1 := rfl
theorem w_scompS : sComp k ix (iStr tl) g tt te D σ H = tl σ H fun x H1 => ∃ z, x = .str z ∧ CompR (Its z) g tt te (fun l H' => D.nx (σ.set k (some (.ref l))) H') (subσ ix σ) H1 := rfl
theorem w_tyS {x : Str} : tyV K "str" (.str x) H := rfl
theorem w_eqS {i j : Str} : cEq K (.str i) (.str j) H Q = Q (.bl (decide (i = j))) H := rfl
theorem w_neS {i j : Str} : cNe K (.str i) (.str j) H Q = Q (.bl (!decide (i = j))) H := rfl
theorem w_lenS {z : Str} : kLen [.str z] H Q = (z.length ≤ sizeLine ∧ Q (.int z.length) H) := rfl
theorem w_addS {i j : Str} : cAdd (.str i) (.str j) H Q = (i.length + j.length ≤ sizeLine ∧ Q (.str (i ++ j)) H) := rfl
theorem w_ixS {z : Str} {i : Int} : cIx (.str z) (.int i) H Q = (z.length ≤ sizeLine ∧ bnd (atI z.cps.toList i) fun c => Q (.str ⟨#[c]⟩) H) := rfl
theorem w_find {x y : Str} : kFind (.str x) [.str y] H Q = Q (.int (Txt.find x y)) H := rfl
theorem w_split {x y : Str} : kSplit (.str x) [.str y] H Q = ((y.length == 0) = false ∧ x.length ≤ sizeLine ∧ (Txt.split x y).length ≤ sizeLine ∧ ∀ l, H l = none → Q (.ref l) (upd H l (.lst ((Txt.split x y).map V.str)))) := rfl
theorem w_join {sep : Str} {p : Addr} {ts : List Str} (hp : H p = some (.lst (ts.map V.str))) (hok : JoinOk sep ts = true) (h : Q (.str (Txt.join sep ts)) H) : kJoin (.str sep) [.ref p] H Q := by
  unfold kJoin
  dsimp only
  rw [hp]
  exact ⟨ts, rfl, hok, h⟩
theorem w_slL {p : Addr} {lo hi : Option Int} {xs : List V} (hp : H p = some (.lst xs)) (h : ∀ l, H l = none → Q (.ref l) (upd H l (.lst (cutV xs lo hi)))) : cSl2 (.ref p) lo hi H Q := by
  show bnd (unL (H p)) _
  rw [hp]
  exact h
end
end L2
set_option Elab.async false
set_option linter.all false
set_option maxRecDepth 100000
namespace L2
open PySem PySem.Spec PyProof.Rows
def cBitI (g : Int → Int → Int) : R2
  | .int i, .int j, H, Q => Q (.int (g i j)) H
  | _, _, _, _ => False
def cShr : R2
  | .int i, .int j, H, Q => 0 ≤ j ∧ Q (.int (i / 2 ^ j.toNat)) H
  | _, _, _, _ => False
section
variable {H : Hp} {Q : VK} {i j : Int}
theorem w_bitI {g : Int → Int → Int} : cBitI g (.int i) (.int j) H Q = Q (.int (g i j)) H := rfl
theorem w_shr : cShr (.int i) (.int j) H Q = (0 ≤ j ∧ Q (.int (i / 2 ^ j.toNat)) H) := rfl
end
end L2
set_option Elab.async false
set_option linter.all false
set_option maxRecDepth 100000
namespace L2
open PySem PySem.Spec PyProof.Rows
section
variable {X : Cx}
def kInt : List V → Hp → VK → Prop
  | [.int i], H, Q => Q (.int i) H
  | [.bl k], H, Q => Q (.int (if k then 1 else 0)) H
  | _, _, _ => False
def kBitLen : V → List V → Hp → VK → Prop
  | .int i, [], H, Q => Q (.int (Builtin.Int.intBits i : Nat)) H
  | _, _, _, _ => False
def cRepL : R2
  | .ref l, .int k, H, Q => bnd (unM (H l)) fun xs => -(2 ^ 63) ≤ k ∧ k < 2 ^ 63 ∧ xs.length * k.toNat ≤ sizeLine ∧ ∀ p, H p = none → Q (.ref p) (upd H p (.lst (List.replicate k.toNat xs).flatten))
  | _, _, _, _ => False
theorem op_cRepL : OpR X (binaryOp .Mult) cRepL := by
  intro pins s σ H x y v u Q I rx ry h
  unfold cRepL at h
  split at h
  · obtain ⟨xs, e, h1, h2, h3, q⟩ := bnd_ex h
    exact op_rep pins s σ H _ _ v u Q I rx ry ⟨_, _, xs, rfl, rfl, unM_ex e, h1, h2, h3, q⟩
  · exact h.elim
def kAll : List V → Hp → VK → Prop
  | [.ref p], H, Q => bnd (unL (H p)) fun ys => ∃ bs : List Bool, ys = bs.map V.bl ∧ Q (.bl (bs.all id)) H
  | _, _, _ => False
theorem all_range (bs : List Bool) : (List.range bs.length).all (fun i => bs.getD i false) = bs.all id := by
  rw [Bool.eq_iff_iff, List.all_eq_true, List.all_eq_true]
  constructor
  · intro h b hb
    obtain ⟨i, hi, e⟩ := List.mem_iff_getElem.mp hb
    have := h i (List.mem_range.mpr hi)
    rw [List.getD, List.getElem?_eq_getElem hi, e] at this
    exact this
  · intro h i hi
    have hi' : i < bs.length := List.mem_range.mp hi
    have := h bs[i] (List.getElem_mem hi')
    simpa [List.getD, hi'] using this
theorem bt_all : bootBuiltins "all" = some (.builtin "all") := by decide +kernel
theorem call_kAll (hc : X.calm = true) : CallR X (.builtin "all") kAll := by
  intro pins s σ H xs us Q I r h
  unfold kAll at h
  split at h
  · rename_i p
    obtain ⟨ys, e, bs, rfl, q⟩ := bnd_ex h
    obtain ⟨u, rfl, ru⟩ := vals1 r
    cases ru
    obtain ⟨its, rv, pl, hz⟩ := I.list (unL_sq e)
    have hl := rv.length
    rw [List.length_map] at hl
    have hlt : p < s.heap.objs.size := by
      obtain ⟨o, h1, _⟩ := pl.isList
      exact Heap.lt_size h1
    refine call_all_walkS (wpAny_pyIter_list pl.isList ?_)
    refine ⟨s.heap.objs.size, _, _, _, its.toArray.size, _, _, fun i => bs.getD i false, rfl, (Walks.list (A := X.A.in1) (I.ok.hd hc) s.heap.objs.size p (Nat.ne_of_lt hlt) its.toArray).toS, ⟨⟨_, Heap.get?_push_size _ rfl, rfl, rfl⟩, pl.isList.push _⟩, ?_, fun s' hm => ?_⟩
    · intro i v s1 Q1 E1 hP hQ
      have hv : its[i]? = some v := by simpa using hP
      obtain ⟨x, hx, rx⟩ := rv.get' hv
      obtain ⟨b, hb, rfl⟩ : ∃ b, bs[i]? = some b ∧ V.bl b = x := by simpa using hx
      cases rx
      refine wpAny_truthy_bool ?_
      have e3 : bs.getD i false = b := by simp [List.getD, hb]
      rw [← e3]
      exact hQ
    · refine ⟨.bl _, H, I.walked (l := p) hm, ?_, q⟩
      have e2 : its.toArray.size = bs.length := by rw [List.size_toArray]; exact hl.symm
      rw [e2, all_range]
      rfl
  · exact h.elim
def Itd (hi : Int) (n : Nat) : It := ⟨fun i _ => i < n, fun i H x H' => H' = H ∧ x = .int (hi - i), fun i _ => n ≤ i⟩
def iRngD (ta : TA) : TI := fun σ H R => ta σ H fun vs H1 => ∃ i j : Int, vs = [.int i, .int j, .int (-1)] ∧ (-(2 ^ 60) ≤ i ∧ i < 2 ^ 60 ∧ -(2 ^ 60) ≤ j ∧ j < 2 ^ 60) ∧ R (Itd i (i - j).toNat) H1
end
section
variable {K : PySem.W.Frag} {g : TG} {tb : TS} {D : Ends} {σ : St} {H : Hp} {ta : TA} {Q : VK}
theorem w_intB {k : Bool} : kInt [.bl k] H Q = Q (.int (if k then 1 else 0)) H := rfl
theorem w_intI {i : Int} : kInt [.int i] H Q = Q (.int i) H := rfl
theorem w_bitlen {i : Int} : kBitLen (.int i) [] H Q = Q (.int (Builtin.Int.intBits i : Nat)) H := rfl
theorem w_all {p : Addr} {bs : List Bool} (hp : H p = some (.lst (bs.map V.bl))) (h : Q (.bl (bs.all id)) H) : kAll [.ref p] H Q := by
  show bnd (unL (H p)) _
  rw [hp]
  exact bnd_of (a := bs.map V.bl) rfl ⟨bs, rfl, h⟩
theorem w_repL {p : Addr} {xs : List V} {k : Int} (hp : H p = some (.lst xs)) (h0 : 0 ≤ k) (h1 : k ≤ 1000) (hn : xs.length ≤ 1) (h : ∀ l, H l = none → Q (.ref l) (upd H l (.lst (List.replicate k.toNat xs).flatten))) : cRepL (.ref p) (.int k) H Q := by
  show bnd (unM (H p)) _
  rw [hp]
  refine bnd_of (a := xs) rfl ⟨by omega, by omega, ?_, h⟩
  refine Nat.le_of_lt (small1000 (Nat.le_trans (Nat.mul_le_mul_right _ hn) ?_))
  omega
theorem w_forRD : tFor (iRngD ta) g tb D σ H = ta σ H fun vs H1 => ∃ i j : Int, vs = [.int i, .int j, .int (-1)] ∧ (-(2 ^ 60) ≤ i ∧ i < 2 ^ 60 ∧ -(2 ^ 60) ≤ j ∧ j < 2 ^ 60) ∧ LoopR (Itd i (i - j).toNat) g tb D σ H1 := rfl
end
end L2
set_option Elab.async false
set_option linter.all false
set_option maxRecDepth 100000
namespace L2
open PySem PySem.Spec PyProof.Rows
section
variable {X : Cx}
def Ite (K : PySem.W.Frag) (a : Addr) : It :=
  ⟨fun i H => ∃ xs x, SqL K H a xs ∧ xs[i]? = some x,
   fun i H v H' => ∃ T x, v = .ref T ∧ H T = none ∧ H' = upd H T (.tup [.int i, x]) ∧ ∀ xs, SqL K H a xs → xs[i]? = some x,
   fun i H => ∃ xs, SqL K H a xs ∧ xs.length ≤ i⟩
def iEnum (K : PySem.W.Frag) (ta : TA) : TI := fun σ H R => ta σ H fun vs H1 => ∃ a, vs = [.ref a] ∧ (∃ xs, SqL K H1 a xs) ∧ R (Ite K a) H1
end
section
variable {K : PySem.W.Frag} {g : TG} {tb : TS} {D : Ends} {σ : St} {H : Hp} {ta : TA} {Q : VK} {ix : List (Option Nat)} {tt : TT} {te : TE} {k : Nat}
theorem w_forE : tFor (iEnum K ta) g tb D σ H = ta σ H fun vs H1 => ∃ a, vs = [.ref a] ∧ (∃ xs, SqL K H1 a xs) ∧ LoopR (Ite K a) g tb D σ H1 := rfl
theorem w_compE : tComp ix (iEnum K ta) g tt te σ H Q = ta σ H fun vs H1 => ∃ a, vs = [.ref a] ∧ (∃ xs, SqL K H1 a xs) ∧ CompR (Ite K a) g tt te (fun l H' => Q (.ref l) H') (subσ ix σ) H1 := rfl
theorem w_scompE : sComp k ix (iEnum K ta) g tt te D σ H = ta σ H fun vs H1 => ∃ a, vs = [.ref a] ∧ (∃ xs, SqL K H1 a xs) ∧ CompR (Ite K a) g tt te (fun l H' => D.nx (σ.set k (some (.ref l))) H') (subσ ix σ) H1 := rfl
end
end L2
set_option Elab.async false
set_option linter.all false
set_option maxRecDepth 100000
namespace L2
open PySem PySem.Spec PyProof.Rows
end L2
set_option Elab.async false
set_option linter.all false
set_option maxRecDepth 100000
namespace L2
open PySem PySem.Spec PyProof.Rows
end L2
set_option Elab.async false
set_option linter.all false
set_option maxRecDepth 100000
namespace L2
open PySem PySem.Spec PyProof.Rows
def rngL (i j : Int) : List Int := (List.range (j - i).toNat).map fun (k : Nat) => i + (k : Int)
theorem rngL_len (i j : Int) : (rngL i j).length = (j - i).toNat := by unfold rngL; simp
theorem vals_of_get : ∀ {xs : List V} {us : List Value}, xs.length = us.length → (∀ (i : Nat) x u, xs[i]? = some x → us[i]? = some u → RelV x u) → Vals xs us
  | [], [], _, _ => .nil
  | [], _ :: _, h, _ => by simp at h
  | _ :: _, [], h, _ => by simp at h
  | x :: xs, u :: us, h, f => .cons (f 0 x u rfl rfl) (vals_of_get (by simpa using h) fun i y e h1 h2 => f (i + 1) y e (by simpa using h1) (by simpa using h2))
theorem vals_rng {i j : Int} {acc : Array Value} (h : ItemsOf (fun k v => ∃ t, v = .int (i + k * 1) t) acc (j - i).toNat) : Vals ((rngL i j).map V.int) acc.toList := by
  refine vals_of_get (by rw [List.length_map, rngL_len, Array.length_toList]; exact h.1.symm) fun k x u hx hu => ?_
  obtain ⟨t, rfl⟩ := h.2 k u (by simpa using hu)
  unfold rngL at hx
  rw [List.map_map, List.getElem?_map] at hx
  by_cases hk : k < (j - i).toNat
  · rw [List.getElem?_range hk] at hx
    cases hx
    exact ⟨t, by rw [Int.mul_one]⟩
  · rw [List.getElem?_eq_none (by simpa using hk)] at hx
    cases hx
section
variable {X : Cx}
def tListRng1 (ta : TA) : TE := fun σ H Q => ta σ H fun vs H1 => ∃ j : Int, vs = [.int j] ∧ -(2 ^ 60) ≤ j ∧ j ≤ 1000 ∧ ∀ l, H1 l = none → Q (.ref l) (upd H1 l (.lst ((rngL 0 j).map V.int)))
def tListRng2 (ta : TA) : TE := fun σ H Q => ta σ H fun vs H1 => ∃ i j : Int, vs = [.int i, .int j] ∧ (0 ≤ i ∧ i ≤ 1000 ∧ -(2 ^ 60) ≤ j ∧ j ≤ 1000) ∧ ∀ l, H1 l = none → Q (.ref l) (upd H1 l (.lst ((rngL i j).map V.int)))
theorem list_rng {pins : List (Addr × Obj)} {σ : St} {H1 : Hp} {s1 : Shared} {Q : VK} {i j : Int} {t u v : Tok} {tk : Nat} {A : Around} {E : Value → Shared → Prop} (hh : A.handled = none) (I1 : Inv X pins σ H1 s1) (h1 : 0 ≤ i) (h2 : i ≤ 1000) (h3 : -(2 ^ 60) ≤ j) (h4 : j ≤ 1000)
    (q : ∀ l, H1 l = none → Q (.ref l) (upd H1 l (.lst ((rngL i j).map V.int)))) :
    wpAny (model X.prog X.w) A (call (.type "list") [.ref s1.heap.objs.size]) (EP X pins σ Q) E { s1 with heap := s1.heap.push { cls := .type "range", data := .fields #[.int i t, .int j u, .int 1 v] }, toks := tk } := by
  have I2 : Inv X pins σ H1 { s1 with heap := s1.heap.push { cls := .type "range", data := .fields #[.int i t, .int j u, .int 1 v] }, toks := tk } := I1.kept fun b o e => Heap.get?_push_of_some _ e
  refine call_list_range (n := (j - i).toNat) hh (IsRange.new ..) (small_one (by omega) (by omega) (by omega) (by omega)) (by rw [rangeSize_one]; split <;> omega) (by omega) fun h' tk' acc' c' old hS' hacc => ?_
  have hlen : ((rngL i j).map V.int).length ≤ sizeLine := by rw [List.length_map, rngL_len]; exact Nat.le_of_lt (small1000 (by omega))
  exact ⟨.ref _, _, I2.laid (t' := tk') (o := .lst ((rngL i j).map V.int)) old (Nat.le_refl _) ⟨hlen, acc'.toList, c', vals_rng hacc, hS'⟩, rfl, q _ (I2.hok.fresh (Nat.le_refl _))⟩
theorem pe_listrng1 {a : Expr} {ta : TA} {p p2 pos pos2 : Pos} (hc : X.calm = true) (hgl : Gl X "list") (hgr : Gl X "range") (hl : X.mg "list" = none) (hr : X.mg "range" = none) (ha : PA X [a] ta)
    (hs1 : starEach [.Call (.Name "range" p2) [a] [] pos2] X.env = [(false, eval (.Call (.Name "range" p2) [a] [] pos2) X.env)] := by rfl) (hs : starEach [a] X.env = [(false, eval a X.env)] := by rfl) :
    PE X (.Call (.Name "list" p) [.Call (.Name "range" p2) [a] [] pos2] [] pos) (tListRng1 ta) := by
  intro pins s σ H Q I h
  refine wpAny_Call_Name_kw (ld_blt I hgl hl bt_list ?_ (by decide) (by decide))
  refine PyProof.Rows.callWith_type1 ?_ hs1 rfl
  rw [hs1]
  show wpAny _ _ (spliced [(false, eval (.Call (.Name "range" p2) [a] [] pos2) X.env)]) _ _ s
  refine Calls.spliced_cons ?_
  refine Call_ (ld_blt I hgr hr boot_range (PyProof.Rows.callWith_type1 (thn (ha pos2 pins s σ H _ I h) fun us s1 ⟨vs, H1, I1, r1, q1⟩ => ?_) hs rfl))
  obtain ⟨j, e, q1, q2, q⟩ := q1
  subst e
  cases r1 with
  | cons r rr =>
    cases rr
    obtain ⟨t, rfl⟩ := r
    refine call_range_1 ?_
    refine Calls.spliced_nil ?_
    exact list_rng (I.ok.hd hc) I1 (by omega) (by omega) q1 q2 q
end
section
variable {σ : St} {H : Hp} {Q : VK} {ta : TA}
theorem w_lrng1 : tListRng1 ta σ H Q = ta σ H fun vs H1 => ∃ j : Int, vs = [.int j] ∧ -(2 ^ 60) ≤ j ∧ j ≤ 1000 ∧ ∀ l, H1 l = none → Q (.ref l) (upd H1 l (.lst ((rngL 0 j).map V.int))) := rfl
theorem w_lrng2 : tListRng2 ta σ H Q = ta σ H fun vs H1 => ∃ i j : Int, vs = [.int i, .int j] ∧ (0 ≤ i ∧ i ≤ 1000 ∧ -(2 ^ 60) ≤ j ∧ j ≤ 1000) ∧ ∀ l, H1 l = none → Q (.ref l) (upd H1 l (.lst ((rngL i j).map V.int))) := rfl
end
end L2
namespace L2
end L2
set_option Elab.async false
set_option linter.all false
set_option maxRecDepth 100000
namespace L2
open PySem PySem.Spec PyProof.Rows
local macro_rules | `(tactic| walk_at "w") => `(tactic| (first | simp only [w_seq, w_next, w_asg, w_gname, w_var0, w_varS, w_c, w_op, w_ret, w_retN, w_drop, w_test, w_b, w_not, w_and, w_or, w_notV, w_andV, w_orV, w_nil, w_cons, w_cb, w_call, w_tup, w_lst, w_bm, w_bm0, w_true, w_dnew, w_dput, w_forL, w_forR1, w_forR2, w_compL, w_compR1, w_scompL, w_scompR1, w_add, w_sub, w_mul, w_div, w_mod, w_cmp, w_eqI, w_neI, w_eqB, w_neB, w_abs, w_min, w_sl, w_part, w_nopart, w_gsub, w_un, w_forS, w_compS, w_scompS, w_eqS, w_neS, w_lenS, w_addS, w_find,
  List.getElem?_cons_zero, List.getElem?_cons_succ, Option.some.injEq, exists_eq_left', exists_eq_left, List.set_cons_zero, List.set_cons_succ, bnd_some, V.int.injEq, V.bl.injEq, V.ref.injEq, V.str.injEq, List.nil_append, List.cons_append] | dsimp only | skip))
theorem len_le {n : Nat} (h : n ≤ 1000) : n ≤ sizeLine := Nat.le_of_lt (small1000 h)
def IsFl (H : Hp) (a : Addr) (h w g : Int) : Prop := H a = some (.tup [.int h, .int w, .int g])
theorem Same.laid {H H' : Hp} {p : Addr} {o : HO} (s : Same H H') (h : H' p = none) : Same H (upd H' p o) := fun b u e => by
  rw [upd_ne (ne_of_none (s b u e) h)]
  exact s b u e
theorem Same.own {H H' : Hp} {p : Addr} {o : HO} (s : Same H H') (h : H p = none) : Same H (upd H' p o) := fun b u e => by
  rw [upd_ne (ne_of_none e h)]
  exact s b u e
theorem getD_of {l : List Int} {i : Nat} {x : Int} (h : l[i]? = some x) : l.getD i 0 = x := by
  rw [List.getD, h]; rfl
theorem atI_ints {ns : List Int} {k : Int} (h0 : 0 ≤ k) (h1 : k < ns.length) : atI (ns.map V.int) k = some (.int (ns.getD k.toNat 0)) := by
  have e : ((k.toNat : Nat) : Int) = k := Int.toNat_of_nonneg h0
  have hlt : k.toNat < ns.length := by omega
  have : (ns.map V.int)[k.toNat]? = some (.int (ns.getD k.toNat 0)) := by
    rw [List.getElem?_map, List.getElem?_eq_getElem hlt]
    simp [List.getD, hlt]
  have q := atI_nat this
  rw [e] at q
  exact q
theorem filter_tt {α : Type} (l : List α) : l.filter (fun _ => true) = l := List.filter_eq_self.mpr fun _ _ => rfl
theorem map_int_get {l : List Int} {i : Nat} {y : V} (h : (l.map V.int)[i]? = some y) : ∃ z, l[i]? = some z ∧ y = .int z := by
  rw [List.getElem?_map] at h
  cases e : l[i]? with
  | none => rw [e] at h; cases h
  | some z => rw [e] at h; cases h; exact ⟨z, rfl, rfl⟩
theorem mul_small {h w : Int} (h0 : 1 ≤ h) (h1 : h ≤ 6) : CMul h w := .inl ⟨by omega, by omega⟩
section
variable {k : Nat} {lo : Int} {n : Nat} {tt : TT} {te : TE} {fin : Addr → Hp → Prop} {σ0 : St} {H1 : Hp} {K : PySem.W.Frag} {a : Addr}
theorem filt_len {n i : Nat} (b : Nat → Bool) (h : i < n) (hn : n ≤ 900) : ((List.range i).filter b).length ≤ 900 := by
  have := List.length_filter_le b (List.range i)
  rw [List.length_range] at this
  omega
theorem compV_range (b : Nat → Bool) (f : Nat → V) (hn : n ≤ 900)
    (ht : ∀ i H R, i < n → Same H1 H → (∀ H', Same H H' → R (b i) H') → tt (σ0.set k (some (.int (lo + i)))) H R)
    (he : ∀ i H Q, i < n → b i = true → Same H1 H → (∀ H', Same H H' → Q (f i) H') → te (σ0.set k (some (.int (lo + i)))) H Q)
    (hd : ∀ l H, H1 l = none → Same H1 H → H l = some (.lst (((List.range n).filter b).map f)) → fin l H) :
    CompR (Itr lo n) (gName k) tt te fin σ0 H1 := by
  refine comp_range (fun l i σ H => (σ = σ0 ∨ ∃ cv, σ = σ0.set k cv) ∧ Same H1 H ∧ H l = some (.lst (((List.range i).filter b).map f))) (fun l hl => ⟨.inl rfl, (Same.refl H1).laid hl, by rw [upd_same]; rfl⟩) ?_ (fun l σ H hl p => hd l H hl p.2.1 p.2.2)
  rintro l i σ H hl hi ⟨hσ, s1, el⟩
  rw [w_gname]
  have e : σ.set k (some (.int (lo + i))) = σ0.set k (some (.int (lo + i))) := by
    rcases hσ with rfl | ⟨cv, rfl⟩
    · rfl
    · exact List.set_set ..
  rw [e]
  refine ht i H _ hi s1 fun H2 s2 => ?_
  have el2 := s2 _ _ el
  cases hb : b i with
  | false =>
    rw [if_neg Bool.false_ne_true]
    refine ⟨.inr ⟨_, rfl⟩, s1.trans s2, ?_⟩
    rw [List.range_succ, List.filter_append, List.filter_cons, hb]
    simpa using el2
  | true =>
    rw [if_pos rfl]
    refine he i H2 _ hi hb (s1.trans s2) fun H3 s3 => ⟨_, s3 _ _ el2, by rw [List.length_map]; exact small1000 (Nat.le_trans (filt_len b hi hn) (by decide)), .inr ⟨_, rfl⟩, ((s1.trans s2).trans s3).own hl, ?_⟩
    rw [upd_same, List.range_succ, List.filter_append, List.filter_cons, hb]
    simp
theorem compV_list {xs : List V} (b : Nat → Bool) (f : Nat → V) (hn : xs.length ≤ 900) (hq : SqL K H1 a xs)
    (ht : ∀ i x H R, xs[i]? = some x → Same H1 H → (∀ H', Same H H' → R (b i) H') → tt (σ0.set k (some x)) H R)
    (he : ∀ i x H Q, xs[i]? = some x → b i = true → Same H1 H → (∀ H', Same H H' → Q (f i) H') → te (σ0.set k (some x)) H Q)
    (hd : ∀ l H, H1 l = none → Same H1 H → H l = some (.lst (((List.range xs.length).filter b).map f)) → fin l H) :
    CompR (Itl K a) (gName k) tt te fin σ0 H1 := by
  refine comp_list (xs := xs) (fun l i σ H => (σ = σ0 ∨ ∃ cv, σ = σ0.set k cv) ∧ Same H1 H ∧ H l = some (.lst (((List.range i).filter b).map f))) (fun l hl => ⟨.inl rfl, (Same.refl H1).laid hl, by rw [upd_same]; rfl⟩) (fun l i σ H _ _ p => p.2.1.seq hq) ?_ (fun l σ H hl p => hd l H hl p.2.1 p.2.2)
  rintro l i x σ H hl hx ⟨hσ, s1, el⟩
  have hi : i < xs.length := (List.getElem?_eq_some_iff.mp hx).1
  rw [w_gname]
  have e : σ.set k (some x) = σ0.set k (some x) := by
    rcases hσ with rfl | ⟨cv, rfl⟩
    · rfl
    · exact List.set_set ..
  rw [e]
  refine ht i x H _ hx s1 fun H2 s2 => ?_
  have el2 := s2 _ _ el
  cases hb : b i with
  | false =>
    rw [if_neg Bool.false_ne_true]
    refine ⟨.inr ⟨_, rfl⟩, s1.trans s2, ?_⟩
    rw [List.range_succ, List.filter_append, List.filter_cons, hb]
    simpa using el2
  | true =>
    rw [if_pos rfl]
    refine he i x H2 _ hx hb (s1.trans s2) fun H3 s3 => ⟨_, s3 _ _ el2, by rw [List.length_map]; exact small1000 (Nat.le_trans (filt_len b hi hn) (by decide)), .inr ⟨_, rfl⟩, ((s1.trans s2).trans s3).own hl, ?_⟩
    rw [upd_same, List.range_succ, List.filter_append, List.filter_cons, hb]
    simp
end
theorem lay_all : ∀ {ds : List PyData}, (∀ d ∈ ds, PyData.canLay0 d = true) → PyData.canLayAll0 ds = true
  | [], _ => rfl
  | d :: r, h => by rw [PyData.canLayAll0, h d List.mem_cons_self, lay_all fun e he => h e (List.mem_cons_of_mem _ he)]; rfl
theorem depth_all {n : Nat} : ∀ {ds : List PyData}, (∀ d ∈ ds, PyData.depth d ≤ n) → PyData.depthAll ds ≤ n
  | [], _ => Nat.zero_le _
  | d :: r, h => by rw [PyData.depthAll]; exact Nat.max_le.mpr ⟨h d List.mem_cons_self, depth_all fun e he => h e (List.mem_cons_of_mem _ he)⟩
theorem eqv_all {α : Type} [DecidableEq α] (g : α → PyData) (hg : ∀ a b, PyData.eqv (g a) (g b) = decide (a = b)) : ∀ xs ys : List α, PyData.eqvAll (xs.map g) (ys.map g) = decide (xs = ys)
  | [], [] => rfl
  | [], _ :: _ => rfl
  | _ :: _, [] => rfl
  | x :: xs, y :: ys => by
    rw [List.map_cons, List.map_cons, PyData.eqvAll, hg, eqv_all g hg xs ys, Bool.eq_iff_iff]
    simp
structure FlOk (h w g : Int) : Prop where
  h0 : 1 ≤ h
  h1 : h ≤ 6
  w0 : 1 ≤ w
  w1 : w ≤ 6
  m : h * w ≤ 16
  g0 : 1 ≤ g
  g1 : g ≤ 6
section
variable {K : PySem.W.Frag} {H : Hp} {Q : VK}
theorem w_isiL {p : Addr} {xs : List V} (hp : H p = some (.lst xs)) (h : Q (.bl true) H) : kIsi [.ref p, .ty "list"] H Q := by
  refine ⟨by decide, bnd_of (a := "list") (by unfold tyName; dsimp only; rw [hp]) ?_⟩
  rw [show isTy "list" "list" = true by decide]
  exact h
theorem w_isiT {p : Addr} {xs : List V} (hp : H p = some (.tup xs)) (h : Q (.bl true) H) : kIsi [.ref p, .ty "tuple"] H Q := by
  refine ⟨by decide, bnd_of (a := "tuple") (by unfold tyName; dsimp only; rw [hp]) ?_⟩
  rw [show isTy "tuple" "tuple" = true by decide]
  exact h
theorem w_isiS {x : Str} (h : Q (.bl true) H) : kIsi [.str x, .ty "str"] H Q := by
  refine ⟨by decide, bnd_of (a := "str") rfl ?_⟩
  rw [show isTy "str" "str" = true by decide]
  exact h
theorem w_extend {p q : Addr} {xs ys : List V} (hp : H p = some (.lst xs)) (hq : H q = some (.lst ys)) (hn : xs.length + ys.length ≤ 1000) (h : Q .non (upd H p (.lst (xs ++ ys)))) : kExtend (.ref p) [.ref q] H Q := by
  show bnd (unM (H p)) _
  rw [hp]
  show bnd (unM (H q)) _
  rw [hq]
  exact ⟨Nat.le_of_lt (small1000 hn), h⟩
theorem w_gtup {n : Nat} {t : TGs} {σ : St} {k : St → Hp → Prop} {p : Addr} {xs : List V} (hp : H p = some (.tup xs)) (hn : xs.length = n) (h : t xs σ H k) : gTup K n t (.ref p) σ H k := ⟨p, xs, rfl, SqT.of hp, hn, h⟩
theorem w_gcons2 {i j : Nat} {x y : V} {σ : St} {k : St → Hp → Prop} : gCons (gName i) (gCons (gName j) gNil) [x, y] σ H k = k ((σ.set i (some x)).set j (some y)) H := by
  refine propext ⟨?_, fun h => ⟨x, [y], rfl, y, [], rfl, rfl, h⟩⟩
  rintro ⟨v, r, e, v2, r2, e2, e3, h⟩
  cases e
  cases e2
  exact h
end
end L2
set_option Elab.async false
set_option linter.all false
namespace L2
open PySem PySem.Builtin PySem.Builtin.Str
def tx (l : List Nat) : Str := ⟨l.toArray⟩
theorem tx_cps (l : List Nat) : (tx l).cps.toList = l := by simp [tx]
theorem tx_of (x : Str) : tx x.cps.toList = x := by cases x; simp [tx]
theorem tx_inj {a b : List Nat} (h : tx a = tx b) : a = b := by rw [← tx_cps a, h, tx_cps]
theorem tx_len (l : List Nat) : (tx l).length = l.length := by simp [tx, Str.length]
theorem tx_app (a b : List Nat) : tx a ++ tx b = tx (a ++ b) := by
  refine Str.ext' ?_
  rw [Str.cps_append]
  simp [tx]
theorem tx_dec (a b : List Nat) : decide (tx a = tx b) = decide (a = b) := by
  by_cases h : a = b
  · subst h; simp
  · have : ¬ tx a = tx b := fun e => h (tx_inj e)
    rw [decide_eq_false h, decide_eq_false this]
def catL (c : Nat) : List (List Nat) → List Nat
  | [] => []
  | [x] => x
  | x :: y :: r => x ++ c :: catL c (y :: r)
theorem join_tx (c : Nat) : ∀ ts : List (List Nat), Str.join (tx [c]) (ts.map tx) = tx (catL c ts)
  | [] => rfl
  | [x] => rfl
  | x :: y :: r => by
    show tx x ++ tx [c] ++ Str.join (tx [c]) ((y :: r).map tx) = _
    rw [join_tx c (y :: r), tx_app, tx_app]
    show tx _ = tx (x ++ c :: catL c (y :: r))
    rw [List.append_assoc]; rfl
theorem join0_tx : ∀ ts : List (List Nat), Str.join (tx []) (ts.map tx) = tx ts.flatten
  | [] => rfl
  | [x] => by show tx x = tx [x].flatten; simp
  | x :: y :: r => by
    show tx x ++ tx [] ++ Str.join (tx []) ((y :: r).map tx) = _
    rw [join0_tx (y :: r), tx_app, tx_app]
    simp
theorem Txt_join (sep : Str) (ts : List Str) : Txt.join sep ts = Str.join sep ts := StrLaws.glued_eq_join sep ts
theorem cut_inj {c : Nat} : ∀ {a b x y : List Nat}, c ∉ a → c ∉ b → a ++ c :: x = b ++ c :: y → a = b ∧ x = y
  | [], [], _, _, _, _, h => ⟨rfl, by simpa using h⟩
  | [], b :: bs, _, _, _, hb, h => by
    simp at h
    exact absurd (List.mem_cons.mpr (.inl h.1)) hb
  | a :: as, [], _, _, ha, _, h => by
    simp at h
    exact absurd (List.mem_cons.mpr (.inl h.1.symm)) ha
  | a :: as, b :: bs, x, y, ha, hb, h => by
    simp at h
    have := cut_inj (fun z => ha (List.mem_cons_of_mem _ z)) (fun z => hb (List.mem_cons_of_mem _ z)) h.2
    exact ⟨by rw [h.1, this.1], this.2⟩
theorem catL_mem {c : Nat} : ∀ {x : List Nat} {r : List (List Nat)} {y : List Nat}, c ∈ catL c (x :: y :: r) := by
  intro x r y
  show c ∈ x ++ c :: _
  simp
theorem catL_inj {c : Nat} : ∀ {xs ys : List (List Nat)}, xs ≠ [] → ys ≠ [] → (∀ x ∈ xs, c ∉ x) → (∀ y ∈ ys, c ∉ y) → catL c xs = catL c ys → xs = ys
  | [], _, h, _, _, _, _ => absurd rfl h
  | _, [], _, h, _, _, _ => absurd rfl h
  | [x], [y], _, _, _, _, h => by
    have h' : x = y := h
    rw [h']
  | [x], y :: z :: r, _, _, hx, _, h => by
    have h' : x = catL c (y :: z :: r) := h
    exact absurd (h' ▸ catL_mem) (hx x List.mem_cons_self)
  | x :: z :: r, [y], _, _, _, hy, h => by
    have h' : catL c (x :: z :: r) = y := h
    exact absurd (h' ▸ catL_mem) (hy y List.mem_cons_self)
  | x :: z :: r, y :: u :: s, _, _, hx, hy, h => by
    obtain ⟨e1, e2⟩ := cut_inj (hx x List.mem_cons_self) (hy y List.mem_cons_self) (show x ++ c :: catL c (z :: r) = y ++ c :: catL c (u :: s) from h)
    rw [e1, catL_inj (by simp) (by simp) (fun w hw => hx w (List.mem_cons_of_mem _ hw)) (fun w hw => hy w (List.mem_cons_of_mem _ hw)) e2]
theorem split_ne (x y : Str) : Txt.split x y ≠ [] := by
  intro h
  unfold Txt.split at h
  split at h
  · cases h
  · split at h
    · cases h
    · rw [StrLaws.partsBetween_eq] at h
      obtain ⟨p, r, e⟩ := StrLaws.partsFrom_ne x y.length 0 (occurrences x y 0 x.length (x.length + 1))
      rw [e] at h; cases h
theorem split_tx {c : Nat} {rows : List (List Nat)} (hne : rows ≠ []) (hf : ∀ r ∈ rows, c ∉ r) : Txt.split (tx (catL c rows)) (tx [c]) = rows.map tx := by
  have h1 := StrLaws.join_split (tx (catL c rows)) (tx [c])
  have h2 : ∀ p ∈ Txt.split (tx (catL c rows)) (tx [c]), c ∉ p.cps.toList := StrLaws.split_free _ c
  have h3 := split_ne (tx (catL c rows)) (tx [c])
  generalize Txt.split (tx (catL c rows)) (tx [c]) = S at *
  have e : S = (S.map (·.cps.toList)).map tx := by
    rw [List.map_map]
    conv => lhs; rw [← List.map_id S]
    exact List.map_congr_left fun x _ => (tx_of x).symm
  rw [e, join_tx] at h1
  have h4 := tx_inj h1
  have h5 := catL_inj (c := c) (xs := S.map (·.cps.toList)) (ys := rows) (by simpa using h3) hne (fun x hx => by obtain ⟨p, hp, rfl⟩ := List.mem_map.mp hx; exact h2 p hp) hf h4
  rw [e, h5]
theorem find_tx (l : List Nat) (c : Nat) : Txt.find (tx l) (tx [c]) = if c ∈ l then ((l.idxOf c : Nat) : Int) else -1 := by
  have at_ : ∀ i, StrLaws.At (tx l) (tx [c]) (tx l).length i ↔ l[i]? = some c := fun i => by
    unfold StrLaws.At
    rw [StrLaws.subAt_eq, tx_cps, tx_cps, tx_len, tx_len]
    show i + 1 ≤ l.length ∧ ((l.drop i).take 1 == [c]) = true ↔ _
    rw [StrLaws.take1_drop]
    refine ⟨fun h => h.2, fun h => ⟨?_, h⟩⟩
    have := (List.getElem?_eq_some_iff.mp h).1
    omega
  unfold Txt.find
  rcases StrLaws.occ_head (tx l) (tx [c]) 1 (Nat.le_refl _) with ⟨e, h⟩ | ⟨i, r, e, h, hn⟩
  · rw [e]
    have : c ∉ l := fun m => by
      obtain ⟨i, hi, e⟩ := List.mem_iff_getElem.mp m
      exact h i ((at_ i).mpr (by rw [List.getElem?_eq_getElem hi, e]))
    rw [if_neg this]
  · rw [e]
    have hi := (at_ i).mp h
    rw [if_pos (List.mem_of_getElem? hi)]
    have h1 : l.idxOf c = i := by
      obtain ⟨hlt, he⟩ := List.getElem?_eq_some_iff.mp hi
      have hm : c ∈ l := List.mem_of_getElem? hi
      have h2 := List.idxOf_lt_length_of_mem hm
      have h3 : l[l.idxOf c]? = some c := by rw [List.getElem?_eq_getElem h2, List.getElem_idxOf h2]
      rcases Nat.lt_trichotomy (l.idxOf c) i with q | q | q
      · exact absurd ((at_ _).mpr h3) (hn _ q)
      · exact q
      · have h4 := List.not_of_lt_findIdx (p := (· == c)) (xs := l) (i := i) q
        simp [he] at h4
    show ((i : Nat) : Int) = _
    rw [h1]
end L2
set_option Elab.async false
set_option linter.all false
namespace L2
def figc (s : Int) : Nat := [46, 49, 50, 51, 52, 53, 54].getD s.toNat 0
def rowAt (w : Nat) (xs : List Int) (r : Nat) : List Int := (xs.drop (r * w)).take w
def rowsL (h w : Nat) (xs : List Int) : List (List Int) := (List.range h).map (rowAt w xs)
def showL (h w : Nat) (xs : List Int) : List Nat := catL 47 ((rowsL h w xs).map (·.map figc))
theorem figc_ne {s : Int} : figc s ≠ 47 := by
  unfold figc
  generalize s.toNat = n
  match n with
  | 0 | 1 | 2 | 3 | 4 | 5 | 6 => decide
  | n + 7 => simp
theorem catL_le (c : Nat) : ∀ rows : List (List Nat), (catL c rows).length ≤ (rows.map (·.length)).sum + rows.length
  | [] => Nat.zero_le _
  | [x] => by simp [catL]
  | x :: y :: r => by
    have := catL_le c (y :: r)
    show (x ++ c :: catL c (y :: r)).length ≤ _
    rw [List.length_append, List.length_cons]
    simp only [List.map_cons, List.sum_cons, List.length_cons] at this ⊢
    omega
theorem rows_flat (w : Nat) (xs : List Int) : ∀ h : Nat, h * w ≤ xs.length → (rowsL h w xs).flatten = xs.take (h * w)
  | 0, _ => by simp [rowsL]
  | h + 1, hl => by
    have hl' : h * w + w ≤ xs.length := by rw [Nat.succ_mul] at hl; exact hl
    have ih := rows_flat w xs h (by omega)
    unfold rowsL at ih ⊢
    rw [List.range_succ, List.map_append, List.flatten_append, ih, Nat.succ_mul, List.take_add]
    simp [rowAt]
theorem row_len {w : Nat} {xs : List Int} {h r : Nat} (hr : r < h) (hl : h * w ≤ xs.length) : (rowAt w xs r).length = w := by
  unfold rowAt
  rw [List.length_take, List.length_drop]
  have : (r + 1) * w ≤ h * w := Nat.mul_le_mul_right _ hr
  rw [Nat.succ_mul] at this
  omega
theorem row_mem {w : Nat} {xs : List Int} {r : Nat} {x : Int} (h : x ∈ rowAt w xs r) : x ∈ xs := List.mem_of_mem_drop (List.mem_of_mem_take h)
theorem showL_len {h w : Nat} {xs : List Int} (h6 : h ≤ 6) (w6 : w ≤ 6) : (showL h w xs).length ≤ 100 := by
  refine Nat.le_trans (catL_le ..) ?_
  have hb : ∀ l : List (List Nat), (∀ r ∈ l, r.length ≤ 6) → (l.map (·.length)).sum ≤ 6 * l.length := by
    intro l hl
    induction l with
    | nil => simp
    | cons a r ih =>
      have h1 := hl a List.mem_cons_self
      have h2 := ih fun x hx => hl x (List.mem_cons_of_mem _ hx)
      simp only [List.map_cons, List.sum_cons, List.length_cons]
      omega
  have := hb ((rowsL h w xs).map (·.map figc)) (fun r hr => by
    obtain ⟨y, hy, rfl⟩ := List.mem_map.mp hr
    unfold rowsL at hy
    obtain ⟨i, _, rfl⟩ := List.mem_map.mp hy
    rw [List.length_map]
    unfold rowAt
    rw [List.length_take]
    omega)
  have hlen : ((rowsL h w xs).map (·.map figc)).length = h := by simp [rowsL]
  rw [hlen] at this ⊢
  omega
theorem find_fig {s : Int} (h0 : 0 ≤ s) (h6 : s ≤ 6) : PySem.Txt.find (tx [46, 49, 50, 51, 52, 53, 54]) (tx [figc s]) = s := by
  rw [find_tx]
  have : s = 0 ∨ s = 1 ∨ s = 2 ∨ s = 3 ∨ s = 4 ∨ s = 5 ∨ s = 6 := by omega
  rcases this with rfl | rfl | rfl | rfl | rfl | rfl | rfl <;> decide
end L2
set_option Elab.async false
set_option linter.all false
set_option maxRecDepth 100000
namespace L2
open PySem PySem.Spec PyProof.Rows
local macro_rules | `(tactic| walk_at "w") => `(tactic| (first | simp only [w_seq, w_next, w_asg, w_gname, w_var0, w_varS, w_c, w_op, w_ret, w_retN, w_drop, w_test, w_b, w_not, w_and, w_or, w_notV, w_andV, w_orV, w_nil, w_cons, w_cb, w_call, w_tup, w_lst, w_bm, w_bm0, w_true, w_dnew, w_dput, w_forL, w_forR1, w_forR2, w_compL, w_compR1, w_scompL, w_scompR1, w_add, w_sub, w_mul, w_div, w_mod, w_cmp, w_eqI, w_neI, w_eqB, w_neB, w_abs, w_min, w_sl, w_part, w_nopart, w_gsub, w_un, w_forS, w_compS, w_scompS, w_eqS, w_neS, w_lenS, w_addS, w_find,
  List.getElem?_cons_zero, List.getElem?_cons_succ, Option.some.injEq, exists_eq_left', exists_eq_left, List.set_cons_zero, List.set_cons_succ, bnd_some, V.int.injEq, V.bl.injEq, V.ref.injEq, V.str.injEq, List.nil_append, List.cons_append] | dsimp only | skip))
section
variable {k : Nat} {tt : TT} {te : TE} {fin : Addr → Hp → Prop} {σ0 : St} {H1 : Hp}
theorem compV_str {cs : List Nat} (b : Nat → Bool) (f : Nat → V) (hn : cs.length ≤ 900)
    (ht : ∀ i c H R, cs[i]? = some c → Same H1 H → (∀ H', Same H H' → R (b i) H') → tt (σ0.set k (some (.str (tx [c])))) H R)
    (he : ∀ i c H Q, cs[i]? = some c → b i = true → Same H1 H → (∀ H', Same H H' → Q (f i) H') → te (σ0.set k (some (.str (tx [c])))) H Q)
    (hd : ∀ l H, H1 l = none → Same H1 H → H l = some (.lst (((List.range cs.length).filter b).map f)) → fin l H) :
    CompR (Its (tx cs)) (gName k) tt te fin σ0 H1 := by
  intro l hl
  have hsz : (tx cs).cps.size = cs.length := by simp [tx]
  refine ⟨fun i m σ H => m = cs.length - i ∧ i ≤ cs.length ∧ (σ = σ0 ∨ ∃ cv, σ = σ0.set k cv) ∧ Same H1 H ∧ H l = some (.lst (((List.range i).filter b).map f)), ⟨cs.length, by simp, Nat.zero_le _, .inl rfl, (Same.refl H1).laid hl, by rw [upd_same]; rfl⟩, ?_⟩
  rintro i m σ H ⟨rfl, hi, hσ, s1, el⟩
  by_cases hlt : i < cs.length
  · refine .inr ⟨by show i < (tx cs).cps.size; rw [hsz]; exact hlt, fun σ H => (σ = σ0 ∨ ∃ cv, σ = σ0.set k cv) ∧ Same H1 H ∧ H l = some (.lst (((List.range (i + 1)).filter b).map f)), fun σ' H' p' => ⟨cs.length - (i + 1), by omega, rfl, hlt, p'⟩, ?_⟩
    rintro x H' ⟨rfl, c, hc, rfl⟩
    have hc' : cs[i]? = some c := by simpa [tx] using hc
    show gName k (.str (tx [c])) σ H' _
    rw [w_gname]
    have e : σ.set k (some (.str (tx [c]))) = σ0.set k (some (.str (tx [c]))) := by
      rcases hσ with rfl | ⟨cv, rfl⟩
      · rfl
      · exact List.set_set ..
    rw [e]
    refine ht i c H' _ hc' s1 fun H2 s2 => ?_
    have el2 := s2 _ _ el
    cases hb : b i with
    | false =>
      rw [if_neg Bool.false_ne_true]
      refine ⟨.inr ⟨_, rfl⟩, s1.trans s2, ?_⟩
      rw [List.range_succ, List.filter_append, List.filter_cons, hb]
      simpa using el2
    | true =>
      rw [if_pos rfl]
      refine he i c H2 _ hc' hb (s1.trans s2) fun H3 s3 => ⟨_, s3 _ _ el2, by rw [List.length_map]; exact small1000 (Nat.le_trans (filt_len b hlt hn) (by decide)), .inr ⟨_, rfl⟩, ((s1.trans s2).trans s3).own hl, ?_⟩
      rw [upd_same, List.range_succ, List.filter_append, List.filter_cons, hb]
      simp
  · have e : i = cs.length := by omega
    subst e
    exact .inl ⟨by show (tx cs).cps.size ≤ _; rw [hsz]; exact Nat.le_refl _, hd l H hl s1 el⟩
end
theorem map_range_get {α : Type} (xs : List Int) (g : Int → α) : (List.range xs.length).map (fun i => g (xs.getD i 0)) = xs.map g := by
  have e : xs = (List.range xs.length).map fun i => xs.getD i 0 := by
    refine List.ext_getElem? fun i => ?_
    rw [List.getElem?_map]
    by_cases h : i < xs.length
    · rw [List.getElem?_range h, List.getElem?_eq_getElem h]
      simp [List.getD, h]
    · rw [List.getElem?_eq_none (by omega), List.getElem?_eq_none (by simpa using h)]; rfl
  conv => rhs; rw [e]
  rw [List.map_map]
  rfl
theorem cut_nat {xs : List V} {a b : Nat} (hab : a ≤ b) (hb : b ≤ xs.length) : cutV xs (some (a : Int)) (some (b : Int)) = (xs.drop a).take (b - a) := by
  have h1 : HT.sIx xs.length 0 (some (a : Int)) = a := by rw [HT.sIx_nat]; omega
  have h2 : HT.sIx xs.length xs.length (some (b : Int)) = b := by rw [HT.sIx_nat]; omega
  unfold cutV
  rw [h1, h2]
theorem joinOk_small {sep : Str} {ts : List Str} (h1 : ts.length ≤ 1000) (h2 : ∀ t ∈ ts, t.length ≤ 1000) (h3 : sep.length ≤ 10) : JoinOk sep ts = true := by
  unfold JoinOk
  rw [Bool.not_eq_true']
  refine StrLaws.joinFits (B := 1000) h2 ?_
  have a1 : ts.length * 1000 ≤ 1000 * 1000 := Nat.mul_le_mul_right _ h1
  have a2 : ts.length * sep.length ≤ 1000 * 10 := Nat.mul_le_mul h1 h3
  omega
end L2
set_option Elab.async false
set_option linter.all false
set_option maxRecDepth 100000
namespace L2
open PySem PySem.Spec PyProof.Rows
abbrev rIsN : R2 := fun x y H Q => y = .non ∧ Q (.bl (decide (x = .non))) H
abbrev rNotN : R2 := fun x y H Q => y = .non ∧ Q (.bl (!decide (x = .non))) H
def kStr : List V → Hp → VK → Prop
  | [.int i], H, Q => i.natAbs.log2 < 1920 ∧ Q (.str (Str.ofString (toString i))) H
  | _, _, _ => False
section
variable {X : Cx}
theorem call_kStr : CallR X (.type "str") kStr := by
  intro pins s σ H xs us Q I r h
  unfold kStr at h
  split at h
  · obtain ⟨hi, q⟩ := h
    cases r with
    | cons r0 rr =>
      cases rr
      obtain ⟨t, rfl⟩ := r0
      exact PySem.P.str_of_int hi ⟨.str _, H, I.tok _, ⟨_, rfl⟩, q⟩
  · exact h.elim
end
section
variable {K : PySem.W.Frag} {H : Hp} {Q : VK}
theorem w_isN {x : V} : rIsN x .non H Q = Q (.bl (decide (x = .non))) H := by simp [rIsN]
theorem w_notN {x : V} : rNotN x .non H Q = Q (.bl (!decide (x = .non))) H := by simp [rNotN]
theorem w_str {i : Int} : kStr [.int i] H Q = (i.natAbs.log2 < 1920 ∧ Q (.str (Str.ofString (toString i))) H) := rfl
end
end L2
set_option Elab.async false
set_option linter.all false
set_option maxRecDepth 100000
namespace L2
open PySem PySem.Spec PyProof.Rows
structure Bt2 (mg : Str → Option Value) : Prop extends Bt mg where
  all_ : mg "all" = none
  sum_ : mg "sum" = none
  enumerate_ : mg "enumerate" = none
section
variable {K : PySem.W.Frag} {H : Hp} {Q : VK} {D : Ends} {σ : St} {g : TG} {tb : TS} {ta : TA} {ix : List (Option Nat)} {tt : TT} {te tf : TE} {k : Nat}
theorem w_ifE : tIf tt te tf σ H Q = tt σ H fun c H1 => if c = true then te σ H1 Q else tf σ H1 Q := rfl
theorem w_compR2 : tComp ix (iRng2 ta) g tt te σ H Q = ta σ H fun vs H1 => ∃ i j : Int, vs = [.int i, .int j] ∧ (-(2 ^ 62) ≤ i ∧ i < 2 ^ 62 ∧ -(2 ^ 62) ≤ j ∧ j < 2 ^ 62) ∧ CompR (Itr i (j - i).toNat) g tt te (fun l H' => Q (.ref l) H') (subσ ix σ) H1 := rfl
theorem w_scompR2 : sComp k ix (iRng2 ta) g tt te D σ H = ta σ H fun vs H1 => ∃ i j : Int, vs = [.int i, .int j] ∧ (-(2 ^ 62) ≤ i ∧ i < 2 ^ 62 ∧ -(2 ^ 62) ≤ j ∧ j < 2 ^ 62) ∧ CompR (Itr i (j - i).toNat) g tt te (fun l H' => D.nx (σ.set k (some (.ref l))) H') (subσ ix σ) H1 := rfl
theorem isiE {x : V} {n t : String} {b : Bool} (hx : tyName H x = some t) (hn : tyKnown n = true) (hb : isTy t n = b) : kIsi [x, .ty n] H Q = Q (.bl b) H := by
  subst hb
  show (tyKnown n = true ∧ bnd (tyName H x) fun t => Q (.bl (isTy t n)) H) = _
  rw [hx]
  simp only [hn, true_and, bnd_some]
theorem w_isi_ii {i : Int} : kIsi [.int i, .ty "int"] H Q = Q (.bl true) H := isiE (t := "int") rfl (by decide) (by decide)
theorem w_isi_ib {i : Int} : kIsi [.int i, .ty "bool"] H Q = Q (.bl false) H := isiE (t := "int") rfl (by decide) (by decide)
theorem w_isi_is {i : Int} : kIsi [.int i, .ty "str"] H Q = Q (.bl false) H := isiE (t := "int") rfl (by decide) (by decide)
theorem w_isi_bb {i : Bool} : kIsi [.bl i, .ty "bool"] H Q = Q (.bl true) H := isiE (t := "bool") rfl (by decide) (by decide)
theorem w_isi_bi {i : Bool} : kIsi [.bl i, .ty "int"] H Q = Q (.bl true) H := isiE (t := "bool") rfl (by decide) (by decide)
theorem w_isi_ss {i : Str} : kIsi [.str i, .ty "str"] H Q = Q (.bl true) H := isiE (t := "str") rfl (by decide) (by decide)
theorem w_isi_bs {i : Bool} : kIsi [.bl i, .ty "str"] H Q = Q (.bl false) H := isiE (t := "bool") rfl (by decide) (by decide)
theorem w_iteT {A B : Prop} : (if true = true then A else B) = A := if_pos rfl
theorem w_iteF {A B : Prop} : (if false = true then A else B) = B := if_neg Bool.false_ne_true
theorem w_negE {i : Int} : rU (fun i => .int (-i)) (.int i) H Q = Q (.int (-i)) H := by
  refine propext ⟨?_, fun h => ⟨i, rfl, h⟩⟩
  rintro ⟨j, e, h⟩
  cases e
  exact h
theorem ixT {p : Addr} {i : Int} {xs : List V} {v : V} (h : H p = some (.tup xs)) (e : atI xs i = some v) (q : Q v H) : cIx (.ref p) (.int i) H Q := by
  rw [w_ix h]; exact bnd_of e q
theorem ixL {p : Addr} {i : Int} {xs : List V} {v : V} (h : H p = some (.lst xs)) (e : atI xs i = some v) (q : Q v H) : cIx (.ref p) (.int i) H Q := by
  rw [w_ixL h]; exact bnd_of e q
theorem ixI {p : Addr} {i : Int} {ns : List Int} (h : H p = some (.lst (ns.map V.int))) (h0 : 0 ≤ i) (h1 : i < ns.length) (q : Q (.int (ns.getD i.toNat 0)) H) : cIx (.ref p) (.int i) H Q := ixL h (atI_ints h0 h1) q
end
end L2
set_option Elab.async false
set_option linter.all false
set_option maxRecDepth 100000
namespace L2
open PySem PySem.Spec PyProof.Rows
theorem ObjOk.ob {P : Program} {w : World} {H : Hp} {h : Heap} {a : Addr} {o : HO} (x : ObjOk P w H h a o) : ∃ u, h.get? a = some u := by
  cases o with
  | lst xs => obtain ⟨_, _, _, _, e⟩ := x; exact ⟨_, e⟩
  | tup xs => obtain ⟨_, _, _, ob, e, _⟩ := x; exact ⟨_, e⟩
  | dK kvs => obtain ⟨_, _, _, _, o, _, _, e, _⟩ := x; exact ⟨_, e⟩
  | dT kvs => obtain ⟨_, _, _, _, o, _, _, e, _⟩ := x; exact ⟨_, e⟩
  | set S n => obtain ⟨o, _, _, _, e, _⟩ := x; exact ⟨_, e⟩
  | ins C dx fs => obtain ⟨_, _, _, e, _⟩ := x; exact ⟨_, e⟩
  | own y => exact x
  | xd fs => obtain ⟨_, ⟨_, _, _, e, _⟩, _⟩ := x; exact ⟨_, e⟩
  | rng lo hi => obtain ⟨_, _, _, e⟩ := x; exact ⟨_, e⟩
  | frz ob u => obtain ⟨e, _⟩ := x; exact ⟨_, e⟩
  | tbl ps => exact ⟨_, (show h.get? a = some _ from x)⟩
  | met f y => exact ⟨_, (show h.get? a = some _ from x)⟩
  | ext φ => obtain ⟨_, e, _⟩ := x; exact e
def Tr (h : Heap) (x T C : Addr) (fl : Value) : Prop := ∃ oe vs oT ts a0, h.get? x = some oe ∧ oe.cls = .ref C ∧ vs[0]? = some a0 ∧ oe.data = .fields vs ∧ vs[1]? = some (.ref T) ∧ T ≠ x ∧ h.get? T = some oT ∧ oT.data = .fields ts ∧ ts[3]? = some fl
structure Fly (P : Program) (w : World) (outer : List Env) (H : Hp) (s : Shared) (x T C : Addr) (H' : Hp) (s' : Shared) : Prop where
  os : s'.os = s.os
  bare : AllBare s'.gens
  un : Un (frs outer) [] H H' s.heap s'.heap
  hok : HOk P w H' s'.heap
  fx : H' x = none
  fT : H' T = none
  nx : s.heap.get? x = none
  nT : s.heap.get? T = none
  tr : Tr s'.heap x T C .none
def CX1 (P : Program) (w : World) : CXT := fun outer H s E e s' => ∃ x T C H', e = .ref x ∧ Fly P w outer H s x T C H' s' ∧ E (.ref C) none H'
theorem fly_left {P : Program} {w : World} {env : Env} {outer : List Env} {base : Heap} {H₀ H H' : Hp} {s₀ s sA : Shared} {x T' C L : Addr} {h' : Heap} {ex : List Addr}
    (hos : sA.os = s₀.os) (hbare : AllBare sA.gens) (hL : env.frame = some L) (nL : s₀.heap.get? L = none)
    (U0 : Un (frs outer) [] H₀ H s₀.heap s.heap) (fun0 : s.heap.FunFrames base (env :: outer)) (hfr : ∀ b ∈ frs (env :: outer), H b = none)
    (UA : Un (frs (env :: outer)) [] H H' s.heap sA.heap) (okA : HOk P w H' sA.heap)
    (exn : ∀ b ∈ ex, s.heap.get? b = none ∧ H' b = none)
    (keepAll : ∀ b o, sA.heap.get? b = some o → b ∉ frs (env :: outer) → b ∉ ex → h'.get? b = some o) (up : sA.heap.UpToSlots h')
    (nx : s.heap.get? x = none) (fx : H' x = none) (hT : ∀ o, sA.heap.get? T' = some o → T' ∈ frs (env :: outer) ∨ T' ∈ ex)
    (tr : Tr h' x T' C .none) : Fly P w outer H₀ s₀ x T' C H' { sA with heap := h' } := by
  have frD : ∀ b ∈ frs (env :: outer), ∃ o, s.heap.get? b = some o ∧ ∀ vs, o.data ≠ .fields vs := fun b hb => (fun0.mem hb).2
  have frA : ∀ b ∈ frs (env :: outer), ∃ o, sA.heap.get? b = some o ∧ ∀ vs, o.data ≠ .fields vs := fun b hb => by
    obtain ⟨o, e, d⟩ := frD b hb
    obtain ⟨sl, e2⟩ := UA.slot b o e (hfr b hb) hb (by simp)
    exact ⟨_, e2, d⟩
  have frH : ∀ b ∈ frs (env :: outer), H' b = none := fun b hb => by
    obtain ⟨o, e, d⟩ := frD b hb
    exact UA.free b o e (hfr b hb) (by simp)
  have Tfr : T' ∉ frs (env :: outer) := fun hb => by
    obtain ⟨o, e, d⟩ := frA T' hb
    obtain ⟨sl, e2⟩ := up T' o e d
    obtain ⟨_, _, oT, ts, _, _, _, _, _, _, _, e3, d3, _⟩ := tr
    rw [e2] at e3
    cases e3
    exact d _ d3
  have sub : ∀ b, b ∈ frs outer → b ∈ frs (env :: outer) := fun b hb => by
    unfold frs at hb ⊢
    rw [List.filterMap_cons, hL]
    exact List.mem_cons_of_mem _ hb
  have isL : ∀ b, b ∈ frs (env :: outer) → b = L ∨ b ∈ frs outer := fun b hb => by
    unfold frs at hb ⊢
    rw [List.filterMap_cons, hL] at hb
    exact List.mem_cons.mp hb
  have thereA : ∀ b o, sA.heap.get? b = some o → b ∉ ex → ∃ o', h'.get? b = some o' := fun b o e hx => by
    by_cases hb : b ∈ frs (env :: outer)
    · obtain ⟨o1, e1, d1⟩ := frA b hb
      rw [e] at e1; cases e1
      obtain ⟨sl, e2⟩ := up b o e d1
      exact ⟨_, e2⟩
    · exact ⟨o, keepAll b o e hb hx⟩
  have nex : ∀ b o, s.heap.get? b = some o → b ∉ ex := fun b o e hx => by rw [(exn b hx).1] at e; cases e
  refine ⟨hos, hbare, ⟨fun b o e n hb _ => ?_, fun b o e n hb _ => ?_, fun b o e n _ => ?_, fun b o e _ => ?_, fun b xs e => UA.tups b xs (U0.tups b xs e), fun b o u e => UA.frzs b o u (U0.frzs b o u e), fun b ps e => ?_⟩, ?_, fx, ?_, ?_, ?_, tr⟩
  · have e1 := U0.keep b o e n hb (by simp)
    have n1 := U0.free b o e n (by simp)
    have nb : b ∉ frs (env :: outer) := fun z => by
      rcases isL b z with z | z
      · rw [z, nL] at e; cases e
      · exact hb z
    exact keepAll b o (UA.keep b o e1 n1 nb (by simp)) nb (nex b o e1)
  · obtain ⟨sl, e1⟩ := U0.slot b o e n hb (by simp)
    have n1 := U0.free b o e n (by simp)
    obtain ⟨sl2, e2⟩ := UA.slot b _ e1 n1 (sub b hb) (by simp)
    obtain ⟨o3, e3, d3⟩ := frA b (sub b hb)
    rw [e2] at e3; cases e3
    obtain ⟨sl4, e4⟩ := up b _ e2 d3
    exact ⟨sl4, e4⟩
  · have n1 := U0.free b o e n (by simp)
    obtain ⟨o1, e1⟩ := U0.there b o e (by simp)
    exact UA.free b o1 e1 n1 (by simp)
  · obtain ⟨o1, e1⟩ := U0.there b o e (by simp)
    obtain ⟨o2, e2⟩ := UA.there b o1 e1 (by simp)
    exact thereA b o2 e2 (nex b o1 e1)
  · obtain ⟨m1, e1⟩ := U0.tbls b ps e
    obtain ⟨m2, e2⟩ := UA.tbls b _ e1
    exact ⟨m1 ++ m2, by rw [e2, Array.append_assoc]⟩
  · intro a o e
    have key : ∀ b, H' b ≠ none → b ∉ frs (env :: outer) ∧ b ∉ ex := fun b hb => ⟨fun z => hb (frH b z), fun z => hb (exn b z).2⟩
    refine (okA a o e).stay (fun b u hb q => ?_) (fun _ q => q) fun _ _ q => q
    have hb' : H' b ≠ none := by
      rcases hb with rfl | hb
      · rw [e]; simp
      · rw [hb]; simp
    exact keepAll b u q (key b hb').1 (key b hb').2
  · cases q : H' T' with
    | none => rfl
    | some o =>
      obtain ⟨u, e⟩ := (okA T' o q).ob
      rcases hT u e with z | z
      · exact absurd z Tfr
      · rw [(exn T' z).2] at q; cases q
  · cases q : s₀.heap.get? x with
    | none => rfl
    | some o =>
      obtain ⟨o1, e1⟩ := U0.there x o q (by simp)
      rw [nx] at e1; cases e1
  · cases q : s₀.heap.get? T' with
    | none => rfl
    | some o =>
      obtain ⟨o1, e1⟩ := U0.there T' o q (by simp)
      obtain ⟨o2, e2⟩ := UA.there T' o1 e1 (by simp)
      rcases hT o2 e2 with z | z
      · exact absurd z Tfr
      · rw [(exn T' z).1] at e1; cases e1
theorem funs_hid {h base : Heap} {as : List Addr} : ∀ {l : List Env}, h.FunFrames base l → (∀ b ∈ frs l, b ∈ as) → h.FunFrames (PySem.W.hideAll h as) l
  | [], _, _ => trivial
  | env :: r, ⟨hk, ⟨L, o, hf, _, ho, hd⟩, hr⟩, hin => ⟨hk, ⟨L, o, hf, PySem.W.hideAll_none as (hin L (by unfold frs; rw [List.filterMap_cons, hf]; exact List.mem_cons_self)), ho, hd⟩, funs_hid hr fun b hb => hin b (by
      unfold frs at hb ⊢; rw [List.filterMap_cons, hf]; exact List.mem_cons_of_mem _ hb)⟩
theorem funs_un {h h1 base : Heap} {H H' : Hp} {fs : List Addr} : ∀ {l : List Env}, h.FunFrames base l → (∀ b ∈ frs l, b ∈ fs ∧ H b = none) → Un fs [] H H' h h1 → h1.FunFrames base l
  | [], _, _, _ => trivial
  | env :: r, ⟨hk, ⟨L, o, hf, hn, ho, hd⟩, hr⟩, hin, u => by
    obtain ⟨h1, h2⟩ := hin L (by unfold frs; rw [List.filterMap_cons, hf]; exact List.mem_cons_self)
    obtain ⟨sl, e⟩ := u.slot L o ho h2 h1 (by simp)
    exact ⟨hk, ⟨L, _, hf, hn, e, hd⟩, funs_un hr (fun b hb => hin b (by unfold frs at hb ⊢; rw [List.filterMap_cons, hf]; exact List.mem_cons_of_mem _ hb)) u⟩
section
variable {P : Program} {w : World} {K : PySem.W.Frag} {mg : Str → Option Value} {base : Heap} {N : List Str} {qual : Str} {scope : Scope} {f : Addr} {cd : Value} {A : Around} {outer : List Env} {s₀ : Shared} {H₀ : Hp} {E : XK}
abbrev cx1 (P : Program) (w : World) (K : PySem.W.Frag) (mg : Str → Option Value) (base : Heap) (N : List Str) (qual : Str) (scope : Scope) (f : Addr) (cd : Value) (A : Around) (outer : List Env) (s : Shared) (H : Hp) (E : XK) : Cx :=
  cxOf (CX1 P w) P w K mg base N qual scope f cd A outer s H E
theorem xe_pass {E' : XK} (himp : ∀ c d H, E' c d H → E c d H) : Passes (CX1 P w) (cx1 P w K mg base N qual scope f cd A outer s₀ H₀ E) E' := by
  intro pins σ H s e s' I h
  obtain ⟨x, T, C, H', rfl, F, q⟩ := h
  obtain ⟨oe, vs, oT, ts, a0, he, hc, h0, hd, h1, hTx, hT, hdT, h3⟩ := F.tr
  have hstk : ∀ b ∈ frs (envOfC qual scope s₀.heap.objs.size f cd :: outer), H b = none := I.stkFree
  have ff : s'.heap.FunFrames base (envOfC qual scope s₀.heap.objs.size f cd :: outer) := funs_un I.stack (fun b hb => ⟨hb, hstk b hb⟩) F.un
  show wpAny (model P w) (A.deeper (envOfC qual scope s₀.heap.objs.size f cd)) («leaving» (envOfC qual scope s₀.heap.objs.size f cd) (.ref x)) _ _ s'
  have hin : ∀ b ∈ frs (envOfC qual scope s₀.heap.objs.size f cd :: outer), b ∈ frs (envOfC qual scope s₀.heap.objs.size f cd :: outer) ++ [x, T] := fun b hb => List.mem_append_left _ hb
  refine wpAny_leaves_onW (base := PySem.W.hideAll s'.heap (frs (envOfC qual scope s₀.heap.objs.size f cd :: outer) ++ [x, T])) (cls := .ref C) (a0 := a0) (L := s₀.heap.objs.size) I.ok.frames rfl
    ⟨fun b o e => PySem.W.of_hideAll _ e, PySem.W.hideAll_none _ (by simp), funs_hid ff hin, oe, vs, T, oT, ts, he, ⟨hc, h0⟩, hd, h1, PySem.W.hideAll_none _ (by simp), hTx, hT, hdT, h3⟩ fun h' fl up => ?_
  obtain ⟨k1, k2, k3, oe', vs', T', oT', ts', a1, a2, a3, a4, a5, a6, a7, a8, a9⟩ := fl
  have keepAll : ∀ b o, s'.heap.get? b = some o → b ∉ frs (envOfC qual scope s₀.heap.objs.size f cd :: outer) → b ∉ [x, T] → h'.get? b = some o := fun b o e hb hx => k1 b o (PySem.W.hideAll_get _ e fun z => (List.mem_append.mp z).elim hb hx)
  refine ⟨x, T', C, H', rfl, fly_left (env := envOfC qual scope s₀.heap.objs.size f cd) (base := base) (s := s) (sA := s') (L := s₀.heap.objs.size) (ex := [x, T]) (F.os.trans I.os) F.bare rfl (Heap.get?_none_of_le (Nat.le_refl _)) I.base I.stack hstk F.un F.hok (fun b hb => ?_) keepAll up F.nx F.fx (fun o e => ?_) ⟨oe', vs', oT', ts', a0, a1, a2.1, a2.2, a3, a4, a6, a7, a8, a9⟩, himp _ _ _ q⟩
  · simp only [List.mem_cons, List.not_mem_nil, or_false] at hb
    rcases hb with rfl | rfl
    · exact ⟨F.nx, F.fx⟩
    · exact ⟨F.nT, F.fT⟩
  · by_cases z : T' ∈ frs (envOfC qual scope s₀.heap.objs.size f cd :: outer) ++ [x, T]
    · exact List.mem_append.mp z
    · rw [PySem.W.hideAll_get _ e z] at a5; cases a5
theorem xe_raise {pins : List (Addr × Obj)} {σ : St} {H : Hp} {s : Shared} {h1 : Heap} {x C : Addr} {args : List Value} (I : Inv (cx1 P w K mg base N qual scope f cd A outer s₀ H₀ E) pins σ H s) (hm : Heap.MadeExcOf s.heap h1 x (.ref C) args) (q : E (.ref C) none H) :
    (cx1 P w K mg base N qual scope f cd A outer s₀ H₀ E).xe (.ref x) { s with heap := h1 } := by
  have hstk : ∀ b ∈ frs (envOfC qual scope s₀.heap.objs.size f cd :: outer), H b = none := I.stkFree
  have ff : s.heap.FunFrames base (envOfC qual scope s₀.heap.objs.size f cd :: outer) := I.stack
  show wpAny (model P w) (A.deeper (envOfC qual scope s₀.heap.objs.size f cd)) («leaving» (envOfC qual scope s₀.heap.objs.size f cd) (.ref x)) _ _ { s with heap := h1 }
  refine wpAny_leaves_madeW (s := { s with heap := h1 }) (base := PySem.W.hideAll s.heap (frs (envOfC qual scope s₀.heap.objs.size f cd :: outer))) (h := s.heap) (L := s₀.heap.objs.size) I.ok.frames rfl (fun b o e => PySem.W.of_hideAll _ e) (funs_hid ff fun b hb => hb) hm fun h' t fl _ _ up => ?_
  obtain ⟨k1, k2, k3, oe', vs', T', oT', ts', a1, a2, a3, a4, a5, a6, a7, a8, a9⟩ := fl
  have keepAll : ∀ b o, s.heap.get? b = some o → b ∉ frs (envOfC qual scope s₀.heap.objs.size f cd :: outer) → b ∉ ([] : List Addr) → h'.get? b = some o := fun b o e hb _ => k1 b o (PySem.W.hideAll_get _ e hb)
  refine ⟨x, T', C, H, rfl, fly_left (env := envOfC qual scope s₀.heap.objs.size f cd) (base := base) (s := s) (sA := s) (L := s₀.heap.objs.size) (ex := []) I.os I.bare rfl (Heap.get?_none_of_le (Nat.le_refl _)) I.base ff hstk Un.refl I.hok (fun b hb => nomatch hb) keepAll ((Heap.UpToSlots.of_keeps hm.keeps).trans up) hm.new ?_ (fun o e => ?_) ⟨oe', vs', oT', ts', _, a1, a2.1, a2.2, a3, a4, a6, a7, a8, a9⟩, q⟩
  · cases z : H x with
    | none => rfl
    | some o =>
      obtain ⟨u, e⟩ := (I.hok x o z).ob
      rw [hm.new] at e; cases e
  · by_cases z : T' ∈ frs (envOfC qual scope s₀.heap.objs.size f cd :: outer)
    · exact .inl z
    · rw [PySem.W.hideAll_get _ e z] at a5; cases a5
end
end L2
set_option Elab.async false
set_option linter.all false
set_option maxRecDepth 100000
namespace L2
open PySem PySem.Spec PyProof.Rows
section
variable {prog : Program} {w : World} {A : Around} {E : Value → Shared → Prop} {h : Heap} {g : Array GenState} {d : Drawn} {t : Nat} {os : OsState} {K : PySem.W.Frag} {a C : Addr} {o : Obj}
structure XIs (K : PySem.W.Frag) (C : Addr) : Prop where
  ga : PySem.W.findIn K (.ref C) "__getattribute__" = some (some (.builtin "BaseException.__getattribute__"))
  gx : PySem.W.findIn K (.ref C) "__getattr__" = some none
  cl : PySem.W.findIn K (.ref C) "__class__" = some (some (.builtin "object.__class__"))
  mo : PySem.W.mroIn K C (.type "object") = some true
  mb : PySem.W.mroIn K C (.type "BaseException") = some true
theorem xis_sub {M : Model} {T : Value} {v : Bool} (X : K.In h) (hm : PySem.W.mroIn K C T = some v) : PySem.W.Looks M h (isSubtype (.ref C) T) v := PySem.W.looks_mroIn X hm
theorem x_get {R : Result → Shared → Prop} (X : K.In h) (Z : XIs K C) (hx : h.get? a = some o) (hc : o.cls = .ref C) (hq : R (.ok (.ret (.ref C))) ⟨h, g, d, t, os⟩) :
    codeAny (model prog w) A (.call (.builtin "getset_descriptor.__get__") ⟨[.builtin "object.__class__", .ref a, .ref C], []⟩) R ⟨h, g, d, t, os⟩ := by
  have hT5 : (⟨h, g, d, t, os⟩ : Shared).TypeIs (.builtin "object.__class__") "getset_descriptor" := F.typeOf_object_class
  have L1 : PySem.W.Looks (model prog w) h (isSubtype (.ref C) (.type (".".intercalate ("object.__class__".cutAt '.').dropLast))) true := by rw [F.owner_object_class]; exact xis_sub X Z.mo
  refine codeAny_call_builtin F.slot_gs_get.plain F.entry_gs_get (F.slot_gs_get.check _ _ _ _ _ _ _ _ hT5 (F.args_gs_get _ _ _) ?_)
  repeat (any_goals (first | assumption | (with_reducible refine wpAny_loadPart_at hx ?_; rw [hc]) | with_reducible refine L1.at ?_ | wp_step))
  refine ⟨Code.quiet_builtin _ (by decide +kernel), codeAny_builtin F.entry_object_class ?_⟩
  repeat (any_goals (first | assumption | (with_reducible refine wpAny_loadPart_at hx ?_; rw [hc]) | wp_step))
theorem x_entry {tk : Tok} {Q : Fin → Shared → Prop} (X : K.In h) (Z : XIs K C) (hx : h.get? a = some o) (hc : o.cls = .ref C) (hq : Q (.done (.ret (.ref C))) ⟨h, g, d, t, os⟩) :
    wpAny (model prog w) A (Builtin.«object.__getattribute__» ⟨[.ref a, .str "__class__" tk], []⟩) Q E ⟨h, g, d, t, os⟩ := by
  have hT5 : (⟨h, g, d, t, os⟩ : Shared).TypeIs (.builtin "object.__class__") "getset_descriptor" := F.typeOf_object_class
  have f5 := F.typeOf_object_class
  have f6 := F.slot_gs_get.lookup
  have f7 := F.slot_gs_set.lookup
  have L1 := PySem.W.looks_findIn (M := model prog w) X Z.cl
  repeat (any_goals (first | assumption | (with_reducible refine wpAny_loadPart_at hx ?_; rw [hc]) | with_reducible refine L1.at ?_ | wp_step))
  refine x_get X Z hx hc ?_
  repeat (any_goals (first | assumption | wp_step))
theorem x_check {M : Model} {nameV : Value} {Q : Unit → Shared → Prop} (X : K.In h) (Z : XIs K C) (hx : h.get? a = some o) (hc : o.cls = .ref C) (hq : Q () ⟨h, g, d, t, os⟩) : wpAny M A (checkBuiltinCall "BaseException.__getattribute__" ⟨[.ref a, nameV], []⟩) Q E ⟨h, g, d, t, os⟩ := by
  have hk : builtinKind "BaseException.__getattribute__" = some .slot := by decide +kernel
  have hsplit : splitId "BaseException.__getattribute__" = some ("BaseException", "__getattribute__") := by decide +kernel
  have L1 := xis_sub (M := M) X Z.mb
  have ha := F.args_bexc_ga (.ref a) nameV
  simp only [checkBuiltinCall, hk, hsplit]
  refine wpAny_bind ?_
  · unfold isInstance
    repeat (first | (with_reducible refine wpAny_loadPart_at hx ?_; rw [hc]) | with_reducible refine L1.at ?_ | wp_step)
    exact hq
theorem x_call {tk : Tok} {R : Result → Shared → Prop} (X : K.In h) (Z : XIs K C) (hx : h.get? a = some o) (hc : o.cls = .ref C) (hq : R (.ok (.ret (.ref C))) ⟨h, g, d, t, os⟩) :
    codeAny (model prog w) A (.call (.builtin "BaseException.__getattribute__") ⟨[.ref a, .str "__class__" tk], []⟩) R ⟨h, g, d, t, os⟩ :=
  codeAny_call_builtin F.attr_ValueError.ga.plain F.entry_bexc_ga (x_check X Z hx hc (x_entry X Z hx hc hq))
theorem x_by {tk : Tok} {fill expr : Bool} {Q : Value → Shared → Prop} (X : K.In h) (Z : XIs K C) (hx : h.get? a = some o) (hc : o.cls = .ref C) (hq : Q (.ref C) ⟨h, g, d, t, os⟩) :
    wpAny (model prog w) A (getAttrBy (.ref a) (.str "__class__" tk) fill expr) Q E ⟨h, g, d, t, os⟩ := by
  have f3 := F.attr_ValueError.ga.bind (.ref a)
  have hx0 : (expr && onTheHeap (Value.builtin "BaseException.__getattribute__")) = false := by cases expr <;> rfl
  have hx2 : (Value.builtin "BaseException.__getattribute__" == Value.builtin "object.__getattribute__") = false := by decide +kernel
  have hx1 : (onTheHeap (Value.ref C) && Value.builtin "BaseException.__getattribute__" == Value.builtin "object.__getattribute__") = false := by rw [hx2]; rfl
  have L1 := PySem.W.looks_findIn (M := model prog w) X Z.ga
  have L2 := PySem.W.looks_findIn (M := model prog w) X Z.gx
  repeat (any_goals (first | assumption | (with_reducible refine wpAny_loadPart_at hx ?_; rw [hc]) | with_reducible refine L1.at ?_ | with_reducible refine L2.at ?_ | wp_step))
  refine x_call X Z hx hc ?_
  repeat (any_goals (first | assumption | wp_step))
theorem x_attr {Q : Option Value → Shared → Prop} (X : K.In h) (Z : XIs K C) (hx : h.get? a = some o) (hc : o.cls = .ref C) (hq : Q (some (.ref C)) ⟨h, g, d, t + 1, os⟩) :
    wpAny (model prog w) A (getAttr? (.ref a) "__class__") Q E ⟨h, g, d, t, os⟩ := by
  unfold getAttr? getAttrBy?
  repeat (any_goals (first | assumption | with_reducible apply x_by X Z hx hc | wp_step))
def XO (a C : Addr) : Heap → Prop := fun h => ∃ o vs, h.get? a = some o ∧ o.cls = .ref C ∧ o.data = .fields vs
theorem xis_cls (Z : XIs K C) : ∃ c' d' cd sl, K.lookup C = some ⟨c', d', .cls cd, sl⟩ := by
  have := Z.mo
  unfold PySem.W.mroIn PySem.W.clsIn at this
  split at this
  · rename_i c' d' cd' sl' ho
    exact ⟨_, _, _, _, ho⟩
  · cases this
theorem kitx_exc (Z : XIs K C) : PySem.W.KitX K (.ref a) (.ref C) (XO a C) where
  ty := fun M h _ ⟨o, vs, hx, hc, _⟩ => by
    intro A Q E s k q
    unfold typeOf
    refine wpAny_bind (wpAny_loadPart (k _ _ hx) ?_)
    rw [hc]
    exact wpAny_pure q
  it := fun M h X _ => by
    obtain ⟨c', d', cd, sl, ho⟩ := xis_cls Z
    intro A Q E s k q
    unfold isType loadHead
    exact wpAny_bind (wpAny_loadPart (k _ _ (X _ _ ho)) (wpAny_pure q))
  ne := fun h tp dd its n sl X htp => by
    obtain ⟨c', d', cd, sl', ho⟩ := xis_cls Z
    refine Bool.eq_false_iff.mpr fun q => ?_
    have e : C = tp := Value.ref.inj (beq_iff_eq.mp q)
    subst e
    have z := (X _ _ ho).symm.trans htp
    cases z
  ca := fun {prog w A E Q s} X ⟨o, vs, hx, hc, _⟩ hq => by
    obtain ⟨h, g, d, t, os⟩ := s
    exact x_attr X Z hx hc hq
end
def cvOf : V → Option Value
  | .ref p => some (.ref p)
  | .ty n => some (.type n)
  | _ => none
theorem cvOf_rel {c : V} {cv u : Value} (h : cvOf c = some cv) (r : RelV c u) : u = cv := by
  cases c with
  | ref p => cases h; cases r; rfl
  | ty n => cases h; cases r; rfl
  | _ => cases h
def kIsX (K : PySem.W.Frag) : List V → Hp → VK → Prop := fun vs H Q => ∃ a C c cv b, vs = [.ref a, c] ∧ H a = some (.ext (XO a C)) ∧ XIs K C ∧ cvOf c = some cv ∧ PySem.W.kitOne K (.ref C) cv = some b ∧ Q (.bl b) H
theorem call_kIsX {X : Cx} : CallR X (.builtin "isinstance") (kIsX X.K) := by
  intro pins s σ H xs us Q I r h
  obtain ⟨a, C, c, cv, b, rfl, hH, Z, rc, hk, q⟩ := h
  obtain ⟨u, w', rfl, ru, rw'⟩ := vals2 r
  cases ru
  have e : w' = cv := cvOf_rel rc rw'
  subst e
  obtain ⟨p, _⟩ := I.hok a _ hH
  exact PySem.W.kia_one (kitx_exc Z) I.kIn p hk (fun z => nomatch z) fun tk => ⟨.bl b, H, I.tok tk, rfl, q⟩
end L2
set_option Elab.async false
set_option linter.all false
set_option maxRecDepth 100000
namespace L2
open PySem PySem.Spec PyProof.Rows
abbrev VE : List Value := [.type "ValueError", .type "Exception", .type "BaseException", .type "object"]
def isStrKey (e : DictEntry) : Bool := match e.key with | .str _ _ => true | _ => false
def noInit (K : PySem.W.Frag) (N : Addr) : Bool := match K.lookup N with
  | some ⟨_, _, .dict es _, _⟩ => es.toList.all isStrKey && (nsFind es "__init__").isNone
  | _ => false
theorem noInit_ns {K : PySem.W.Frag} {N : Addr} {h : Heap} (X : K.In h) (e : noInit K N = true) : ∃ mN, h.Ns N mN ∧ mN "__init__" = none := by
  unfold noInit at e
  split at e
  · rename_i c d es ep sl ho
    simp only [Bool.and_eq_true] at e
    refine ⟨nsFind es, ⟨_, es, ep, X _ _ ho, rfl, fun en hm => ?_, fun _ => rfl⟩, Option.isNone_iff_eq_none.mp e.2⟩
    have := List.all_eq_true.mp e.1 en (Array.mem_def.mp hm)
    unfold isStrKey at this
    split at this
    · rename_i n t q; exact ⟨n, t, q⟩
    · cases this
  · cases e
structure XC (K : PySem.W.Frag) (C D : Addr) : Prop where
  oC : ∃ nm q N bs hdct sn sub ab col dd k0 k1 k2 k3 k5, K.lookup C = some (excClassObj nm q C N bs (.ref D :: VE) hdct sn sub ab col dd k0 k1 k2 k3 k5 "ValueError.__new__") ∧ noInit K N = true
  oD : ∃ c0 dd cd sl, K.lookup D = some ⟨c0, dd, .cls cd, sl⟩ ∧ noInit K cd.ns = true
theorem XC.mk' {K : PySem.W.Frag} {C D : Addr} {nm q : Str} {N : Addr} {bs : List Value} {hdct : Bool} {sn : List Str} {sub : List Value} {ab : Bool} {col : Option Bool} {dd : Option Addr} {k0 k1 k2 k3 k5 : Option Value} {c0 : Value} {dD : Option Addr} {cd : ClassData} {sl : Array (Option Value)}
    (l1 : K.lookup C = some (excClassObj nm q C N bs (.ref D :: VE) hdct sn sub ab col dd k0 k1 k2 k3 k5 "ValueError.__new__")) (n1 : noInit K N = true) (l2 : K.lookup D = some ⟨c0, dD, .cls cd, sl⟩) (n2 : noInit K cd.ns = true) : XC K C D :=
  ⟨⟨_, _, _, _, _, _, _, _, _, _, _, _, _, _, _, l1, n1⟩, ⟨_, _, _, _, l2, n2⟩⟩
def tRaise (E : XK) (C : Addr) (t : TA) : TS := fun _ σ H => t σ H fun vs H1 => vs.length ≤ sizeLine ∧ E (.ref C) none H1
section
variable {P : Program} {w : World} {K : PySem.W.Frag} {mg : Str → Option Value} {base : Heap} {N : List Str} {qual : Str} {scope : Scope} {f : Addr} {cd : Value} {A : Around} {outer : List Env} {s₀ : Shared} {H₀ : Hp} {E : XK}
theorem ps_raise {C D : Addr} {x : Str} {np cpos pos : Pos} {e₀ : Expr} {rest : List Expr} {t : TA} (Z : XC K C D) (hg : Gl (cx1 P w K mg base N qual scope f cd A outer s₀ H₀ E) x) (hm : mg x = some (.ref C))
    (ha : PA (cx1 P w K mg base N qual scope f cd A outer s₀ H₀ E) (e₀ :: rest) t) (hdb : (x == ("__debug__" : Str)) = false := by decide)
    (he : starEach (e₀ :: rest) (envOfC qual scope s₀.heap.objs.size f cd) = (false, eval e₀ (envOfC qual scope s₀.heap.objs.size f cd)) :: starEach rest (envOfC qual scope s₀.heap.objs.size f cd) := by rfl)
    (hplain : (backTo cpos (starEach rest (envOfC qual scope s₀.heap.objs.size f cd))).any (·.1) = false := by rfl) :
    PS (cx1 P w K mg base N qual scope f cd A outer s₀ H₀ E) (.Raise (some (.Call (.Name x np) (e₀ :: rest) [] cpos)) none pos) (tRaise E C t) := by
  intro pins s σ H D' I h
  obtain ⟨⟨nm, q, Nc, bs, hdct, sn, sub, ab, col, dd, k0, k1, k2, k3, k5, l1, n1⟩, ⟨c0, dD, cdD, sl, l2, n2⟩⟩ := Z
  obtain ⟨mN, hN, hni⟩ := noInit_ns I.kIn n1
  obtain ⟨mD, hD, hnd⟩ := noInit_ns I.kIn n2
  have hb := I.ok.hd rfl
  refine wpAny_Raise_call_subU (C := C) (nm := nm) (q := q) (N := Nc) (bs := bs) (bm := .ref D :: VE) (bmB := VE) (hdct := hdct) (sn := sn) (sub := sub) (ab := ab) (col := col) (dd := dd) (k0 := k0) (k1 := k1) (k2 := k2) (k3 := k3) (k5 := k5)
    F.excBase_ValueError (by decide +kernel) F.excBase_ValueError (mN := mN) (by rw [List.contains_cons, show VE.contains (.type "BaseException") = true by decide +kernel, Bool.or_true]) hb (by rw [show starEach (e₀ :: rest) (cx1 P w K mg base N qual scope f cd A outer s₀ H₀ E).env = _ from he]; show (false || (backTo cpos (starEach rest (envOfC qual scope s₀.heap.objs.size f cd))).any (·.1)) = false; rw [hplain]; rfl) hni (ld_glob I hg hm ⟨rfl, ?_⟩ hdb)
  have h1 := ha cpos pins s σ H _ I h
  rw [show starEach (e₀ :: rest) (cx1 P w K mg base N qual scope f cd A outer s₀ H₀ E).env = _ from he] at h1 ⊢
  refine Calls.evalArgs_plain (wpAny_mono h1 (fun vs s₂ h₂ => ?_) fun _ _ y => y)
  obtain ⟨xs, H2, I2, rv, hl, hE⟩ := h₂
  obtain ⟨mN2, hN2, hni2⟩ := noInit_ns I2.kIn n1
  obtain ⟨mD2, hD2, hnd2⟩ := noInit_ns I2.kIn n2
  have kk : s.heap.Ns Nc mN → s₂.heap.Ns Nc mN := fun ⟨o, es, ep, a1, a2⟩ => by
    obtain ⟨o2, es2, ep2, b1, b2⟩ := hN2
    unfold noInit at n1
    split at n1
    · rename_i c d es' ep' sl' ho
      have e1 := I.kIn _ _ ho
      have e2 := I2.kIn _ _ ho
      rw [a1] at e1; cases e1
      exact ⟨_, es, ep, e2, a2⟩
    · cases n1
  refine ⟨rfl, by rw [← rv.length]; exact hl, I2.kIn _ _ l1, kk hN, .own (I2.kIn _ _ l2) hD2 hnd2 .base, fun h' e hm' => ?_⟩
  exact xe_raise I2 hm' hE
end
end L2
set_option Elab.async false
set_option linter.all false
set_option maxRecDepth 100000
namespace L2
open PySem PySem.Spec PyProof.Rows
theorem pass1 {P : Program} {w : World} {X : Cx} : Passes (CX1 P w) X E0 := fun _ _ _ _ _ _ _ h => by obtain ⟨_, _, _, _, _, _, q⟩ := h; exact (show False from q).elim
section
variable {P : Program} {w : World} {K : PySem.W.Frag} {mg : Str → Option Value} {base : Heap}
theorem Fun.ok1 {x qual : Str} {st : Stmt} {f : Addr} {fd : FuncData} {N ps : List Str} {k : Nat} {sp : Sp} (F : Fun K x qual st f fd) (S : FnScope N ps (defScope st)) (len : ∀ vs H Q E, sp vs H Q E → vs.length = ps.length)
    (hbody : ∀ (cdv : Value) (A : Around) (outer : List Env) (s : Shared) (H : Hp) (vs : List V) (Q : VK) (E : XK), Room k (A.deeper (envOfC qual (defScope st) s.heap.objs.size f cdv)) → sp vs H Q E →
      ∃ t, PSs (cx1 P w K mg base N qual (defScope st) f cdv A outer s H E) (defBody st) t ∧ t { nx := fun _ H' => Q .non H', rt := Q } (start N vs) H) : FnOk P w K mg base (CX1 P w) (k + 1) f fd ps sp := by
  obtain ⟨oc, od, kV, doc, pm, an, cdv, ct, osl, rfl, lk, hcd⟩ := F.ex
  exact fn_of lk hcd S len fun A outer s H vs Q E hr hsp => hbody cdv A outer s H vs Q E hr hsp
end
section
variable {X : Cx} {pins : List (Addr × Obj)} {σ : St} {H : Hp} {s s' : Shared}
theorem landed {H' : Hp} {x T C : Addr} {a0 : Value} {h5 : Heap} (I : Inv X pins σ H s) (F : Fly X.prog X.w X.stack H s x T C H' s') (fl : Heap.FlyingW (PySem.W.hideAll s'.heap (frs X.stack ++ [x, T])) X.stack x (.ref C) a0 h5) (up : s'.heap.UpToSlots h5) :
    Inv X pins σ (upd H' x (.ext (XO x C))) { s' with heap := h5 } := by
  obtain ⟨k1, _, _, oe, vs, T', oT, ts, he, hc, hd, _⟩ := fl
  have keepAll : ∀ b o, s'.heap.get? b = some o → b ∉ frs X.stack → b ∉ [x, T] → h5.get? b = some o := fun b o e hb hx => k1 b o (PySem.W.hideAll_get _ e fun z => (List.mem_append.mp z).elim hb hx)
  have frD : ∀ b ∈ frs X.stack, ∃ o, s.heap.get? b = some o ∧ ∀ vs, o.data ≠ .fields vs := fun b hb => (I.stack.mem hb).2
  have hstk := I.stkFree
  have nxT : ∀ b o, s.heap.get? b = some o → b ∉ [x, T] := fun b o e z => by
    simp only [List.mem_cons, List.not_mem_nil, or_false] at z
    rcases z with rfl | rfl
    · rw [F.nx] at e; cases e
    · rw [F.nT] at e; cases e
  have slots : ∀ b o, s.heap.get? b = some o → H b = none → b ∈ frs X.stack → ∃ sl, h5.get? b = some { o with slots := sl } := fun b o e n hb => by
    obtain ⟨sl, e1⟩ := F.un.slot b o e n hb (by simp)
    obtain ⟨o2, e2, d2⟩ := frD b hb
    rw [e] at e2; cases e2
    obtain ⟨sl2, e3⟩ := up b _ e1 d2
    exact ⟨sl2, e3⟩
  have frH : ∀ b ∈ frs X.stack, H' b = none := fun b hb => by
    obtain ⟨o, e, d⟩ := frD b hb
    exact F.un.free b o e (hstk b hb) (by simp)
  have ne : ∀ b o, H' b = some o → b ≠ x := fun b o e z => by rw [z, F.fx] at e; cases e
  have okx : ObjOk X.prog X.w (upd H' x (.ext (XO x C))) h5 x (.ext (XO x C)) := ⟨⟨oe, vs, he, hc.1, hd⟩, ⟨oe, he⟩, fun h1 h2 ⟨o, vs, q, r⟩ k => ⟨o, vs, k o q, r⟩⟩
  refine I.call' (ch := []) F.os ⟨fun b o e n hb _ => ?_, fun b o e n hb _ => ?_, fun b o e n _ => ?_, fun b o e _ => ?_, fun b xs e => ?_, fun b o u e => ?_, fun b ps e => ?_⟩ (fun a o e => ?_) F.bare fun b z => absurd z (by simp)
  · exact keepAll b o (F.un.keep b o e n hb (by simp)) hb (nxT b o e)
  · exact slots b o e n hb
  · have n1 := F.un.free b o e n (by simp)
    rw [upd_ne fun z => nxT b o e (by rw [z]; simp)]
    exact n1
  · by_cases hb : b ∈ frs X.stack
    · obtain ⟨sl, e1⟩ := slots b o e (hstk b hb) hb
      exact ⟨_, e1⟩
    · obtain ⟨o', e1⟩ := F.un.there b o e (by simp)
      exact ⟨o', keepAll b o' e1 hb (nxT b o e)⟩
  · have q := F.un.tups b xs e
    rw [upd_ne (ne b _ q)]; exact q
  · have q := F.un.frzs b o u e
    rw [upd_ne (ne b _ q)]; exact q
  · obtain ⟨m, q⟩ := F.un.tbls b ps e
    exact ⟨m, by rw [upd_ne (ne b _ q)]; exact q⟩
  · by_cases ha : a = x
    · subst ha
      rw [upd_same] at e; cases e
      exact okx
    · rw [upd_ne ha] at e
      refine (F.hok a o e).stay (fun b u hb q => ?_) (fun b q => ?_) fun b xs q => ?_
      · have hb' : H' b ≠ none := by
          rcases hb with rfl | hb
          · rw [e]; simp
          · rw [hb]; simp
        refine keepAll b u q (fun z => hb' (frH b z)) fun z => ?_
        simp only [List.mem_cons, List.not_mem_nil, or_false] at z
        rcases z with rfl | rfl
        · exact hb' F.fx
        · exact hb' F.fT
      · rw [upd_ne (ne b _ q)]; exact q
      · rw [upd_ne (ne b _ q)]; exact q
theorem gone_ok {M : Model} {A : Around} {E : Value → Shared → Prop} {i : Nat} {x : Str} {pos : Pos} {Q : Unit → Shared → Prop} (I : Inv X pins σ H s) (hN : X.N.Nodup) (hi : X.N[i]? = some x) (hk : X.env.kindOf x = some .local)
    (h : ∀ s', Inv X pins (σ.set i none) H s' → Q () s') : wpAny M A (do bindName X.env x .none; unbindBehindTheSuite X.env x pos) Q E s := by
  obtain ⟨m, hn, hl⟩ := id I.loc
  have hcls : (X.env.scope.kind == .class || (X.env.scope.kind == .module && X.env.locals != X.env.globals)) = false := by rw [I.ok.kind]; rfl
  have hiσ : i < σ.length := by rw [I.len]; exact (List.getElem?_eq_some_iff.mp hi).1
  have cne := I.cne
  refine wpAny_nameGoes_keeps hk hn hcls fun h' v hn' hs => ?_
  obtain ⟨oL, _, _, hoL, _⟩ := id hn
  have tracked : HOk X.prog X.w H h' := fun b ob e => by
    refine (I.hok b ob e).stay (fun c w' hc q => (hs.2 c ?_).trans q) (fun _ q => q) fun _ _ q => q
    rintro rfl
    rcases hc with rfl | hc
    · rw [I.free] at e; cases e
    · rw [I.free] at hc; cases hc
  refine h _ ⟨I.ok, I.os, I.bare, ⟨fun b o e n hb hx => ?_, fun b o e n hb hx => ?_, I.base.free, fun b o e hx => ?_, I.base.tups, I.base.frzs, I.base.tbls⟩, ⟨_, hn', fun j y v' e1 e2 e3 => ?_⟩, fun y c e => ?_, I.free, I.freeC, fun p hp => ?_, tracked, by simpa using I.len⟩
  · exact (hs.2 b (Nat.ne_of_lt (Nat.lt_of_lt_of_le (Heap.lt_size e) I.ok.above))).trans (I.base.keep b o e n hb hx)
  · obtain ⟨sl, e1⟩ := I.base.slot b o e n hb hx
    exact ⟨sl, (hs.2 b (Nat.ne_of_lt (Nat.lt_of_lt_of_le (Heap.lt_size e) I.ok.above))).trans e1⟩
  · obtain ⟨o', e1⟩ := I.base.there b o e hx
    exact ⟨o', (hs.2 b (Nat.ne_of_lt (Nat.lt_of_lt_of_le (Heap.lt_size e) I.ok.above))).trans e1⟩
  · by_cases hj : j = i
    · subst hj
      rw [List.getElem?_set_self hiσ] at e2
      cases e2
    · rw [List.getElem?_set_ne (Ne.symm hj)] at e2
      obtain ⟨u', r', q⟩ := hl j y v' e1 e2 e3
      refine ⟨u', r', ?_⟩
      rcases q with ⟨k, e⟩ | ⟨k, c, e, z⟩
      · refine .inl ⟨k, ?_⟩
        have : y ≠ x := fun e => hj (nodup_ix hN e1 (e ▸ hi))
        simp [this, e]
      · exact .inr ⟨k, c, e, z.sameBut hs (cne y c e)⟩
  · obtain ⟨w', z⟩ := I.cell y c e
    exact ⟨w', z.sameBut hs (cne y c e)⟩
  · obtain ⟨e, n, ne, nf, d⟩ := I.pin p hp
    exact ⟨(hs.2 p.1 ne).trans e, n, ne, nf, d⟩
end
abbrev Cx.caught (X : Cx) (x : Addr) : Cx := { X with A := X.A.mark (some (.ref x)), calm := false, xe := fun _ _ => False }
section
variable {X : Cx} {pins : List (Addr × Obj)} {σ : St} {H : Hp} {s : Shared} {x : Addr}
theorem Cx.Ok.caught (ok : X.Ok) : (X.caught x).Ok :=
  ⟨ok.mod, ok.kind, ok.glob, ok.blt, ok.above, ok.inj, ok.has, ok.cab, (fun z => nomatch z), ok.frames, ok.stk, ok.exf, ok.bs, ok.bsz, ok.noex, ok.exfs, ok.funs, ok.frf⟩
theorem Inv.caught (I : Inv X pins σ H s) : Inv (X.caught x) pins σ H s := ⟨I.ok.caught, I.os, I.bare, I.base, I.loc, I.cell, I.free, I.freeC, I.pin, I.hok, I.len⟩
theorem Inv.uncaught (ok : X.Ok) (I : Inv (X.caught x) pins σ H s) : Inv X pins σ H s := ⟨ok, I.os, I.bare, I.base, I.loc, I.cell, I.free, I.freeC, I.pin, I.hok, I.len⟩
end
def Came (X : Cx) (pins : List (Addr × Obj)) (σ : St) (E : XK) (e : Value) (s' : Shared) : Prop := ∃ H1 s1, Inv X pins σ H1 s1 ∧ CX1 X.prog X.w X.stack H1 s1 E e s'
section
variable {X : Cx} {k : Nat} {f : Addr} {fd : FuncData} {ps : List Str} {sp : Sp} {x : Str} {p pos : Pos} {e : Expr} {es : List Expr} {t : TA}
def tCatch (K : PySem.W.Frag) (cv : Value) (i : Nat) (E : XK) (th : TS) : TS := fun D σ _ => ∀ C H2, E (.ref C) none H2 → PySem.W.exmOne K (.ref C) cv = some true ∧ ∀ x, H2 x = none →
  th { nx := fun σ' H' => D.nx (σ'.set i none) H', rt := D.rt, bk := fun σ' H' => D.bk (σ'.set i none) H', ct := fun σ' H' => D.ct (σ'.set i none) H' } (σ.set i (some (.ref x))) (upd H2 x (.ext (XO x C)))
theorem xo_type {M : Model} {a C : Addr} {h : Heap} (z : XO a C h) : PySem.W.Looks M h (typeOf (.ref a)) (.ref C) := by
  obtain ⟨o, vs, hx, hc, _⟩ := z
  intro A Q E s k q
  unfold typeOf
  refine wpAny_bind (wpAny_loadPart (k _ _ hx) ?_)
  rw [hc]
  exact wpAny_pure q
theorem catch_ok {pins : List (Addr × Obj)} {s' : Shared} {σ : St} {H : Hp} {D : Ends} {E : XK} {i : Nat} {n cn : Str} {cv e : Value} {np hpos : Pos} {b₀ : Stmt} {suite : List Stmt} {th : TS} (hN : X.N.Nodup) (hi : X.N[i]? = some n) (hkn : X.env.kindOf n = some .local) (hg : Gl X cn) (hm : X.mg cn = some cv)
    (hst : X.stack = X.env :: X.outer) (hf : X.env.frame = some X.env.locals) (hs : ∀ x, PSs (X.caught x) (b₀ :: suite) th) (hc : Came X pins σ E e s') (h : tCatch X.K cv i E th D σ H) (hdb : (cn == ("__debug__" : Str)) = false := by decide) :
    wpAny (model X.prog X.w) X.A (noteFrame e X.env) (fun _ s₂ => wpAny (model X.prog X.w) X.A (setFlight e none) (fun _ s₃ => wpAny (model X.prog X.w) X.A (handleBy e X.env [.ExceptHandler (some (.Name cn np)) (some n) (b₀ :: suite) hpos]) (SP X pins D) X.xe s₃) X.xe s₂) X.xe s' := by
  obtain ⟨H1, s1, I, x, T, C, H', rfl, F, q⟩ := hc
  obtain ⟨hC, hth⟩ := h C H' q
  obtain ⟨oe, vs, oT, ts, a0, he, hcl, h0, hd, h1, hTx, hT, hdT, h3⟩ := F.tr
  have ff : s'.heap.FunFrames X.base X.stack := funs_un I.stack (fun b hb => ⟨hb, I.stkFree b hb⟩) F.un
  have fl : Heap.FlyingW (PySem.W.hideAll s'.heap (frs X.stack ++ [x, T])) X.stack x (.ref C) a0 s'.heap :=
    ⟨fun b o e => PySem.W.of_hideAll _ e, PySem.W.hideAll_none _ (by simp), funs_hid ff fun b hb => List.mem_append_left _ hb, oe, vs, T, oT, ts, he, ⟨hcl, h0⟩, hd, h1, PySem.W.hideAll_none _ (by simp), hTx, hT, hdT, h3⟩
  have fl' := fl
  rw [hst] at fl'
  have hfr : X.A.frames = some (X.env :: X.outer) := by rw [I.ok.frames, hst]
  refine wpAny_looks_onW hfr hf fl' fun h4 held up4 => ?_
  refine wpAny_landsW held fun h5 fl5 up5 => ?_
  have I5 := landed (a0 := a0) (h5 := h5) I F (by rw [hst]; exact fl5) (up4.trans up5)
  refine wpAny_handleBy_cons (codeAny_handlers_test (ld_glob (X := X.caught x) I5.caught hg hm ?_ hdb)) (by intro q; cases q)
  have hx5 : XO x C h5 := (I5.hok x _ upd_same).1
  refine (PySem.W.exm_one (M := model X.prog X.w) (h := h5) I5.kIn (xo_type hx5) hC).here ?_
  refine codeAny_handlers_suite_as ?_
  refine lands_againW fl5 fun h6 fl6 up6 => ?_
  have I6 := landed (a0 := a0) (h5 := h6) I F (by rw [hst]; exact fl6) ((up4.trans up5).trans up6)
  refine store_ok (X := X.caught x) (v := .ref x) I6.caught hN hi (.inl hkn) rfl (fun s7 I7 => ?_) (.inr hkn)
  refine wpAny_mono (hs x pins s7 _ _ _ I7 (hth x F.fx)) (fun fw s8 h8 => ?_) fun _ _ z => z.elim
  cases fw with
  | next => obtain ⟨σ', H9, I9, q9⟩ := h8; exact gone_ok (I9.uncaught I.ok) hN hi hkn fun s' I' => ⟨_, H9, I', q9⟩
  | brk => obtain ⟨σ', H9, I9, q9⟩ := h8; exact gone_ok (I9.uncaught I.ok) hN hi hkn fun s' I' => ⟨_, H9, I', q9⟩
  | cont => obtain ⟨σ', H9, I9, q9⟩ := h8; exact gone_ok (I9.uncaught I.ok) hN hi hkn fun s' I' => ⟨_, H9, I', q9⟩
  | ret u => obtain ⟨v, σ', H9, I9, r9, q9⟩ := h8; exact gone_ok (I9.uncaught I.ok) hN hi hkn fun s' I' => ⟨v, _, H9, I', r9, q9⟩
end
end L2
set_option Elab.async false
set_option linter.all false
set_option maxRecDepth 100000
namespace L2
open PySem PySem.Spec PyProof.Rows
def noInitE (es : Array DictEntry) : Bool := es.toList.all isStrKey && (nsFind es "__init__").isNone
theorem noInit_of {K : PySem.W.Frag} {N : Addr} {c : Value} {d : Option Addr} {es : Array DictEntry} {n : Nat} {sl : Array (Option Value)} (l : K.lookup N = some ⟨c, d, .dict es n, sl⟩) (h : noInitE es = true) : noInit K N = true := by
  unfold noInit
  rw [l]
  exact h
structure EA where
  ClueError : Addr
  NoFloor : Addr
  NoFilling : Addr
  NoRule : Addr
  NoPuzzle : Addr
  TooMany : Addr
  NotOne : Addr
  NoMove : Addr
  NoText : Addr
  NoName : Addr
  NoRow : Addr
  BadThought : Addr
abbrev Glb (K : PySem.W.Frag) (x : Str) (C : Addr) : Prop := PySem.W.nsIn K mainGlobals x = some (some (.ref C))
theorem Glb.eq {K : PySem.W.Frag} {x : Str} {C D : Addr} (h : Glb K x C) (h' : Glb K x D) : C = D := by
  have := h.symm.trans h'
  cases this
  rfl
structure Ref1 (K : PySem.W.Frag) (a : EA) (x : Str) (C : Addr) (os : List Addr) : Prop where
  g : Glb K x C
  xc : XC K C a.ClueError
  xis : XIs K C
  ve : PySem.W.kitOne K (.ref C) (.type "ValueError") = some true
  ex : PySem.W.exmOne K (.ref C) (.ref a.ClueError) = some true
  no : ∀ y ∈ os, PySem.W.kitOne K (.ref C) (.ref y) = some false
theorem w_isXt {K : PySem.W.Frag} {x C : Addr} {n : String} {b : Bool} {H : Hp} {Q : VK} (Z : XIs K C) (hx : H x = some (.ext (XO x C))) (hk : PySem.W.kitOne K (.ref C) (.type n) = some b) (h : Q (.bl b) H) : kIsX K [.ref x, .ty n] H Q := ⟨x, C, _, _, b, rfl, hx, Z, rfl, hk, h⟩
theorem xc_of {K : PySem.W.Frag} {C D : Addr} {nm q : Str} {N ND : Addr} {bs : List Value} {hdct : Bool} {sn : List Str} {sub : List Value} {ab : Bool} {col : Option Bool} {dd : Option Addr} {k0 k1 k2 k3 k5 : Option Value} {c0 : Value} {dD : Option Addr} {cd : ClassData} {sl : Array (Option Value)}
    {cN cE : Value} {dN dE : Option Addr} {es es' : Array DictEntry} {n n' : Nat} {sN sE : Array (Option Value)}
    (l1 : K.lookup C = some (excClassObj nm q C N bs (.ref D :: VE) hdct sn sub ab col dd k0 k1 k2 k3 k5 "ValueError.__new__")) (m1 : K.lookup N = some ⟨cN, dN, .dict es n, sN⟩) (n1 : noInitE es = true)
    (l2 : K.lookup D = some ⟨c0, dD, .cls cd, sl⟩) (e2 : cd.ns = ND) (m2 : K.lookup ND = some ⟨cE, dE, .dict es' n', sE⟩) (n2 : noInitE es' = true) : XC K C D := .mk' l1 (noInit_of m1 n1) l2 (noInit_of (by rw [e2]; exact m2) n2)
theorem bt_ValueError : bootBuiltins "ValueError" = some (.type "ValueError") := by decide +kernel
end L2
set_option Elab.async false
set_option linter.all false
set_option maxRecDepth 100000
namespace L2
open PySem PySem.Spec PyProof.Rows
def cMulB : R2
  | .int i, .int j, H, Q => IntMulOk i j ∧ Q (.int (i * j)) H
  | _, _, _, _ => False
end L2
namespace Att
open PySem PySem.W PySem.Calls PyProof.Rows
end Att
namespace L2
open PySem PySem.Spec PyProof.Rows
section
variable {K : PySem.W.Frag} {H : Hp} {Q : VK} {D : Ends} {σ : St}
theorem w_mulB {i j : Int} : cMulB (.int i) (.int j) H Q = (IntMulOk i j ∧ Q (.int (i * j)) H) := rfl
theorem w_pow {i j : Int} : cPow (.int i) (.int j) H Q = (CPow i j ∧ Q (.int (i ^ j.toNat)) H) := rfl
theorem w_raise {E : XK} {C : Addr} {t : TA} : tRaise E C t D σ H = t σ H fun vs H1 => vs.length ≤ sizeLine ∧ E (.ref C) none H1 := rfl
theorem w_compT {ix : List (Option Nat)} {tl : TE} {g : TG} {tt : TT} {te : TE} : tComp ix (iTup K tl) g tt te σ H Q = tl σ H fun x H1 => ∃ a, x = .ref a ∧ (∃ xs, SqT K H1 a xs) ∧ CompR (Itt K a) g tt te (fun l H' => Q (.ref l) H') (subσ ix σ) H1 := rfl
theorem w_addL {p q : Addr} {xs ys : List V} (hp : H p = some (.lst xs)) (hq : H q = some (.lst ys)) (hn : xs.length + ys.length ≤ 1000) (h : ∀ r, H r = none → Q (.ref r) (upd H r (.lst (xs ++ ys)))) : cAdd (.ref p) (.ref q) H Q := by
  show bnd (unM (H p)) _
  rw [hp]
  refine bnd_of (a := xs) rfl ?_
  rw [hq]
  exact bnd_of (a := ys) rfl ⟨Nat.le_of_lt (small1000 hn), h⟩
theorem comp_tup {g : TG} {tt : TT} {te : TE} {a : Addr} {xs : List V} {fin : Addr → Hp → Prop} {σ0 : St} {H1 : Hp} (Pv : Addr → Nat → St → Hp → Prop) (h0 : ∀ l, H1 l = none → Pv l 0 σ0 (upd H1 l (.lst []))) (hq : ∀ l i σ H, H1 l = none → i ≤ xs.length → Pv l i σ H → SqT K H a xs)
    (hs : ∀ l i x σ H, H1 l = none → xs[i]? = some x → Pv l i σ H → g x σ H fun σ2 H3 => tt σ2 H3 fun b H4 => if b = true then te σ2 H4 fun y H5 => ∃ ys, H5 l = some (.lst ys) ∧ ys.length < sizeLine ∧ Pv l (i + 1) σ2 (upd H5 l (.lst (ys ++ [y]))) else Pv l (i + 1) σ2 H4)
    (hd : ∀ l σ H, H1 l = none → Pv l xs.length σ H → fin l H) : CompR (Itt K a) g tt te fin σ0 H1 := by
  intro l hl0
  refine ⟨fun i m σ H => m = xs.length - i ∧ i ≤ xs.length ∧ Pv l i σ H, ⟨xs.length, by simp, Nat.zero_le _, h0 l hl0⟩, ?_⟩
  rintro i m σ H ⟨rfl, hi, p⟩
  have q := hq l i σ H hl0 hi p
  by_cases hlt : i < xs.length
  · refine .inr ⟨⟨xs, xs[i], q, by simp [hlt]⟩, Pv l (i + 1), fun σ' H' p' => ⟨xs.length - (i + 1), by omega, rfl, hlt, p'⟩, fun x H' y => ?_⟩
    obtain ⟨e, y⟩ := y
    subst e
    exact hs l i x σ _ hl0 (y xs q) p
  · have e : i = xs.length := by omega
    subst e
    exact .inl ⟨⟨xs, q, Nat.le_refl _⟩, hd l σ H hl0 p⟩
end
end L2
set_option Elab.async false
set_option linter.all false
set_option maxRecDepth 100000
namespace L2
open PySem PySem.Spec PyProof.Rows
inductive RK where
  | Rule | Unlike | Sum | Rising | Seen | Count | Joined | NoSquare | Ring
  deriving DecidableEq
structure RCl (ι : Type) where
  A : ι → Addr
  ok : ι → Bool
section
variable {ι : Type}
def tFldK (c : RCl ι) (ta : TE) (f : Str) : TE := fun σ H Q => ta σ H fun x H1 => ∃ a k dx fs v, x = .ref a ∧ c.ok k = true ∧ H1 a = some (.ins (c.A k) dx fs) ∧ fs.lookup f = some v ∧ Q v H1
def sFldK (c : RCl ι) (ta tv : TE) (f : Str) : TS := fun D σ H => tv σ H fun y H1 => ta σ H1 fun x H2 => ∃ a k dx fs, x = .ref a ∧ c.ok k = true ∧ H2 a = some (.ins (c.A k) dx fs) ∧ fs.length < 1000 ∧
  D.nx σ (upd H2 a (.ins (c.A k) dx (putF f y fs)))
def tMethK (c : RCl ι) (okm : ι → Bool) (m : Str) (sp : ι → Sp) (ta : TE) (t : TA) : TE := fun σ H Q => ta σ H fun x H1 => ∃ a k dx fs, x = .ref a ∧ okm k = true ∧ H1 a = some (.ins (c.A k) dx fs) ∧ fs.lookup m = none ∧
  t σ H1 fun vs H2 => sp k (x :: vs) H2 Q E0
structure FldK (K : PySem.W.Frag) (c : RCl ι) (f : Str) : Prop where
  ex : ∀ k, c.ok k = true → Cls K (c.A k) ∧ NoAttr K (c.A k) f
structure MCal (P : Program) (w : World) (K : PySem.W.Frag) (mg : Str → Option Value) (base : Heap) (c : RCl ι) (okm : ι → Bool) (k : Nat) (m : Str) (ps : List Str) (sp : ι → Sp) : Prop where
  ex : ∀ i, okm i = true → ∃ (f : Addr) (fd : FuncData), Cls K (c.A i) ∧ Meth K (c.A i) m f ∧ FnOk P w K mg base CX0 k f fd ps (sp i) ∧ Binds K fd ps []
structure KCal (P : Program) (w : World) (K : PySem.W.Frag) (mg : Str → Option Value) (base : Heap) (k : Nat) (x : Str) (C : Addr) (ps : List Str) (sp : Sp) : Prop where
  ex : ∃ (f : Addr) (fd : FuncData), Mk K C f ∧ FnOk P w K mg base CX0 k f fd ps sp ∧ mg x = some (.ref C) ∧ Binds K fd ps []
end
section
variable {ι : Type} {X : Cx} {c : RCl ι} {o e value : Expr} {es : List Expr} {f x m : Str} {p pos pos' apos : Pos} {ta tv : TE} {t : TA} {okm : ι → Bool} {k n : Nat} {ps : List Str} {sp : ι → Sp} {sp1 : Sp} {C : Addr}
theorem pe_fldK (he : PE X e ta) (F : FldK X.K c f) (hb : attributeBase e f X.env (eval e X.env) = eval e X.env := by rfl) : PE X (.Attribute e f pos) (tFldK c ta f) := by
  intro pins s σ H Q I h
  refine attr_of hb (thn (he pins s σ H _ I h) fun u s1 ⟨x, H1, I1, rx, a, k, dx, fs, v, ex, hk, ea, l, q⟩ => ?_)
  subst ex
  obtain rfl : u = Value.ref a := rx
  obtain ⟨cl, na⟩ := F.ex k hk
  exact getattr_ok I1 ea cl na l fun u' s2 I2 ru => ⟨v, H1, I2, ru, q⟩
theorem ps_fldK (ha : PE X o ta) (hv : PE X value tv) (F : FldK X.K c f) (hs : swapsWith value (some (.Attribute o f pos')) pos.line X.env = pure false := by rfl) : PS X (.Assign [.Attribute o f pos'] value pos) (sFldK c ta tv f) := by
  intro pins s σ H D I h
  refine plainObj_wpAny_Assign_Attribute (thn (hv pins s σ H _ I h) fun u s1 ⟨y, H1, I1, ry, q⟩ => thn (ha pins s1 σ H1 _ I1 q) fun ov s2 ⟨x, H2, I2, rx, a, k, dx, fs, ex, hk, ea, l, q2⟩ => ?_) hs
  subst ex
  obtain rfl : ov = Value.ref a := rx
  obtain ⟨cl, na⟩ := F.ex k hk
  exact setattr_ok I2 ea cl na l ry fun s3 I3 => ⟨σ, _, I3, q2⟩
theorem pe_methK {pl : Sem Bool} (M : MCal X.prog X.w X.K X.mg X.base c okm k m ps sp) (hr : Room n X.A) (hk : k ≤ n) (he : PE X o ta) (ha : PA X (e :: es) t)
    (hst : starEach (e :: es) X.env = (false, eval e X.env) :: starEach es X.env := by rfl) (hpl : (backTo pos (starEach es X.env)).any (·.1) = false := by rfl)
    (ht : eval (.Call (.Attribute o m apos) (e :: es) [] pos) X.env = (do
      let ov ← eval o X.env
      standAt apos.atName
      let (f, first) ← holding [ov] (getMethod ov m pl)
      callWith pos f first (backTo pos (starEach (e :: es) X.env)) (backToKw pos (keywordEach [] X.env))) := by rfl) :
    PE X (.Call (.Attribute o m apos) (e :: es) [] pos) (tMethK c okm m sp ta t) := by
  intro pins s σ H Q I h
  refine PySem.W.methodCall_KW (pl := pl) (thn (he pins s σ H _ I h) fun u s1 ⟨x, H1, I1, rx, a, i, dx, fs, ex, hi, ea, l, q⟩ => ?_) ht
  subst ex
  obtain rfl : u = Value.ref a := rx
  obtain ⟨f, fd, cl, hm, F, hb⟩ := M.ex i hi
  refine getmeth_ok I1 ea cl hm l ?_
  refine PySem.W.callWith_K (first := [.ref a]) (h₀ := X.base) I.ok.mod.kin hm.kp (thn (ha pos pins s1 σ H1 _ I1 q) fun us s2 ⟨vs, H2, I2, r, q2⟩ => ⟨I2.kIn, ?_⟩) hst hpl
  exact run_fn (us := .ref a :: us) (vs := .ref a :: vs) F (hr.mono hk) hb .nil pass0 I2 (.cons rfl r) (by rw [List.append_nil]; exact q2)
theorem pe_methK0 {pl : Sem Bool} (M : MCal X.prog X.w X.K X.mg X.base c okm k m ps sp) (hr : Room n X.A) (hk : k ≤ n) (he : PE X o ta)
    (ht : eval (.Call (.Attribute o m apos) [] [] pos) X.env = (do
      let ov ← eval o X.env
      standAt apos.atName
      let (f, first) ← holding [ov] (getMethod ov m pl)
      callWith pos f first (backTo pos (starEach [] X.env)) (backToKw pos (keywordEach [] X.env))) := by rfl) :
    PE X (.Call (.Attribute o m apos) [] [] pos) (tMethK c okm m sp ta tNil) := by
  intro pins s σ H Q I h
  refine PySem.W.methodCall_KW (pl := pl) (thn (he pins s σ H _ I h) fun u s1 ⟨x, H1, I1, rx, a, i, dx, fs, ex, hi, ea, l, q⟩ => ?_) ht
  subst ex
  obtain rfl : u = Value.ref a := rx
  obtain ⟨f, fd, cl, hm, F, hb⟩ := M.ex i hi
  refine getmeth_ok I1 ea cl hm l ?_
  exact PySem.W.callWith_K0 (first := [.ref a]) I1.kIn hm.kp (run_fn (us := [.ref a]) (vs := [.ref a]) F (hr.mono hk) hb .nil pass0 I1 (.cons rfl .nil) q)
theorem pe_mk (M : KCal X.prog X.w X.K X.mg X.base k x C ps sp1) (hr : Room n X.A) (hk : k + 1 ≤ n) (hg : Gl X x) (ha : PA X (e :: es) t)
    (hdb : (x == ("__debug__" : Str)) = false := by decide) (he : starEach (e :: es) X.env = (false, eval e X.env) :: starEach es X.env := by rfl) (hpl : (backTo pos (starEach es X.env)).any (·.1) = false := by rfl) :
    PE X (.Call (.Name x p) (e :: es) [] pos) (tMake C sp1 [] E0 t) := by
  obtain ⟨f, fd, mk, F, hm, hb⟩ := M.ex
  exact pe_make mk F (hr.mono hk) hg hm hb .nil pass0 ha hdb he hpl
end
def kTuple (K : PySem.W.Frag) : List V → Hp → VK → Prop
  | [.ref p], H, Q => bnd (unM (H p)) fun ys => ∀ l, H l = none → Q (.ref l) (upd H l (.tup ys))
  | _, _, _ => False
def tInG (ws : List Str) (neg : Bool) (te : TE) : TE := fun σ H Q => te σ H fun x H1 => ∃ z, x = .str z ∧ Q (.bl (if neg then !decide (z ∈ ws) else decide (z ∈ ws))) H1
structure GTup (K : PySem.W.Frag) (mg : Str → Option Value) (x : Str) (ws : List Str) : Prop where
  ex : ∃ (p : Addr) (o : Obj) (its : Array Value) (n : Nat), mg x = some (.ref p) ∧ K.lookup p = some o ∧ o.cls = .type "tuple" ∧ o.data = .seq its n ∧ its.size ≤ sizeLine ∧ Vals (ws.map V.str) its.toList
theorem flat_strs : ∀ ns : List Str, (ns.map V.str).all flatV = true
  | [] => rfl
  | n :: r => by rw [List.map_cons, List.all_cons, flat_strs r]; rfl
theorem inV_strs (i : Str) : ∀ ns : List Str, inV (.str i) (ns.map V.str) = decide (i ∈ ns)
  | [] => by simp [inV]
  | n :: r => by
    have ih := inV_strs i r
    unfold inV at ih ⊢
    rw [List.map_cons, List.any_cons, ih]
    show ((n == i) || decide (i ∈ r)) = decide (i ∈ n :: r)
    rw [Bool.eq_iff_iff, Bool.or_eq_true, beq_iff_eq, decide_eq_true_eq, decide_eq_true_eq, List.mem_cons]
    exact ⟨fun h => h.elim (fun e => .inl e.symm) .inr, fun h => h.elim (fun e => .inl e.symm) .inr⟩
section
variable {X : Cx} {a : Expr} {ta : TE} {pos p : Pos} {x : Str} {ws : List Str}
theorem call_kTuple : CallR X (.type "tuple") (kTuple X.K) := by
  intro pins s σ H xs us Q I r h
  unfold kTuple at h
  split at h
  · obtain ⟨ys, e, q⟩ := bnd_ex h
    exact call_tuple_of pins s σ H _ us Q I r ⟨_, ys, rfl, .inl ⟨SqL.of (unM_ex e), q⟩⟩
  · exact h.elim
theorem op_inG {ws : List Str} {q : Addr} (hq : ∃ (o : Obj) (its : Array Value) (n : Nat), X.K.lookup q = some o ∧ o.cls = .type "tuple" ∧ o.data = .seq its n ∧ its.size ≤ sizeLine ∧ Vals (ws.map V.str) its.toList) :
    OpR X (compareOp .In) (fun x y H Q => ∃ z, x = .str z ∧ y = .ref q ∧ Q (.bl (decide (z ∈ ws))) H) := by
  intro pins s σ H x y v u Q I rx ry h
  obtain ⟨z, rfl, rfl, h⟩ := h
  refine op_in_seq pins s σ H _ _ v u Q I rx ry ⟨q, ws.map V.str, rfl, .inr (.inr hq), rfl, flat_strs ws, ?_⟩
  rw [inV_strs]
  exact h
theorem op_ninG {ws : List Str} {q : Addr} (hq : ∃ (o : Obj) (its : Array Value) (n : Nat), X.K.lookup q = some o ∧ o.cls = .type "tuple" ∧ o.data = .seq its n ∧ its.size ≤ sizeLine ∧ Vals (ws.map V.str) its.toList) :
    OpR X (compareOp .NotIn) (fun x y H Q => ∃ z, x = .str z ∧ y = .ref q ∧ Q (.bl (!decide (z ∈ ws))) H) := by
  intro pins s σ H x y v u Q I rx ry h
  obtain ⟨z, rfl, rfl, h⟩ := h
  refine op_notIn_seq pins s σ H _ _ v u Q I rx ry ⟨q, ws.map V.str, rfl, .inr (.inr hq), rfl, flat_strs ws, ?_⟩
  rw [inV_strs]
  exact h
end
section
variable {ι : Type} {c : RCl ι} {ta tv : TE} {t : TA} {f m : Str} {σ : St} {H : Hp} {Q : VK} {D : Ends} {okm : ι → Bool} {sp : ι → Sp} {sp1 : Sp} {C : Addr} {K : PySem.W.Frag}
theorem w_sfldK : sFldK c ta tv f D σ H = tv σ H fun y H1 => ta σ H1 fun x H2 => ∃ a k dx fs, x = .ref a ∧ c.ok k = true ∧ H2 a = some (.ins (c.A k) dx fs) ∧ fs.length < 1000 ∧ D.nx σ (upd H2 a (.ins (c.A k) dx (putF f y fs))) := rfl
theorem w_make : tMake C sp1 [] E0 t σ H Q = t σ H fun vs H1 => ∀ x dx, H1 x = none → H1 dx = none → dx ≠ x → sp1 (.ref x :: (vs ++ [])) (upd (upd H1 dx (.own x)) x (.ins C dx [])) (fun v H2 => v = .non ∧ Q (.ref x) H2) E0 := rfl
theorem w_inG {ws : List Str} {neg : Bool} {te : TE} : tInG ws neg te σ H Q = te σ H fun x H1 => ∃ z, x = .str z ∧ Q (.bl (if neg then !decide (z ∈ ws) else decide (z ∈ ws))) H1 := rfl
theorem w_tuple {p : Addr} {xs : List V} (hp : H p = some (.lst xs)) (h : ∀ l, H l = none → Q (.ref l) (upd H l (.tup xs))) : kTuple K [.ref p] H Q := by
  unfold kTuple
  dsimp only
  rw [hp]
  exact h
end
end L2
set_option Elab.async false
set_option linter.all false
set_option maxRecDepth 100000
namespace L2
open PySem PySem.Spec PyProof.Rows
def cntD (ns : List Int) : Nat := (firstMet (fun i => ns.getD i 0) ns.length).length
def tLenSet (te : TE) : TE := fun σ H Q => te σ H fun x H1 => ∃ p ns, x = .ref p ∧ H1 p = some (.lst (ns.map V.int)) ∧ ns.length ≤ 900 ∧ Q (.int (cntD ns : Nat)) H1
theorem w_lenset {te : TE} {σ : St} {H : Hp} {Q : VK} : tLenSet te σ H Q = te σ H fun x H1 => ∃ p ns, x = .ref p ∧ H1 p = some (.lst (ns.map V.int)) ∧ ns.length ≤ 900 ∧ Q (.int (cntD ns : Nat)) H1 := rfl
theorem bt_set' : bootBuiltins "set" = some (.type "set") := by decide +kernel
theorem pe_lenset {X : Cx} {e : Expr} {te : TE} {p p2 pos pos2 : Pos} (hc : X.calm = true) (hgl : Gl X "len") (hgs : Gl X "set") (hl : X.mg "len" = none) (hs : X.mg "set" = none) (he : PE X e te)
    (hs1 : starEach [.Call (.Name "set" p2) [e] [] pos2] X.env = [(false, eval (.Call (.Name "set" p2) [e] [] pos2) X.env)] := by rfl) (hs2 : starEach [e] X.env = [(false, eval e X.env)] := by rfl) :
    PE X (.Call (.Name "len" p) [.Call (.Name "set" p2) [e] [] pos2] [] pos) (tLenSet te) := by
  intro pins s σ H Q I h
  refine wpAny_Call_Name_kw (ld_blt I hgl hl bt_len ?_ (by decide) (by decide))
  refine PyProof.Rows.callWith_builtin1 ?_ hs1 rfl
  rw [hs1]
  show wpAny _ _ (spliced [(false, eval (.Call (.Name "set" p2) [e] [] pos2) X.env)]) _ _ s
  refine Calls.spliced_cons ?_
  refine wpAny_Call_Name_kw (ld_blt I hgs hs bt_set' ?_ (by decide) (by decide))
  refine PyProof.Rows.callWith_type1 ?_ hs2 rfl
  rw [hs2]
  show wpAny _ _ (spliced [(false, eval e X.env)]) _ _ s
  refine Calls.spliced_cons (thn (he pins s σ H _ I h) fun u s1 ⟨x, H1, I1, r1, q1⟩ => ?_)
  refine Calls.spliced_nil ?_
  obtain ⟨l, ns, rfl, hys, hn, q⟩ := q1
  cases r1
  obtain ⟨its, n, rv, ho, hz⟩ := I1.lst hys
  have hL : s1.heap.IsList l its.toArray := ⟨_, ho, rfl, n, rfl⟩
  have hI : IntsAre its ns := intsAre_of rv
  have hlen := rv.length
  rw [List.length_map] at hlen
  refine call_set_list (ns := ns) (I.ok.hd hc) hL (by simpa using hI) (by rw [List.size_toArray, ← hlen]; exact Nat.lt_of_le_of_lt (Nat.succ_le_succ hn) (by decide)) fun h' tk hS old => ?_
  refine Calls.spliced_nil ?_
  obtain ⟨o, es, ep, t, h1, h2, h3, h4, h5, h6, h7, h8⟩ := hS
  have hb : (firstMet (fun i => ns.getD i 0) its.toArray.size).length ≤ 900 := Nat.le_trans (firstMet_length_le _ _) (by rw [List.size_toArray, ← hlen]; exact hn)
  refine call_len_set h1 h2 h3 h7 (by omega) ?_
  have I2 : Inv X pins σ H1 { s1 with heap := h', toks := tk } := I1.kept fun b o' e => old b o' (Heap.lt_size e) e
  refine ⟨.int _, H1, I2.tok _, ⟨_, rfl⟩, ?_⟩
  rw [h8, List.size_toArray, ← hlen]
  exact q
def kJoin2 : V → List V → Hp → VK → Prop
  | .str sep, [.ref p], H, Q => bnd (unS (H p)) fun ys => ∃ ts : List Str, ys = ts.map V.str ∧ JoinOk sep ts = true ∧ Q (.str (Txt.join sep ts)) H
  | _, _, _, _ => False
theorem mt_kJoin2 {X : Cx} : MtR X "str.join" kJoin2 := by
  intro pins s σ H x vs v us Q I rx rv h
  unfold kJoin2 at h
  split at h
  · rename_i sep p
    obtain ⟨ys, e, ts, rfl, hok, q⟩ := bnd_ex h
    rcases unS_sq (K := X.K) e with hq | hq
    · obtain ⟨t, rfl⟩ := rx
      obtain ⟨u, rfl, ru⟩ := vals1 rv
      cases ru
      obtain ⟨its, rvv, pl, hz⟩ := I.list hq
      obtain ⟨l, rfl, hl⟩ := strs_of rvv
      exact SC.join pl.isList hl hok fun t' k => ⟨.str _, H, I.tok k, ⟨t', rfl⟩, q⟩
    · obtain ⟨t, rfl⟩ := rx
      obtain ⟨u, rfl, ru⟩ := vals1 rv
      cases ru
      obtain ⟨its, rvv, pl, hz⟩ := I.tuple hq
      obtain ⟨l, rfl, hl⟩ := strs_of rvv
      subst hl
      obtain ⟨o, h1, h2, n, h3⟩ := pl
      have hok' := hok
      unfold JoinOk at hok'
      rw [Bool.not_eq_true'] at hok'
      exact call_meets F.slot_str_join (typeIs_str _ _ _) F.entry_str_join (F.args_str_join_2 _ _) (meets_str_join_tuple sep t p l hok') ⟨⟨o, n, h1, h2, h3⟩, post_join l ⟨joinFit_length hok', fun t' k => ⟨.str _, H, I.tok k, ⟨t', rfl⟩, q⟩⟩⟩
  · exact h.elim
end L2
set_option Elab.async false
set_option linter.all false
set_option maxRecDepth 100000
namespace L2
open PySem PySem.Spec PyProof.Rows
section
variable {X : Cx} {e : Expr} {te : TE} {p2 p3 p4 pos : Pos} {z0 : Nat}
def tRevL (te : TE) : TE := fun σ H Q => te σ H fun x H1 => ∃ p xs, x = .ref p ∧ H1 p = some (.lst xs) ∧ ∀ l, H1 l = none → Q (.ref l) (upd H1 l (.lst xs.reverse))
end
section
variable {σ : St} {H : Hp} {Q : VK} {te : TE}
theorem w_max {i j : Int} {H : Hp} {Q : VK} : kMax [.int i, .int j] H Q = Q (.int (if j > i then j else i)) H := rfl
theorem w_revL : tRevL te σ H Q = te σ H fun x H1 => ∃ p xs, x = .ref p ∧ H1 p = some (.lst xs) ∧ ∀ l, H1 l = none → Q (.ref l) (upd H1 l (.lst xs.reverse)) := rfl
end
end L2
set_option Elab.async false
set_option linter.all false
set_option maxRecDepth 100000
namespace L2
open PySem PySem.Spec PyProof.Rows
theorem str_no_int : typeLookup (.type "str") (Str.ofString "__int__") = pure none := by rw [typeLookup_type, builtinLookup_eq_fast]; kernel_rfl
theorem str_no_index : typeLookup (.type "str") (Str.ofString "__index__") = pure none := by rw [typeLookup_type, builtinLookup_eq_fast]; kernel_rfl
theorem str_no_trunc : typeLookup (.type "str") (Str.ofString "__trunc__") = pure none := by rw [typeLookup_type, builtinLookup_eq_fast]; kernel_rfl
def numC (n : Nat) : List Nat := if n < 10 then [48 + n] else [48 + n / 10, 48 + n % 10]
theorem num_ascii {n : Nat} (h : n < 100) : ((tx (numC n)).cps.all fun x => decide (x < 128)) = true := by
  have t : ((List.range 100).all fun n => (tx (numC n)).cps.all fun x => decide (x < 128)) = true := by decide +kernel
  exact List.all_eq_true.mp t n (List.mem_range.mpr h)
theorem wpAny_eqm {α : Type} {M : Model} {A : Around} {E : Value → Shared → Prop} {s : Shared} {Q : α → Shared → Prop} {m m' : Sem α} (e : m = m') (h : wpAny M A m' Q E s) : wpAny M A m Q E s := e ▸ h
set_option maxHeartbeats 4000000 in
theorem gis (n : Nat) (hn : n < 100) (u : Tok) : Gives (Builtin.«int.__new__» ⟨[.type "int", .str (tx (numC n)) u], []⟩) (.int n) :=
  .of_wp fun M A E s Q h => by
    obtain ⟨hp, g, d, tk, os⟩ := s
    have f1 := PySem.F.conv_sub_int
    have f2 := PySem.F.madeHere_int
    have f3 := str_no_int
    have f4 := str_no_index
    have f5 := str_no_trunc
    iterate 44 (any_goals (first | assumption | wp_step))
    refine wpAny_bind (wpAny_of_eq (a := some (tx (numC n))) rfl ?_)
    refine wpAny_of_eq (a := some (numC n)) ?e1 ?_
    case e1 =>
      show (pure (some (if ((tx (numC n)).cps.all fun x => decide (x < 128)) = true then (tx (numC n)).cps.toList else _)) : Sem _) = _
      rw [if_pos (num_ascii hn), tx_cps]
    refine wpAny_eqm (m' := mkInt (n : Int)) ?e2 ?_
    case e2 =>
      clear h f1 f2 f3 f4 f5
      match n, hn with | 0, _ => kernel_rfl | 1, _ => kernel_rfl | 2, _ => kernel_rfl | 3, _ => kernel_rfl | 4, _ => kernel_rfl | 5, _ => kernel_rfl | 6, _ => kernel_rfl | 7, _ => kernel_rfl | 8, _ => kernel_rfl | 9, _ => kernel_rfl | 10, _ => kernel_rfl | 11, _ => kernel_rfl | 12, _ => kernel_rfl | 13, _ => kernel_rfl | 14, _ => kernel_rfl | 15, _ => kernel_rfl | 16, _ => kernel_rfl | 17, _ => kernel_rfl | 18, _ => kernel_rfl | 19, _ => kernel_rfl | 20, _ => kernel_rfl | 21, _ => kernel_rfl | 22, _ => kernel_rfl | 23, _ => kernel_rfl | 24, _ => kernel_rfl | 25, _ => kernel_rfl | 26, _ => kernel_rfl | 27, _ => kernel_rfl | 28, _ => kernel_rfl | 29, _ => kernel_rfl | 30, _ => kernel_rfl | 31, _ => kernel_rfl | 32, _ => kernel_rfl | 33, _ => kernel_rfl | 34, _ => kernel_rfl | 35, _ => kernel_rfl | 36, _ => kernel_rfl | 37, _ => kernel_rfl | 38, _ => kernel_rfl | 39, _ => kernel_rfl | 40, _ => kernel_rfl | 41, _ => kernel_rfl | 42, _ => kernel_rfl | 43, _ => kernel_rfl | 44, _ => kernel_rfl | 45, _ => kernel_rfl | 46, _ => kernel_rfl | 47, _ => kernel_rfl | 48, _ => kernel_rfl | 49, _ => kernel_rfl | 50, _ => kernel_rfl | 51, _ => kernel_rfl | 52, _ => kernel_rfl | 53, _ => kernel_rfl | 54, _ => kernel_rfl | 55, _ => kernel_rfl | 56, _ => kernel_rfl | 57, _ => kernel_rfl | 58, _ => kernel_rfl | 59, _ => kernel_rfl | 60, _ => kernel_rfl | 61, _ => kernel_rfl | 62, _ => kernel_rfl | 63, _ => kernel_rfl | 64, _ => kernel_rfl | 65, _ => kernel_rfl | 66, _ => kernel_rfl | 67, _ => kernel_rfl | 68, _ => kernel_rfl | 69, _ => kernel_rfl | 70, _ => kernel_rfl | 71, _ => kernel_rfl | 72, _ => kernel_rfl | 73, _ => kernel_rfl | 74, _ => kernel_rfl | 75, _ => kernel_rfl | 76, _ => kernel_rfl | 77, _ => kernel_rfl | 78, _ => kernel_rfl | 79, _ => kernel_rfl | 80, _ => kernel_rfl | 81, _ => kernel_rfl | 82, _ => kernel_rfl | 83, _ => kernel_rfl | 84, _ => kernel_rfl | 85, _ => kernel_rfl | 86, _ => kernel_rfl | 87, _ => kernel_rfl | 88, _ => kernel_rfl | 89, _ => kernel_rfl | 90, _ => kernel_rfl | 91, _ => kernel_rfl | 92, _ => kernel_rfl | 93, _ => kernel_rfl | 94, _ => kernel_rfl | 95, _ => kernel_rfl | 96, _ => kernel_rfl | 97, _ => kernel_rfl | 98, _ => kernel_rfl | 99, _ => kernel_rfl | (m + 100), hm => exact absurd hm (by omega)
    repeat (any_goals (first | assumption | wp_step))
    all_goals first | exact ⟨_, rfl, h⟩ | skip
def kInt2 : List V → Hp → VK → Prop
  | [.int i], H, Q => Q (.int i) H
  | [.bl k], H, Q => Q (.int (if k then 1 else 0)) H
  | [.str z], H, Q => ∃ n : Nat, n < 100 ∧ z = tx (numC n) ∧ Q (.int n) H
  | _, _, _ => False
theorem call_kInt2 {X : Cx} : CallR X (.type "int") kInt2 := by
  intro pins s σ H xs us Q I r h
  unfold kInt2 at h
  split at h
  · exact call_int1 pins s σ H _ us Q I r (.inl ⟨_, rfl, h⟩)
  · exact call_int1 pins s σ H _ us Q I r (.inr ⟨_, rfl, h⟩)
  · obtain ⟨n, hn, rfl, q⟩ := h
    obtain ⟨u, rfl, ru⟩ := vals1 r
    obtain ⟨t, rfl⟩ := ru
    exact call_int_1 (gis n hn t).meets (show (Made.int (n : Int)).post _ s from ⟨rfl, ⟨.int n, H, I.tok _, ⟨_, rfl⟩, q⟩⟩)
  · exact h.elim
theorem w_int2B {k : Bool} {H : Hp} {Q : VK} : kInt2 [.bl k] H Q = Q (.int (if k then 1 else 0)) H := rfl
theorem w_int2I {i : Int} {H : Hp} {Q : VK} : kInt2 [.int i] H Q = Q (.int i) H := rfl
theorem num_str {n : Nat} (h : n < 100) : Str.ofString (toString (n : Int)) = tx (numC n) := by
  have t : ((List.range 100).all fun (n : Nat) => decide (Str.ofString (toString (n : Int)) = tx (numC n))) = true := by decide +kernel
  simpa using List.all_eq_true.mp t n (List.mem_range.mpr h)
theorem num_free {n : Nat} (h : n < 100) : 32 ∉ numC n := by
  have t : ((List.range 100).all fun (n : Nat) => decide (32 ∉ numC n)) = true := by decide +kernel
  simpa using List.all_eq_true.mp t n (List.mem_range.mpr h)
theorem num_ne {n : Nat} (h : n < 100) : numC n ≠ [] := by unfold numC; split <;> simp
theorem num_len {n : Nat} : (numC n).length ≤ 2 := by unfold numC; split <;> simp
theorem num_head {n : Nat} (h : n < 100) : ((numC n).head? = some 48 → n = 0) ∧ numC 0 = [48] := by
  have t : ((List.range 100).all fun (n : Nat) => decide ((numC n).head? = some 48 → n = 0)) = true := by decide +kernel
  exact ⟨of_decide_eq_true (List.all_eq_true.mp t n (List.mem_range.mpr h)), rfl⟩
theorem num_dig {n : Nat} (h : n < 100) : ∀ c ∈ numC n, 48 ≤ c ∧ c ≤ 57 := by
  have t : ((List.range 100).all fun (n : Nat) => (numC n).all fun c => decide (48 ≤ c ∧ c ≤ 57)) = true := by decide +kernel
  intro c hc
  simpa using List.all_eq_true.mp (List.all_eq_true.mp t n (List.mem_range.mpr h)) c hc
end L2
set_option Elab.async false
set_option linter.all false
set_option maxRecDepth 100000
namespace L2
open PySem PySem.Spec PyProof.Rows
local macro_rules | `(tactic| walk_at "w") => `(tactic| (first | simp only [w_seq, w_next, w_asg, w_gname, w_var0, w_varS, w_c, w_op, w_ret, w_retN, w_drop, w_test, w_b, w_not, w_and, w_or, w_notV, w_andV, w_orV, w_nil, w_cons, w_cb, w_call, w_tup, w_lst, w_bm, w_bm0, w_true, w_dnew, w_dput, w_forL, w_forR1, w_forR2, w_compL, w_compR1, w_scompL, w_scompR1, w_add, w_sub, w_mul, w_div, w_mod, w_cmp, w_eqI, w_neI, w_eqB, w_neB, w_abs, w_min, w_sl, w_part, w_nopart, w_gsub, w_un, w_forS, w_compS, w_scompS, w_eqS, w_neS, w_lenS, w_addS, w_find,
  List.getElem?_cons_zero, List.getElem?_cons_succ, Option.some.injEq, exists_eq_left', exists_eq_left, List.set_cons_zero, List.set_cons_succ, bnd_some, V.int.injEq, V.bl.injEq, V.ref.injEq, V.str.injEq, List.nil_append, List.cons_append] | dsimp only | skip))
def sp_many_cells (K : PySem.W.Frag) : Sp := fun vs H Q _ => ∃ (a : Addr) (h w g : Int), vs = [.ref a] ∧ IsFl H a h w g ∧ 1 ≤ h ∧ h ≤ 6 ∧ Q (.int (h * w)) H
theorem sl_many_cells {K : PySem.W.Frag} {vs : List V} {H : Hp} {Q : VK} {E : XK} (h : sp_many_cells K vs H Q E) : vs.length = 1 := by
  obtain ⟨_, _, _, _, rfl, _⟩ := h; rfl
def rd_many_cells (K : PySem.W.Frag) : TS :=
  (tRet (tOp cMul (tOp cIx (tVar 0) (tC (.int 0))) (tOp cIx (tVar 0) (tC (.int 1)))))
theorem rk_many_cells {K : PySem.W.Frag} {vs : List V} {H : Hp} {Q : VK} {E : XK} (h : sp_many_cells K vs H Q E) : rd_many_cells K { nx := fun _ H' => Q .non H', rt := Q } (start ["floor"] vs) H := by
  obtain ⟨a, h, w, g, rfl, ha, h0, h1, q⟩ := h
  show rd_many_cells K _ [some (.ref a)] H
  unfold rd_many_cells
  walk_at "w"
  rw [w_ix ha]
  refine bnd_of (a := V.int h) rfl ?_
  walk_at "w"
  rw [w_ix ha]
  refine bnd_of (a := V.int w) rfl ?_
  walk_at "w"
  exact ⟨mul_small h0 h1, q⟩
end L2
set_option Elab.async false
set_option linter.all false
set_option maxRecDepth 100000
namespace L2
open PySem PySem.Spec PyProof.Rows
local macro_rules | `(tactic| walk_at "w") => `(tactic| (first | simp only [w_seq, w_make, w_inG, w_lenset, w_revL, w_int2B, w_int2I, w_max, w_isN, w_notN, w_pow, if_true, if_false, Bool.false_eq_true, decide_true, decide_false, w_lrng1, w_lrng2, w_ifE, w_compR2, w_scompR2, w_forRD, w_forE, w_compE, w_scompE, w_intB, w_intI, w_bitlen, w_shr, w_isi_ii, w_isi_ib, w_isi_bb, w_isi_bi, w_isi_ss, w_isi_bs, w_isi_is, w_iteT, w_iteF, w_negE, w_bitI, w_str, Bool.not_true, Bool.not_false, w_next, w_asg, w_gname, w_var0, w_varS, w_c, w_op, w_ret, w_retN, w_drop, w_test, w_b, w_not, w_and, w_or, w_notV, w_andV, w_orV, w_nil, w_cons, w_cb, w_call, w_tup, w_lst, w_bm, w_bm0, w_true, w_dnew, w_dput, w_forL, w_forR1, w_forR2, w_compL, w_compR1, w_scompL, w_scompR1, w_add, w_sub, w_mul, w_div, w_mod, w_cmp, w_eqI, w_neI, w_eqB, w_neB, w_abs, w_min, w_sl, w_part, w_nopart, w_gsub, w_un, w_forS, w_compS, w_scompS, w_eqS, w_neS, w_lenS, w_addS, w_find,
  List.getElem?_cons_zero, List.getElem?_cons_succ, Option.some.injEq, exists_eq_left', exists_eq_left, List.set_cons_zero, List.set_cons_succ, bnd_some, V.int.injEq, V.bl.injEq, V.ref.injEq, V.str.injEq, List.nil_append, List.cons_append] | dsimp only | skip))
def nmC : RK → List Nat
  | .Rule => []
  | .Unlike => [117, 110, 108, 105, 107, 101]
  | .Sum => [115, 117, 109]
  | .Rising => [114, 105, 115, 105, 110, 103]
  | .Seen => [115, 101, 101, 110]
  | .Count => [99, 111, 117, 110, 116]
  | .Joined => [106, 111, 105, 110, 101, 100]
  | .NoSquare => [110, 111, 115, 113, 117, 97, 114, 101]
  | .Ring => [114, 105, 110, 103]
def gt_WITH_NUMBER : List Str := [tx [115, 117, 109], tx [115, 101, 101, 110], tx [99, 111, 117, 110, 116]]
def gt_WITH_SIGN : List Str := [tx [99, 111, 117, 110, 116], tx [106, 111, 105, 110, 101, 100], tx [110, 111, 115, 113, 117, 97, 114, 101], tx [114, 105, 110, 103]]
def gt_OF_ALL_CELLS : List Str := [tx [106, 111, 105, 110, 101, 100], tx [110, 111, 115, 113, 117, 97, 114, 101], tx [114, 105, 110, 103]]
def rFs (p W C : Addr) (n m : Int) : List (Str × V) := [("floor", .ref p), ("words", .ref W), ("cells", .ref C), ("amount", .int n), ("mark", .int m)]
structure IsRule (H : Hp) (c : RCl RK) (k : RK) (r p : Addr) (ws : List (List Nat)) (cs : List Int) (n m : Int) : Prop where
  ok : c.ok k = true
  ex : ∃ dx W C, H r = some (.ins (c.A k) dx (rFs p W C n m)) ∧ H W = some (.tup ((ws.map tx).map V.str)) ∧ H C = some (.tup (cs.map V.int))
theorem IsRule.same {H H' : Hp} {c : RCl RK} {k : RK} {r p : Addr} {ws : List (List Nat)} {cs : List Int} {n m : Int} (x : IsRule H c k r p ws cs n m) (s : Same H H') : IsRule H' c k r p ws cs n m := by
  obtain ⟨dx, W, C, h1, h2, h3⟩ := x.ex
  exact ⟨x.ok, dx, W, C, s _ _ h1, s _ _ h2, s _ _ h3⟩
section
variable {ι : Type} {c : RCl ι} {σ : St} {H : Hp} {Q : VK} {i : Nat} {r dx : Addr} {k : ι} {fs : List (Str × V)} {f m : Str} {v : V} {okm : ι → Bool} {sp : ι → Sp} {t : TA} {D : Ends} {tv : TE} {y : V} {H1 : Hp}
theorem fldE (hσ : σ[i]? = some (some (.ref r))) (ok : c.ok k = true) (hr : H r = some (.ins (c.A k) dx fs)) (hl : fs.lookup f = some v) (q : Q v H) : tFldK c (tVar i) f σ H Q := vB_of hσ ⟨r, k, dx, fs, v, rfl, ok, hr, hl, q⟩
theorem methE (hσ : σ[i]? = some (some (.ref r))) (ok : okm k = true) (hr : H r = some (.ins (c.A k) dx fs)) (hl : fs.lookup m = none) (q : t σ H fun vs H2 => sp k (.ref r :: vs) H2 Q E0) : tMethK c okm m sp (tVar i) t σ H Q := vB_of hσ ⟨r, k, dx, fs, rfl, ok, hr, hl, q⟩
theorem sfldV {j : Nat} {x : V} (hj : σ[j]? = some (some x)) (hσ : σ[i]? = some (some (.ref r))) (ok : c.ok k = true) (hr : H r = some (.ins (c.A k) dx fs)) (hn : fs.length < 1000) (q : D.nx σ (upd H r (.ins (c.A k) dx (putF f x fs)))) : sFldK c (tVar i) (tVar j) f D σ H :=
  vB_of hj (vB_of hσ ⟨r, k, dx, fs, rfl, ok, hr, hn, q⟩)
theorem sfldT {K : PySem.W.Frag} {j : Nat} {p : Addr} {xs : List V} (hj : σ[j]? = some (some (.ref p))) (hp : H p = some (.lst xs)) (hσ : σ[i]? = some (some (.ref r))) (ok : c.ok k = true) (hr : H r = some (.ins (c.A k) dx fs)) (hn : fs.length < 1000)
    (q : ∀ l, H l = none → D.nx σ (upd (upd H l (.tup xs)) r (.ins (c.A k) dx (putF f (.ref l) fs)))) : sFldK c (tVar i) (tCB (kTuple K) (tCons (tVar j) tNil)) f D σ H := by
  unfold sFldK
  walk_at "w"
  refine vB_of hj (w_tuple hp fun l hl => ?_)
  exact vB_of hσ ⟨r, k, dx, fs, rfl, ok, by rw [upd_ne (ne_of_none hr hl)]; exact hr, hn, q l hl⟩
end
theorem w_joinT {H : Hp} {Q : VK} {sep : Str} {p : Addr} {ts : List Str} (hp : H p = some (.tup (ts.map V.str))) (hok : JoinOk sep ts = true) (h : Q (.str (Txt.join sep ts)) H) : kJoin2 (.str sep) [.ref p] H Q := by
  unfold kJoin2
  dsimp only
  rw [hp]
  exact ⟨ts, rfl, hok, h⟩
theorem w_joinL {H : Hp} {Q : VK} {sep : Str} {p : Addr} {ts : List Str} (hp : H p = some (.lst (ts.map V.str))) (hok : JoinOk sep ts = true) (h : Q (.str (Txt.join sep ts)) H) : kJoin2 (.str sep) [.ref p] H Q := by
  unfold kJoin2
  dsimp only
  rw [hp]
  exact ⟨ts, rfl, hok, h⟩
def sp_line (K : PySem.W.Frag) (c : RCl RK) (k : RK) : Sp := fun vs H Q _ => ∃ (r p : Addr) (ws : List (List Nat)) (cs : List Int) (n m : Int), vs = [.ref r] ∧ IsRule H c k r p ws cs n m ∧ ws.length ≤ 100 ∧ (∀ w ∈ ws, w.length ≤ 100) ∧ Q (.str (tx (catL 32 ws))) H
def sp_Rule___init__ (K : PySem.W.Frag) (c : RCl RK) : Sp := fun vs H Q _ => ∃ (k : RK) (x dx p W C : Addr) (ws : List (List Nat)) (cs : List Int) (n m : Int), vs = [.ref x, .ref p, .ref W, .ref C, .int n, .int m] ∧ c.ok k = true ∧ H x = some (.ins (c.A k) dx []) ∧ W ≠ x ∧ C ≠ x ∧
  H W = some (.lst ((ws.map tx).map V.str)) ∧ H C = some (.lst (cs.map V.int)) ∧ ∀ H', (∀ b o, b ≠ x → H b = some o → H' b = some o) → IsRule H' c k x p ws cs n m → Q .non H'
theorem sl_Rule___init__ {K : PySem.W.Frag} {c : RCl RK} {vs : List V} {H : Hp} {Q : VK} {E : XK} (h : sp_Rule___init__ K c vs H Q E) : vs.length = 6 := by
  obtain ⟨_, _, _, _, _, _, _, _, _, _, rfl, _⟩ := h; rfl
def rd_Rule___init__ (K : PySem.W.Frag) (c : RCl RK) : TS :=
  (tSeq (sFldK c (tVar 0) (tVar 1) "floor")
    (tSeq (sFldK c (tVar 0) (tCB (kTuple K) (tCons (tVar 2) tNil)) "words")
    (tSeq (sFldK c (tVar 0) (tCB (kTuple K) (tCons (tVar 3) tNil)) "cells")
    (tSeq (sFldK c (tVar 0) (tVar 4) "amount")
    (sFldK c (tVar 0) (tVar 5) "mark")))))
theorem rk_Rule___init__ {K : PySem.W.Frag} {c : RCl RK} {vs : List V} {H : Hp} {Q : VK} {E : XK} (h : sp_Rule___init__ K c vs H Q E) : rd_Rule___init__ K c { nx := fun _ H' => Q .non H', rt := Q } (start ["self", "floor", "words", "cells", "amount", "mark"] vs) H := by
  obtain ⟨k, x, dx, p, W, C, ws, cs, n, m, rfl, ok, hx, nW, nC, hW, hC, q⟩ := h
  show rd_Rule___init__ K c _ [some (.ref x), some (.ref p), some (.ref W), some (.ref C), some (.int n), some (.int m)] H
  unfold rd_Rule___init__
  walk_at "w"
  refine sfldV (k := k) (j := 1) rfl rfl ok hx (by decide) ?_
  walk_at "w"
  refine sfldT (k := k) (j := 2) (p := W) rfl (by rw [upd_ne nW]; exact hW) rfl ok upd_same (by show (1 : Nat) < 1000; decide) fun l1 h1 => ?_
  have n1 : l1 ≠ x := fun e => by rw [e, upd_same] at h1; cases h1
  have g1 : H l1 = none := by rw [upd_ne n1] at h1; exact h1
  walk_at "w"
  refine sfldT (k := k) (j := 3) (p := C) rfl (by rw [upd_ne nC, upd_ne (ne_of_none hC g1), upd_ne nC]; exact hC) rfl ok upd_same (by show (2 : Nat) < 1000; decide) fun l2 h2 => ?_
  have n2 : l2 ≠ x := fun e => by rw [e, upd_same] at h2; cases h2
  have n21 : l2 ≠ l1 := fun e => by rw [e, upd_ne n1, upd_same] at h2; cases h2
  have g2 : H l2 = none := by rw [upd_ne n2, upd_ne n21, upd_ne n2] at h2; exact h2
  walk_at "w"
  refine sfldV (k := k) (j := 4) rfl rfl ok upd_same (by show (3 : Nat) < 1000; decide) ?_
  walk_at "w"
  refine sfldV (k := k) (j := 5) rfl rfl ok upd_same (by show (4 : Nat) < 1000; decide) ?_
  refine q _ (fun b o hb e => ?_) ⟨ok, dx, l1, l2, by rw [upd_same]; rfl, ?_, ?_⟩
  · rw [upd_ne hb, upd_ne hb, upd_ne hb, upd_ne (ne_of_none e g2), upd_ne hb, upd_ne (ne_of_none e g1), upd_ne hb]
    exact e
  · rw [upd_ne n1, upd_ne n1, upd_ne n1, upd_ne n21.symm, upd_ne n1, upd_same]
  · rw [upd_ne n2, upd_ne n2, upd_ne n2, upd_same]
def sp_Rule_line (K : PySem.W.Frag) (c : RCl RK) : Sp := fun vs H Q E => ∃ k, sp_line K c k vs H Q E
theorem sl_Rule_line {K : PySem.W.Frag} {c : RCl RK} {vs : List V} {H : Hp} {Q : VK} {E : XK} (h : sp_Rule_line K c vs H Q E) : vs.length = 1 := by
  obtain ⟨_, _, _, _, _, _, _, rfl, _⟩ := h; rfl
def rd_Rule_line (K : PySem.W.Frag) (c : RCl RK) : TS :=
  (tRet (tBM K "str" kJoin2 (tC (.str (tx [32]))) (tCons (tFldK c (tVar 0) "words") tNil)))
theorem rk_Rule_line {K : PySem.W.Frag} {c : RCl RK} {vs : List V} {H : Hp} {Q : VK} {E : XK} (h : sp_Rule_line K c vs H Q E) : rd_Rule_line K c { nx := fun _ H' => Q .non H', rt := Q } (start ["self"] vs) H := by
  obtain ⟨k, r, p, ws, cs, n, m, rfl, x, hn, hw, q⟩ := h
  obtain ⟨dx, W, C, h1, h2, h3⟩ := x.ex
  show rd_Rule_line K c _ [some (.ref r)] H
  unfold rd_Rule_line
  walk_at "w"
  refine ⟨w_tyS, fldE rfl x.ok h1 (v := .ref W) (by rfl) ?_⟩
  walk_at "w"
  refine w_joinT h2 (joinOk_small (by rw [List.length_map]; omega) (fun t ht => by obtain ⟨y, hy, rfl⟩ := List.mem_map.mp ht; rw [tx_len]; have := hw y hy; omega) (by rw [tx_len]; decide)) ?_
  rw [Txt_join, join_tx]
  exact q
def sp_number_in (K : PySem.W.Frag) : Sp := fun vs H Q _ => ∃ n : Nat, vs = [.str (tx (numC n))] ∧ n < 100 ∧ ∀ H', Same H H' → Q (.int n) H'
theorem sl_number_in {K : PySem.W.Frag} {vs : List V} {H : Hp} {Q : VK} {E : XK} (h : sp_number_in K vs H Q E) : vs.length = 1 := by
  obtain ⟨_, rfl, _⟩ := h; rfl
def rd_number_in (K : PySem.W.Frag) : TS :=
  (tSeq (tIfS (tOr (tTest (tOp (cEq K) (tVar 0) (tC (.str (tx []))))) (tOr (tTest (tOp (cCmp fun i j => decide (j < i)) (tCB kLen (tCons (tVar 0) tNil)) (tC (.int 9)))) (tAnd (tTest (tOp (cEq K) (tOp cIx (tVar 0) (tC (.int 0))) (tC (.str (tx [48]))))) (tTest (tOp (cNe K) (tVar 0) (tC (.str (tx [48])))))))) (tRet (tC .non)) tNext)
    (tSeq (tIfS (tNot (tB (tCB kAll (tCons (tComp [none, none] (iStr (tVar 0)) (gName 1) tTrue (tOp (cIn K false) (tVar 1) (tC (.str (tx [48, 49, 50, 51, 52, 53, 54, 55, 56, 57]))))) tNil)))) (tRet (tC .non)) tNext)
    (tRet (tCB kInt2 (tCons (tVar 0) tNil)))))
theorem dig_in {c : Nat} (h0 : 48 ≤ c) (h1 : c ≤ 57) : (!(Builtin.Str.occurrences (tx [48, 49, 50, 51, 52, 53, 54, 55, 56, 57]) ⟨#[c]⟩ 0 (tx [48, 49, 50, 51, 52, 53, 54, 55, 56, 57]).length 1).isEmpty) = true := by
  have t : ((List.range 58).all fun c => !decide (48 ≤ c) || !(Builtin.Str.occurrences (tx [48, 49, 50, 51, 52, 53, 54, 55, 56, 57]) ⟨#[c]⟩ 0 (tx [48, 49, 50, 51, 52, 53, 54, 55, 56, 57]).length 1).isEmpty) = true := by decide +kernel
  have := List.all_eq_true.mp t c (List.mem_range.mpr (by omega))
  simpa [h0] using this
theorem rk_number_in {K : PySem.W.Frag} {vs : List V} {H : Hp} {Q : VK} {E : XK} (h : sp_number_in K vs H Q E) : rd_number_in K { nx := fun _ H' => Q .non H', rt := Q } (start ["word"] vs) H := by
  obtain ⟨n, rfl, hn, q⟩ := h
  have hne := num_ne hn
  have hl := num_len (n := n)
  show rd_number_in K _ [some (.str (tx (numC n)))] H
  unfold rd_number_in
  rw [w_seq, w_if]
  walk_at "w"
  rw [tx_dec, decide_eq_false hne]
  refine iteF ⟨by rw [tx_len]; exact len_le (by omega), ?_⟩
  walk_at "w"
  rw [tx_len, decide_eq_false (show ¬ (9 : Int) < ((numC n).length : Nat) by omega)]
  refine iteF ?_
  rw [w_ixS, tx_len, tx_cps]
  obtain ⟨c, r, ec⟩ : ∃ c r, numC n = c :: r := by
    cases e : numC n with
    | nil => exact absurd e hne
    | cons c r => exact ⟨c, r, rfl⟩
  refine ⟨len_le (by omega), bnd_of (a := c) (by rw [ec]; exact atI_nat (j := 0) rfl) ?_⟩
  walk_at "w"
  have e1 : decide ((⟨#[c]⟩ : Str) = tx [48]) = decide (c = 48) := by
    have : (⟨#[c]⟩ : Str) = tx [c] := rfl
    rw [this, tx_dec]
    simp
  rw [e1, tx_dec]
  have e2 : (decide (c = 48) = true → decide (numC n = [48]) = true) := by
    intro h
    rw [decide_eq_true_eq] at h
    have := (num_head hn).1 (by rw [ec, h]; rfl)
    subst this
    decide
  have goal2 : tSeq (tIfS (tNot (tB (tCB kAll (tCons (tComp [none, none] (iStr (tVar 0)) (gName 1) tTrue (tOp (cIn K false) (tVar 1) (tC (.str (tx [48, 49, 50, 51, 52, 53, 54, 55, 56, 57]))))) tNil)))) (tRet (tC .non)) tNext) (tRet (tCB kInt2 (tCons (tVar 0) tNil)))
      { nx := fun _ H' => Q .non H', rt := Q } [some (.str (tx (numC n)))] H := by
    rw [w_seq, w_if]
    walk_at "w"
    refine compV_str (cs := numC n) (fun _ => true) (fun _ => .bl true) (by omega) ?_ ?_ ?_
    · intro i c H1 R hc s1 k1
      exact k1 _ (Same.refl _)
    · intro i c H1 Q1 hc hb s1 k1
      have hd := num_dig hn c (List.mem_of_getElem? hc)
      show tOp (cIn K false) _ _ [none, some (.str (tx [c]))] H1 Q1
      walk_at "w"
      have q1 := k1 _ (Same.refl H1)
      show Q1 (.bl (if false = true then _ else !(Builtin.Str.occurrences (tx [48, 49, 50, 51, 52, 53, 54, 55, 56, 57]) (tx [c]) 0 (tx [48, 49, 50, 51, 52, 53, 54, 55, 56, 57]).length 1).isEmpty)) H1
      rw [if_neg Bool.false_ne_true, show tx [c] = ⟨#[c]⟩ from rfl, dig_in hd.1 hd.2]
      exact q1
    · intro l H1 hl1 s1 el
      have eb : ((List.range (numC n).length).filter fun _ => true).map (fun _ => V.bl true) = (List.replicate (numC n).length true).map V.bl := by
        rw [filter_tt, List.map_const', List.length_range, List.map_replicate]
      rw [eb] at el
      refine w_all el ?_
      have ea : (List.replicate (numC n).length true).all id = true := by
        rw [List.all_eq_true]
        intro b hb
        exact (List.mem_replicate.mp hb).2
      rw [ea]
      walk_at "w"
      exact ⟨n, hn, rfl, q _ s1⟩
  cases hc : decide (c = 48) with
  | false =>
    refine iteF ?_
    exact goal2
  | true =>
    refine iteT ?_
    rw [e2 hc]
    exact goal2
def sp_number_within (K : PySem.W.Frag) : Sp := fun vs H Q _ => ∃ (n : Nat) (lo hi : Int), vs = [.str (tx (numC n)), .int lo, .int hi] ∧ n < 100 ∧ lo ≤ n ∧ n ≤ hi ∧ ∀ H', Same H H' → Q (.int n) H'
theorem sl_number_within {K : PySem.W.Frag} {vs : List V} {H : Hp} {Q : VK} {E : XK} (h : sp_number_within K vs H Q E) : vs.length = 3 := by
  obtain ⟨_, _, _, rfl, _⟩ := h; rfl
def rd_number_within (K : PySem.W.Frag) : TS :=
  (tSeq (tAsg (tCall (sp_number_in K) [] E0 (tCons (tVar 0) tNil)) (gName 3))
    (tSeq (tIfS (tOr (tTest (tOp rIsN (tVar 3) (tC .non))) (tOr (tTest (tOp (cCmp fun i j => decide (i < j)) (tVar 3) (tVar 1))) (tTest (tOp (cCmp fun i j => decide (j < i)) (tVar 3) (tVar 2))))) tNever tNext)
    (tRet (tVar 3))))
theorem rk_number_within {K : PySem.W.Frag} {vs : List V} {H : Hp} {Q : VK} {E : XK} (h : sp_number_within K vs H Q E) : rd_number_within K { nx := fun _ H' => Q .non H', rt := Q } (start ["word", "least", "most", "number"] vs) H := by
  obtain ⟨n, lo, hi, rfl, hn, h0, h1, q⟩ := h
  show rd_number_within K _ [some (.str (tx (numC n))), some (.int lo), some (.int hi), none] H
  unfold rd_number_within
  walk_at "w"
  refine ⟨n, rfl, hn, fun H1 s1 => ?_⟩
  walk_at "w"
  rw [w_if]
  walk_at "w"
  rw [decide_eq_false (show ¬ V.int n = V.non from fun e => nomatch e)]
  refine iteF ?_
  rw [decide_eq_false (show ¬ (n : Int) < lo by omega)]
  refine iteF ?_
  rw [decide_eq_false (show ¬ hi < (n : Int) by omega)]
  refine iteF ?_
  walk_at "w"
  exact q _ s1
def WOk (ws : List (List Nat)) : Prop := ∀ w ∈ ws, ∀ c ∈ w, c < 128
theorem WOk.cons {w : List Nat} {ws : List (List Nat)} (h : ∀ c ∈ w, c < 128) (hs : WOk ws) : WOk (w :: ws) := fun v hv => by
  rcases List.mem_cons.mp hv with rfl | hv
  · exact h
  · exact hs v hv
theorem num_wok {n : Nat} (h : n < 100) : ∀ c ∈ numC n, c < 128 := fun c hc => by have := num_dig h c hc; omega
theorem tx_ok {w : List Nat} (h : ∀ c ∈ w, c < 128) : PyData.strOk (tx w) = true := by
  unfold PyData.strOk
  simp [tx]
  intro c hc
  have := h c hc
  omega
theorem WOk.strs {ws : List (List Nat)} (h : WOk ws) : ∀ x ∈ ws.map tx, PyData.strOk x = true := fun x hx => by
  obtain ⟨w, hw, rfl⟩ := List.mem_map.mp hx
  exact tx_ok (h w hw)
def sp_first_within (K : PySem.W.Frag) : Sp := fun vs H Q _ => ∃ (p : Addr) (n : Nat) (ws : List (List Nat)) (lo hi : Int), vs = [.ref p, .int lo, .int hi] ∧ H p = some (.lst (((numC n :: ws).map tx).map V.str)) ∧ n < 100 ∧ WOk ws ∧ lo ≤ n ∧ n ≤ hi ∧ ∀ H', Same H H' → Q (.int n) H'
theorem sl_first_within {K : PySem.W.Frag} {vs : List V} {H : Hp} {Q : VK} {E : XK} (h : sp_first_within K vs H Q E) : vs.length = 3 := by
  obtain ⟨_, _, _, _, _, rfl, _⟩ := h; rfl
def rd_first_within (K : PySem.W.Frag) : TS :=
  (tSeq (tIfS (tTest (tOp (cEq K) (tVar 0) (tLst tNil))) tNever tNext)
    (tRet (tCall (sp_number_within K) [] E0 (tCons (tOp cIx (tVar 0) (tC (.int 0))) (tCons (tVar 1) (tCons (tVar 2) tNil))))))
theorem DVs.strs {K : PySem.W.Frag} {H : Hp} : ∀ ns : List Str, DVs K H (ns.map V.str) (ns.map PyData.str)
  | [] => .nil
  | n :: r => .cons (.str n) (DVs.strs r)
theorem eqv_strs' (a b : Str) : PyData.eqv (.str a) (.str b) = decide (a = b) := by
  rw [PyData.eqv]
  by_cases h : a = b
  · subst h; simp
  · simp [h]
theorem shaped_strs (ns : List Str) (hs : ∀ x ∈ ns, PyData.strOk x = true) : SeqAt.shaped (.list (ns.map PyData.str)) = true := by
  have h1 : PyData.canLayAll0 (ns.map PyData.str) = true := lay_all fun d hd => by obtain ⟨x, hx, rfl⟩ := List.mem_map.mp hd; rw [PyData.canLay0]; exact hs x hx
  have h2 : PyData.depthAll (ns.map PyData.str) ≤ 0 := depth_all fun d hd => by obtain ⟨x, _, rfl⟩ := List.mem_map.mp hd; exact Nat.le_refl _
  simp [SeqAt.shaped, PyData.canLay0, h1, PyData.depth]
  omega
theorem w_eqLS {K : PySem.W.Frag} {H : Hp} {Q : VK} {p q : Addr} {xs ys : List Str} (hp : H p = some (.lst (xs.map V.str))) (hq : H q = some (.lst (ys.map V.str))) (h1 : ∀ x ∈ xs, PyData.strOk x = true) (h2 : ∀ x ∈ ys, PyData.strOk x = true) (h : Q (.bl (decide (xs = ys))) H) : cEq K (.ref p) (.ref q) H Q := by
  show rEqD K (.ref p) (.ref q) H Q
  refine ⟨.list (xs.map PyData.str), .list (ys.map PyData.str), .lst (SqL.of hp) (.strs xs), .lst (SqL.of hq) (.strs ys), shaped_strs xs h1, shaped_strs ys h2, ?_⟩
  rw [PyData.eqv, eqv_all PyData.str eqv_strs']
  exact h
theorem w_neLS {K : PySem.W.Frag} {H : Hp} {Q : VK} {p q : Addr} {xs ys : List Str} (hp : H p = some (.lst (xs.map V.str))) (hq : H q = some (.lst (ys.map V.str))) (h1 : ∀ x ∈ xs, PyData.strOk x = true) (h2 : ∀ x ∈ ys, PyData.strOk x = true) (h : Q (.bl (!decide (xs = ys))) H) : cNe K (.ref p) (.ref q) H Q := by
  show rNeD K (.ref p) (.ref q) H Q
  refine ⟨.list (xs.map PyData.str), .list (ys.map PyData.str), .lst (SqL.of hp) (.strs xs), .lst (SqL.of hq) (.strs ys), shaped_strs xs h1, shaped_strs ys h2, ?_⟩
  rw [PyData.eqv, eqv_all PyData.str eqv_strs']
  exact h
theorem rk_first_within {K : PySem.W.Frag} {vs : List V} {H : Hp} {Q : VK} {E : XK} (h : sp_first_within K vs H Q E) : rd_first_within K { nx := fun _ H' => Q .non H', rt := Q } (start ["words", "least", "most"] vs) H := by
  obtain ⟨p, n, ws, lo, hi, rfl, hp, hn, hw, h0, h1, q⟩ := h
  show rd_first_within K _ [some (.ref p), some (.int lo), some (.int hi)] H
  unfold rd_first_within
  rw [w_seq, w_if]
  walk_at "w"
  refine ⟨len_le (by decide), fun l hl => ?_⟩
  have s1 : Same H (upd H l (.lst [])) := (Same.refl H).laid hl
  refine w_eqLS (s1 _ _ hp) (ys := []) upd_same (WOk.strs (WOk.cons (num_wok hn) hw)) (fun x hx => nomatch hx) ?_
  generalize upd H l (.lst []) = H1 at *
  walk_at "w"
  rw [decide_eq_false (by simp)]
  refine iteF ?_
  walk_at "w"
  have e0 : atI (((numC n :: ws).map tx).map V.str) 0 = some (V.str (tx (numC n))) := atI_nat (j := 0) rfl
  refine ixL (s1 _ _ hp) e0 ?_
  walk_at "w"
  exact ⟨n, lo, hi, rfl, hn, h0, h1, fun H2 s2 => q _ (s1.trans s2)⟩
theorem step_len (acc : List Int) (v : Int) : (step_dedup acc v).length ≤ acc.length + 1 := by
  unfold step_dedup
  split <;> simp
theorem dedup_le : ∀ (l acc : List Int), (l.foldl step_dedup acc).length ≤ acc.length + l.length
  | [], acc => by simp
  | x :: r, acc => by
    have h1 := dedup_le r (step_dedup acc x)
    have h2 := step_len acc x
    rw [List.foldl_cons, List.length_cons]
    omega
theorem dedup_nodup : ∀ (l acc : List Int), acc.Nodup → ((l.foldl step_dedup acc).length = acc.length + l.length ↔ (acc ++ l).Nodup)
  | [], acc, h => by simpa using h
  | x :: r, acc, h => by
    rw [List.foldl_cons]
    by_cases hx : x ∈ acc
    · have e : step_dedup acc x = acc := by
        unfold step_dedup
        rw [if_pos (by simpa using hx)]
      rw [e]
      have := dedup_le r acc
      constructor
      · intro z
        rw [List.length_cons] at z
        omega
      · intro z
        have := (List.nodup_append.mp z).2.2 x hx x List.mem_cons_self
        exact absurd rfl this
    · have e : step_dedup acc x = acc ++ [x] := by
        unfold step_dedup
        rw [if_neg (by simpa using hx)]
      rw [e]
      have hn : (acc ++ [x]).Nodup := List.nodup_append.mpr ⟨h, by simp, fun a ha b hb z => hx (by rw [List.mem_singleton.mp hb] at z; exact z ▸ ha)⟩
      have ih := dedup_nodup r (acc ++ [x]) hn
      rw [List.length_append, List.length_singleton] at ih
      rw [List.length_cons, show acc.length + (r.length + 1) = acc.length + 1 + r.length by omega, show acc ++ x :: r = acc ++ [x] ++ r by simp]
      exact ih
theorem map_range_getI (ns : List Int) : (List.range ns.length).map (fun i => ns.getD i 0) = ns := by
  have := map_range_get ns (fun x => x)
  simpa using this
theorem cntD_iff (ns : List Int) : cntD ns = ns.length ↔ ns.Nodup := by
  unfold cntD firstMet
  rw [map_range_getI]
  have := dedup_nodup ns [] List.nodup_nil
  simpa using this
def sp_told_cells (K : PySem.W.Frag) : Sp := fun vs H Q _ => ∃ (a p : Addr) (h w g : Int) (ns : List Nat), vs = [.ref a, .ref p] ∧ IsFl H a h w g ∧ FlOk h w g ∧ H p = some (.lst (((ns.map numC).map tx).map V.str)) ∧ ns ≠ [] ∧ ns.length ≤ 16 ∧ (∀ n ∈ ns, (n : Int) < h * w) ∧ ns.Nodup ∧
  ∀ l H', Same H H' → H l = none → H' l = some (.lst ((ns.map fun (n : Nat) => (n : Int)).map V.int)) → Q (.ref l) H'
theorem sl_told_cells {K : PySem.W.Frag} {vs : List V} {H : Hp} {Q : VK} {E : XK} (h : sp_told_cells K vs H Q E) : vs.length = 2 := by
  obtain ⟨_, _, _, _, _, _, rfl, _⟩ := h; rfl
def rd_told_cells (K : PySem.W.Frag) : TS :=
  (tSeq (sComp 2 [none, none, some 0] (iList K (tVar 1)) (gName 1) tTrue (tCall (sp_number_within K) [] E0 (tCons (tVar 1) (tCons (tC (.int 0)) (tCons (tOp cSub (tCall (sp_many_cells K) [] E0 (tCons (tVar 2) tNil)) (tC (.int 1))) tNil)))))
    (tSeq (tIfS (tTest (tOp (cEq K) (tVar 2) (tLst tNil))) tNever tNext)
    (tSeq (tIfS (tTest (tOp (cNe K) (tLenSet (tVar 2)) (tCB kLen (tCons (tVar 2) tNil)))) tNever tNext)
    (tRet (tVar 2)))))
theorem nodup_cast {ns : List Nat} (h : ns.Nodup) : (ns.map fun (n : Nat) => (n : Int)).Nodup := by
  induction ns with
  | nil => exact List.nodup_nil
  | cons a r ih =>
    rw [List.nodup_cons] at h
    rw [List.map_cons, List.nodup_cons]
    refine ⟨fun z => ?_, ih h.2⟩
    obtain ⟨b, hb, e⟩ := List.mem_map.mp z
    exact h.1 (by have : b = a := by omega
                  exact this ▸ hb)
theorem rk_told_cells {K : PySem.W.Frag} {vs : List V} {H : Hp} {Q : VK} {E : XK} (h : sp_told_cells K vs H Q E) : rd_told_cells K { nx := fun _ H' => Q .non H', rt := Q } (start ["floor", "words", "cells"] vs) H := by
  obtain ⟨a, p, h, w, g, ns, rfl, ha, F, hp, hne, hn16, hlt, hnd, q⟩ := h
  obtain ⟨h0, h1, w0, w1, m16, g0, g1⟩ := F
  show rd_told_cells K _ [some (.ref a), some (.ref p), none] H
  unfold rd_told_cells
  walk_at "w"
  refine ⟨⟨_, SqL.of hp⟩, ?_⟩
  refine compV_list (xs := ((ns.map numC).map tx).map V.str) (fun _ => true) (fun i => .int (ns.getD i 0 : Nat)) (by simp; omega) (SqL.of hp) ?_ ?_ ?_
  · intro i x H1 R hx s1 k1
    exact k1 _ (Same.refl _)
  · intro i x H1 Q1 hx hb s1 k1
    rw [List.getElem?_map, List.getElem?_map, List.getElem?_map] at hx
    cases e : ns[i]? with
    | none => rw [e] at hx; cases hx
    | some n =>
      rw [e] at hx
      cases hx
      have hm := hlt n (List.mem_of_getElem? e)
      show tCall _ _ _ _ [none, some (.str (tx (numC n))), some (.ref a)] H1 Q1
      walk_at "w"
      refine ⟨a, h, w, g, rfl, s1 _ _ ha, h0, h1, ?_⟩
      walk_at "w"
      refine ⟨n, 0, _, rfl, by omega, by omega, by omega, fun H2 s2 => ?_⟩
      have q1 := k1 _ s2
      have eg : ns.getD i 0 = n := by rw [List.getD, e]; rfl
      rw [eg] at q1
      exact q1
  · intro l H1 hl s1 el
    have ec : ((List.range (((ns.map numC).map tx).map V.str).length).filter fun _ => true).map (fun i => V.int (ns.getD i 0 : Nat)) = (ns.map fun (n : Nat) => (n : Int)).map V.int := by
      rw [filter_tt, List.length_map, List.length_map, List.length_map, List.map_map]
      refine List.ext_getElem? fun i => ?_
      rw [List.getElem?_map, List.getElem?_map]
      by_cases h : i < ns.length
      · rw [List.getElem?_range h, List.getElem?_eq_getElem h]
        simp [List.getD, h]
      · rw [List.getElem?_eq_none (by simpa using h), List.getElem?_eq_none (by omega)]; rfl
    rw [ec] at el
    walk_at "w"
    rw [w_if]
    walk_at "w"
    refine ⟨len_le (by decide), fun z hz => ?_⟩
    have s2 : Same H1 (upd H1 z (.lst [])) := (Same.refl H1).laid hz
    refine w_eqL (s2 _ _ el) (ys := []) upd_same ?_
    generalize upd H1 z (.lst []) = H2 at *
    walk_at "w"
    rw [decide_eq_false (by simpa using hne)]
    refine iteF ?_
    walk_at "w"
    rw [w_if]
    walk_at "w"
    refine ⟨l, _, rfl, s2 _ _ el, by rw [List.length_map]; omega, ?_⟩
    rw [w_len (s2 _ _ el), List.length_map]
    walk_at "w"
    rw [decide_eq_true (by rw [(cntD_iff _).mpr (nodup_cast hnd)])]
    refine iteF ?_
    walk_at "w"
    exact q l _ (s1.trans s2) hl (s2 _ _ el)
def allK : RK → Bool
  | .Joined => true
  | .NoSquare => true
  | .Ring => true
  | _ => false
def numK : RK → Bool
  | .Sum => true
  | .Seen => true
  | .Count => true
  | _ => false
def sgnK : RK → Bool
  | .Count => true
  | .Joined => true
  | .NoSquare => true
  | .Ring => true
  | _ => false
theorem in_all (k : RK) : decide (tx (nmC k) ∈ gt_OF_ALL_CELLS) = allK k := by cases k <;> decide +kernel
theorem in_num (k : RK) : decide (tx (nmC k) ∈ gt_WITH_NUMBER) = numK k := by cases k <;> decide +kernel
theorem in_sgn (k : RK) : decide (tx (nmC k) ∈ gt_WITH_SIGN) = sgnK k := by cases k <;> decide +kernel
structure CellsOf (k : RK) (h w : Int) (ns : List Nat) (cs : List Int) : Prop where
  told : allK k = false → ns ≠ [] ∧ ns.length ≤ 16 ∧ (∀ n ∈ ns, (n : Int) < h * w) ∧ ns.Nodup ∧ cs = ns.map fun (n : Nat) => (n : Int)
  all : allK k = true → ns = [] ∧ cs = rngL 0 (h * w)
def sp_cells_of (K : PySem.W.Frag) : Sp := fun vs H Q _ => ∃ (k : RK) (a p : Addr) (h w g : Int) (ns : List Nat) (cs : List Int), vs = [.ref a, .str (tx (nmC k)), .ref p] ∧ IsFl H a h w g ∧ FlOk h w g ∧ H p = some (.lst (((ns.map numC).map tx).map V.str)) ∧ CellsOf k h w ns cs ∧ (∀ n ∈ ns, n < 100) ∧
  ∀ l H', Same H H' → H l = none → H' l = some (.lst (cs.map V.int)) → Q (.ref l) H'
theorem sl_cells_of {K : PySem.W.Frag} {vs : List V} {H : Hp} {Q : VK} {E : XK} (h : sp_cells_of K vs H Q E) : vs.length = 3 := by
  obtain ⟨_, _, _, _, _, _, _, _, rfl, _⟩ := h; rfl
def rd_cells_of (K : PySem.W.Frag) : TS :=
  (tSeq (tIfS (tB (tInG gt_OF_ALL_CELLS true (tVar 1))) (tRet (tCall (sp_told_cells K) [] E0 (tCons (tVar 0) (tCons (tVar 2) tNil)))) tNext)
    (tSeq (tIfS (tTest (tOp (cNe K) (tVar 2) (tLst tNil))) tNever tNext)
    (tRet (tListRng1 (tCons (tCall (sp_many_cells K) [] E0 (tCons (tVar 0) tNil)) tNil)))))
theorem rk_cells_of {K : PySem.W.Frag} {vs : List V} {H : Hp} {Q : VK} {E : XK} (h : sp_cells_of K vs H Q E) : rd_cells_of K { nx := fun _ H' => Q .non H', rt := Q } (start ["floor", "name", "words"] vs) H := by
  obtain ⟨k, a, p, h, w, g, ns, cs, rfl, ha, F, hp, hc, hn, q⟩ := h
  obtain ⟨h0, h1, w0, w1, m16, g0, g1⟩ := id F
  have mpos : 0 ≤ h * w := Int.mul_nonneg (by omega) (by omega)
  show rd_cells_of K _ [some (.ref a), some (.str (tx (nmC k))), some (.ref p)] H
  unfold rd_cells_of
  rw [w_seq, w_if]
  walk_at "w"
  rw [in_all]
  cases hk : allK k with
  | false =>
    obtain ⟨c1, c2, c3, c4, rfl⟩ := hc.told hk
    walk_at "w"
    exact ⟨a, p, h, w, g, ns, rfl, ha, F, hp, c1, c2, c3, c4, q⟩
  | true =>
    obtain ⟨rfl, rfl⟩ := hc.all hk
    walk_at "w"
    rw [w_if]
    walk_at "w"
    refine ⟨len_le (by decide), fun z hz => ?_⟩
    have s1 : Same H (upd H z (.lst [])) := (Same.refl H).laid hz
    refine w_neLS (xs := []) (ys := []) (s1 _ _ hp) upd_same (fun x hx => nomatch hx) (fun x hx => nomatch hx) ?_
    generalize upd H z (.lst []) = H1 at *
    walk_at "w"
    refine ⟨a, h, w, g, rfl, s1 _ _ ha, h0, h1, ?_⟩
    walk_at "w"
    refine ⟨h * w, rfl, by omega, by omega, fun l hl => ?_⟩
    exact q l _ (s1.laid hl) (s1.free hl) upd_same
def sp_rule_by (K : PySem.W.Frag) (c : RCl RK) : Sp := fun vs H Q _ => ∃ (k : RK) (p W C : Addr) (ws : List (List Nat)) (cs : List Int) (n m : Int), vs = [.ref p, .ref W, .ref C, .int n, .int m] ∧ k ≠ .Rule ∧ c.ok k = true ∧ H W = some (.lst (((nmC k :: ws).map tx).map V.str)) ∧ H C = some (.lst (cs.map V.int)) ∧
  ∀ r H', Same H H' → H r = none → IsRule H' c k r p (nmC k :: ws) cs n m → Q (.ref r) H'
theorem sl_rule_by {K : PySem.W.Frag} {c : RCl RK} {vs : List V} {H : Hp} {Q : VK} {E : XK} (h : sp_rule_by K c vs H Q E) : vs.length = 5 := by
  obtain ⟨_, _, _, _, _, _, _, _, rfl, _⟩ := h; rfl
def rd_rule_by (K : PySem.W.Frag) (c : RCl RK) : TS :=
  (tSeq (tAsg (tOp cIx (tVar 1) (tC (.int 0))) (gName 5))
    (tSeq (tIfS (tTest (tOp (cEq K) (tVar 5) (tC (.str (tx [117, 110, 108, 105, 107, 101]))))) (tRet (tMake (c.A .Unlike) (sp_Rule___init__ K c) [] E0 (tCons (tVar 0) (tCons (tVar 1) (tCons (tVar 2) (tCons (tVar 3) (tCons (tVar 4) tNil))))))) tNext)
    (tSeq (tIfS (tTest (tOp (cEq K) (tVar 5) (tC (.str (tx [115, 117, 109]))))) (tRet (tMake (c.A .Sum) (sp_Rule___init__ K c) [] E0 (tCons (tVar 0) (tCons (tVar 1) (tCons (tVar 2) (tCons (tVar 3) (tCons (tVar 4) tNil))))))) tNext)
    (tSeq (tIfS (tTest (tOp (cEq K) (tVar 5) (tC (.str (tx [114, 105, 115, 105, 110, 103]))))) (tRet (tMake (c.A .Rising) (sp_Rule___init__ K c) [] E0 (tCons (tVar 0) (tCons (tVar 1) (tCons (tVar 2) (tCons (tVar 3) (tCons (tVar 4) tNil))))))) tNext)
    (tSeq (tIfS (tTest (tOp (cEq K) (tVar 5) (tC (.str (tx [115, 101, 101, 110]))))) (tRet (tMake (c.A .Seen) (sp_Rule___init__ K c) [] E0 (tCons (tVar 0) (tCons (tVar 1) (tCons (tVar 2) (tCons (tVar 3) (tCons (tVar 4) tNil))))))) tNext)
    (tSeq (tIfS (tTest (tOp (cEq K) (tVar 5) (tC (.str (tx [99, 111, 117, 110, 116]))))) (tRet (tMake (c.A .Count) (sp_Rule___init__ K c) [] E0 (tCons (tVar 0) (tCons (tVar 1) (tCons (tVar 2) (tCons (tVar 3) (tCons (tVar 4) tNil))))))) tNext)
    (tSeq (tIfS (tTest (tOp (cEq K) (tVar 5) (tC (.str (tx [106, 111, 105, 110, 101, 100]))))) (tRet (tMake (c.A .Joined) (sp_Rule___init__ K c) [] E0 (tCons (tVar 0) (tCons (tVar 1) (tCons (tVar 2) (tCons (tVar 3) (tCons (tVar 4) tNil))))))) tNext)
    (tSeq (tIfS (tTest (tOp (cEq K) (tVar 5) (tC (.str (tx [110, 111, 115, 113, 117, 97, 114, 101]))))) (tRet (tMake (c.A .NoSquare) (sp_Rule___init__ K c) [] E0 (tCons (tVar 0) (tCons (tVar 1) (tCons (tVar 2) (tCons (tVar 3) (tCons (tVar 4) tNil))))))) tNext)
    (tSeq (tIfS (tTest (tOp (cEq K) (tVar 5) (tC (.str (tx [114, 105, 110, 103]))))) (tRet (tMake (c.A .Ring) (sp_Rule___init__ K c) [] E0 (tCons (tVar 0) (tCons (tVar 1) (tCons (tVar 2) (tCons (tVar 3) (tCons (tVar 4) tNil))))))) tNext)
    tNever)))))))))
theorem mk_rule {K : PySem.W.Frag} {c : RCl RK} {H : Hp} {Q : VK} {k : RK} {p W C : Addr} {ws : List (List Nat)} {cs : List Int} {n m : Int} (ok : c.ok k = true) (hW : H W = some (.lst ((ws.map tx).map V.str))) (hC : H C = some (.lst (cs.map V.int))) (q : ∀ r H', Same H H' → H r = none → IsRule H' c k r p ws cs n m → Q (.ref r) H') :
    ∀ x dx, H x = none → H dx = none → dx ≠ x → sp_Rule___init__ K c (.ref x :: ([.ref p, .ref W, .ref C, .int n, .int m] ++ [])) (upd (upd H dx (.own x)) x (.ins (c.A k) dx [])) (fun v H2 => v = .non ∧ Q (.ref x) H2) E0 := by
  intro x dx hx hd ne
  refine ⟨k, x, dx, p, W, C, ws, cs, n, m, rfl, ok, upd_same, ne_of_none hW hx, ne_of_none hC hx, ?_, ?_, fun H' hs hr => ⟨rfl, q x H' (fun b o e => hs b o (ne_of_none e hx) ?_) hx hr⟩⟩
  · rw [upd_ne (ne_of_none hW hx), upd_ne (ne_of_none hW hd)]; exact hW
  · rw [upd_ne (ne_of_none hC hx), upd_ne (ne_of_none hC hd)]; exact hC
  · rw [upd_ne (ne_of_none e hx), upd_ne (ne_of_none e hd)]; exact e
theorem rk_rule_by {K : PySem.W.Frag} {c : RCl RK} {vs : List V} {H : Hp} {Q : VK} {E : XK} (h : sp_rule_by K c vs H Q E) : rd_rule_by K c { nx := fun _ H' => Q .non H', rt := Q } (start ["floor", "words", "cells", "amount", "mark", "name"] vs) H := by
  obtain ⟨k, p, W, C, ws, cs, n, m, rfl, hk, ok, hW, hC, q⟩ := h
  have mk := mk_rule (K := K) ok hW hC q
  have e0 : atI (((nmC k :: ws).map tx).map V.str) 0 = some (V.str (tx (nmC k))) := atI_nat (j := 0) rfl
  show rd_rule_by K c _ [some (.ref p), some (.ref W), some (.ref C), some (.int n), some (.int m), none] H
  unfold rd_rule_by
  walk_at "w"
  refine ixL hW e0 ?_
  have D : ∀ (l : List Nat) (t : TS) (u : TS) (D : Ends) (b : Bool), decide (nmC k = l) = b → (if b = true then t D [some (.ref p), some (.ref W), some (.ref C), some (.int n), some (.int m), some (.str (tx (nmC k)))] H else u D [some (.ref p), some (.ref W), some (.ref C), some (.int n), some (.int m), some (.str (tx (nmC k)))] H) →
      tIfS (tTest (tOp (cEq K) (tVar 5) (tC (.str (tx l))))) t u D [some (.ref p), some (.ref W), some (.ref C), some (.int n), some (.int m), some (.str (tx (nmC k)))] H := fun l t u D b hb hq => by
    rw [w_if]
    walk_at "w"
    rw [tx_dec, hb]
    exact hq
  have R : ∀ (D : Ends), D.rt = Q → tRet (tMake (c.A k) (sp_Rule___init__ K c) [] E0 (tCons (tVar 0) (tCons (tVar 1) (tCons (tVar 2) (tCons (tVar 3) (tCons (tVar 4) tNil)))))) D [some (.ref p), some (.ref W), some (.ref C), some (.int n), some (.int m), some (.str (tx (nmC k)))] H := fun D hD => by
    walk_at "w"
    rw [hD]
    exact mk
  cases k with
  | Rule => exact absurd rfl hk
  | Unlike => exact D _ _ _ _ true (by decide) (iteT (R _ rfl))
  | Sum => exact D _ _ _ _ false (by decide) (iteF (D _ _ _ _ true (by decide) (iteT (R _ rfl))))
  | Rising => exact D _ _ _ _ false (by decide) (iteF (D _ _ _ _ false (by decide) (iteF (D _ _ _ _ true (by decide) (iteT (R _ rfl))))))
  | Seen => exact D _ _ _ _ false (by decide) (iteF (D _ _ _ _ false (by decide) (iteF (D _ _ _ _ false (by decide) (iteF (D _ _ _ _ true (by decide) (iteT (R _ rfl))))))))
  | Count => exact D _ _ _ _ false (by decide) (iteF (D _ _ _ _ false (by decide) (iteF (D _ _ _ _ false (by decide) (iteF (D _ _ _ _ false (by decide) (iteF (D _ _ _ _ true (by decide) (iteT (R _ rfl))))))))))
  | Joined => exact D _ _ _ _ false (by decide) (iteF (D _ _ _ _ false (by decide) (iteF (D _ _ _ _ false (by decide) (iteF (D _ _ _ _ false (by decide) (iteF (D _ _ _ _ false (by decide) (iteF (D _ _ _ _ true (by decide) (iteT (R _ rfl))))))))))))
  | NoSquare => exact D _ _ _ _ false (by decide) (iteF (D _ _ _ _ false (by decide) (iteF (D _ _ _ _ false (by decide) (iteF (D _ _ _ _ false (by decide) (iteF (D _ _ _ _ false (by decide) (iteF (D _ _ _ _ false (by decide) (iteF (D _ _ _ _ true (by decide) (iteT (R _ rfl))))))))))))))
  | Ring => exact D _ _ _ _ false (by decide) (iteF (D _ _ _ _ false (by decide) (iteF (D _ _ _ _ false (by decide) (iteF (D _ _ _ _ false (by decide) (iteF (D _ _ _ _ false (by decide) (iteF (D _ _ _ _ false (by decide) (iteF (D _ _ _ _ false (by decide) (iteF (D _ _ _ _ true (by decide) (iteT (R _ rfl))))))))))))))))
def rowW (k : RK) (n m : Nat) (ns : List Nat) : List (List Nat) := nmC k :: ((if numK k then [numC n] else []) ++ (if sgnK k then [numC m] else []) ++ ns.map numC)
structure RowOk2 (k : RK) (h w g : Int) (n m : Nat) (ns : List Nat) (cs : List Int) : Prop where
  k0 : k ≠ .Rule
  n0 : n ≤ 99
  nz : numK k = false → n = 0
  m0 : sgnK k = true → 1 ≤ (m : Int) ∧ (m : Int) ≤ g
  mz : sgnK k = false → m = 0
  cl : CellsOf k h w ns cs
  ns0 : ∀ x ∈ ns, x < 100
  len : ns.length ≤ 16
def sp_read_rule (K : PySem.W.Frag) (c : RCl RK) : Sp := fun vs H Q _ => ∃ (k : RK) (p : Addr) (h w g : Int) (n m : Nat) (ns : List Nat) (cs : List Int), vs = [.ref p, .str (tx (catL 32 (rowW k n m ns)))] ∧ IsFl H p h w g ∧ FlOk h w g ∧ RowOk2 k h w g n m ns cs ∧ c.ok k = true ∧
  ∀ r H', Same H H' → H r = none → IsRule H' c k r p (rowW k n m ns) cs n m → Q (.ref r) H'
theorem sl_read_rule {K : PySem.W.Frag} {c : RCl RK} {vs : List V} {H : Hp} {Q : VK} {E : XK} (h : sp_read_rule K c vs H Q E) : vs.length = 2 := by
  obtain ⟨_, _, _, _, _, _, _, _, _, rfl, _⟩ := h; rfl
def rd_read_rule_t8 (K : PySem.W.Frag) (c : RCl RK) : TS :=
  (tRet (tCall (sp_rule_by K c) [] E0 (tCons (tVar 0) (tCons (tVar 2) (tCons (tCall (sp_cells_of K) [] E0 (tCons (tVar 0) (tCons (tVar 3) (tCons (tVar 4) tNil)))) (tCons (tVar 5) (tCons (tVar 6) tNil)))))))
def rd_read_rule_t2 (K : PySem.W.Frag) (c : RCl RK) : TS :=
  (tSeq (tAsg (tOp cIx (tVar 2) (tC (.int 0))) (gName 3))
    (tSeq (tAsg (tSl cSl2 (tVar 2) (tPart (tC (.int 1))) tNoPart) (gName 4))
    (tSeq (tAsg (tC (.int 0)) (gName 5))
    (tSeq (tAsg (tC (.int 0)) (gName 6))
    (tSeq (tIfS (tB (tInG gt_WITH_NUMBER false (tVar 3))) (tSeq (tAsg (tCall (sp_first_within K) [] E0 (tCons (tVar 4) (tCons (tC (.int 0)) (tCons (tC (.int 99)) tNil)))) (gName 5))
    (tAsg (tSl cSl2 (tVar 4) (tPart (tC (.int 1))) tNoPart) (gName 4))) tNext)
    (tSeq (tIfS (tB (tInG gt_WITH_SIGN false (tVar 3))) (tSeq (tAsg (tCall (sp_first_within K) [] E0 (tCons (tVar 4) (tCons (tC (.int 1)) (tCons (tOp cIx (tVar 0) (tC (.int 2))) tNil)))) (gName 6))
    (tAsg (tSl cSl2 (tVar 4) (tPart (tC (.int 1))) tNoPart) (gName 4))) tNext)
    (rd_read_rule_t8 K c)))))))
def rd_read_rule (K : PySem.W.Frag) (c : RCl RK) : TS :=
  (tSeq (tIfS (tNot (tB (tCB kIsi (tCons (tVar 1) (tCons (tC (.ty "str")) tNil))))) tNever tNext)
    (tSeq (tAsg (tBM K "str" kSplit (tVar 1) (tCons (tC (.str (tx [32]))) tNil)) (gName 2))
    (rd_read_rule_t2 K c)))
theorem nm_free (k : RK) : 32 ∉ nmC k := by cases k <;> decide
theorem rowW_free {k : RK} {n m : Nat} {ns : List Nat} (hn : n < 100) (hm : m < 100) (hs : ∀ x ∈ ns, x < 100) : ∀ r ∈ rowW k n m ns, 32 ∉ r := by
  intro r hr
  unfold rowW at hr
  rcases List.mem_cons.mp hr with rfl | hr
  · exact nm_free k
  rcases List.mem_append.mp hr with hr | hr
  · rcases List.mem_append.mp hr with hr | hr
    · split at hr
      · rw [List.mem_singleton.mp hr]; exact num_free hn
      · cases hr
    · split at hr
      · rw [List.mem_singleton.mp hr]; exact num_free hm
      · cases hr
  · obtain ⟨x, hx, rfl⟩ := List.mem_map.mp hr
    exact num_free (hs x hx)
theorem cut_tail (xs : List V) : cutV xs (some 1) none = xs.drop 1 := by
  unfold cutV
  have h1 : HT.sIx xs.length 0 (some 1) = min 1 xs.length := HT.sIx_nat ..
  have h2 : HT.sIx xs.length xs.length none = xs.length := rfl
  rw [h1, h2]
  cases xs with
  | nil => rfl
  | cons x r =>
    have : min 1 (x :: r).length = 1 := by simp
    rw [this]
    show (r).take _ = r
    rw [List.take_of_length_le (by simp)]
theorem rk_read_rule_t8 {K : PySem.W.Frag} {c : RCl RK} {H : Hp} {Q : VK} {k : RK} {p W R : Addr} {h w g : Int} {n m : Nat} {ws : List (List Nat)} {ns : List Nat} {cs : List Int} {lv : V} (F : FlOk h w g) (ha : IsFl H p h w g) (hW : H W = some (.lst (((nmC k :: ws).map tx).map V.str))) (hR : H R = some (.lst (((ns.map numC).map tx).map V.str))) (hc : CellsOf k h w ns cs) (hn : ∀ x ∈ ns, x < 100) (k0 : k ≠ .Rule) (ok : c.ok k = true)
    (q : ∀ r H', Same H H' → H r = none → IsRule H' c k r p (nmC k :: ws) cs n m → Q (.ref r) H') :
    rd_read_rule_t8 K c { nx := fun _ H' => Q .non H', rt := Q } [some (.ref p), some lv, some (.ref W), some (.str (tx (nmC k))), some (.ref R), some (.int n), some (.int m)] H := by
  unfold rd_read_rule_t8
  walk_at "w"
  refine ⟨k, p, R, h, w, g, ns, cs, rfl, ha, F, hR, hc, hn, fun l H1 s1 hl el => ?_⟩
  walk_at "w"
  exact ⟨k, p, W, l, ws, cs, n, m, rfl, k0, ok, s1 _ _ hW, el, fun r H2 s2 hr x => q r H2 (s1.trans s2) (s1.free hr) x⟩
theorem row_mem_len {k : RK} {n m : Nat} {ns : List Nat} (h : ns.length ≤ 16) : (rowW k n m ns).length ≤ 100 ∧ ∀ w ∈ rowW k n m ns, w.length ≤ 100 := by
  unfold rowW
  refine ⟨?_, fun w hw => ?_⟩
  · simp only [List.length_cons, List.length_append, List.length_map]
    split <;> split <;> simp <;> omega
  · rcases List.mem_cons.mp hw with rfl | hw
    · cases k <;> decide
    have h2 : ∀ x, (numC x).length ≤ 100 := fun x => Nat.le_trans num_len (by decide)
    rcases List.mem_append.mp hw with hw | hw
    · rcases List.mem_append.mp hw with hw | hw
      · split at hw
        · rw [List.mem_singleton.mp hw]; exact h2 _
        · cases hw
      · split at hw
        · rw [List.mem_singleton.mp hw]; exact h2 _
        · cases hw
    · obtain ⟨x, hx, rfl⟩ := List.mem_map.mp hw
      exact h2 _
theorem catL_len32 : ∀ (rows : List (List Nat)), (∀ r ∈ rows, r.length ≤ 100) → (catL 32 rows).length ≤ 101 * rows.length
  | [], _ => Nat.zero_le _
  | [x], h => by
    have := h x List.mem_cons_self
    show x.length ≤ 101 * 1
    omega
  | x :: y :: r, h => by
    have h1 := h x List.mem_cons_self
    have ih := catL_len32 (y :: r) fun z hz => h z (List.mem_cons_of_mem _ hz)
    have e : catL 32 (x :: y :: r) = x ++ 32 :: catL 32 (y :: r) := by first | rfl | simp [catL]
    rw [e, List.length_append, List.length_cons, List.length_cons]
    omega
theorem sl_tail {H : Hp} {Q : VK} {p : Addr} {x : Str} {xs : List Str} (hp : H p = some (.lst ((x :: xs).map V.str))) (q : ∀ l, H l = none → Q (.ref l) (upd H l (.lst (xs.map V.str)))) : cSl2 (.ref p) (some 1) none H Q := by
  refine w_slL hp fun l hl => ?_
  rw [cut_tail]
  exact q l hl
theorem rk_read_rule_t2 {K : PySem.W.Frag} {c : RCl RK} {H : Hp} {Q : VK} {k : RK} {p W : Addr} {h w g : Int} {n m : Nat} {ns : List Nat} {cs : List Int} {lv : V} (F : FlOk h w g) (ha : IsFl H p h w g) (hW : H W = some (.lst (((rowW k n m ns).map tx).map V.str))) (O : RowOk2 k h w g n m ns cs) (ok : c.ok k = true)
    (q : ∀ r H', Same H H' → H r = none → IsRule H' c k r p (rowW k n m ns) cs n m → Q (.ref r) H') :
    rd_read_rule_t2 K c { nx := fun _ H' => Q .non H', rt := Q } [some (.ref p), some lv, some (.ref W), none, none, none, none] H := by
  obtain ⟨k0, n0, nz, m0, mz, cl, ns0, len⟩ := O
  obtain ⟨h0, h1, w0, w1, m16, g0, g1⟩ := id F
  have e0 : atI (((rowW k n m ns).map tx).map V.str) 0 = some (V.str (tx (nmC k))) := atI_nat (j := 0) rfl
  have hns : WOk (ns.map numC) := fun v hv => by obtain ⟨x, hx, rfl⟩ := List.mem_map.mp hv; exact num_wok (ns0 x hx)
  unfold rd_read_rule_t2
  walk_at "w"
  refine ixL hW e0 ?_
  walk_at "w"
  refine sl_tail hW fun R hR => ?_
  have s1 : Same H (upd H R (.lst ((((if numK k then [numC n] else []) ++ (if sgnK k then [numC m] else []) ++ ns.map numC).map tx).map V.str))) := (Same.refl H).laid hR
  have eR : (upd H R (.lst ((((if numK k then [numC n] else []) ++ (if sgnK k then [numC m] else []) ++ ns.map numC).map tx).map V.str))) R = some (.lst ((((if numK k then [numC n] else []) ++ (if sgnK k then [numC m] else []) ++ ns.map numC).map tx).map V.str)) := upd_same
  generalize upd H R (.lst ((((if numK k then [numC n] else []) ++ (if sgnK k then [numC m] else []) ++ ns.map numC).map tx).map V.str)) = H1 at *
  walk_at "w"
  have two : ∀ {H2 : Hp} {R2 : Addr}, Same H H2 → H2 R2 = some (.lst ((((if sgnK k then [numC m] else []) ++ ns.map numC).map tx).map V.str)) →
      tSeq (tIfS (tB (tInG gt_WITH_SIGN false (tVar 3))) (tSeq (tAsg (tCall (sp_first_within K) [] E0 (tCons (tVar 4) (tCons (tC (.int 1)) (tCons (tOp cIx (tVar 0) (tC (.int 2))) tNil)))) (gName 6)) (tAsg (tSl cSl2 (tVar 4) (tPart (tC (.int 1))) tNoPart) (gName 4))) tNext) (rd_read_rule_t8 K c) { nx := fun _ H' => Q .non H', rt := Q }
        [some (.ref p), some lv, some (.ref W), some (.str (tx (nmC k))), some (.ref R2), some (.int n), some (.int 0)] H2 := by
    intro H2 R2 s2 eR2
    rw [w_seq, w_if]
    walk_at "w"
    rw [in_sgn]
    cases hs : sgnK k with
    | false =>
      rw [hs] at eR2
      have := mz hs
      subst this
      walk_at "w"
      exact rk_read_rule_t8 F (s2 _ _ ha) (s2 _ _ hW) eR2 cl ns0 k0 ok fun r H3 s3 hr x => q r H3 (s2.trans s3) (s2.free hr) x
    | true =>
      rw [hs] at eR2
      have hm := m0 hs
      walk_at "w"
      refine ixT (s2 _ _ ha) (v := V.int g) rfl ?_
      walk_at "w"
      refine ⟨R2, m, ns.map numC, 1, g, rfl, eR2, by omega, hns, hm.1, hm.2, fun H3 s3 => ?_⟩
      walk_at "w"
      refine sl_tail (s3 _ _ eR2) fun R3 hR3 => ?_
      have s4 : Same H3 (upd H3 R3 (.lst (((ns.map numC).map tx).map V.str))) := (Same.refl H3).laid hR3
      have s24 := (s2.trans s3).trans s4
      exact rk_read_rule_t8 F (s24 _ _ ha) (s24 _ _ hW) upd_same cl ns0 k0 ok fun r H5 s5 hr x => q r H5 (s24.trans s5) (s24.free hr) x
  rw [w_if]
  walk_at "w"
  rw [in_num]
  cases hn : numK k with
  | false =>
    rw [hn] at eR
    have := nz hn
    subst this
    walk_at "w"
    exact two s1 eR
  | true =>
    rw [hn] at eR
    walk_at "w"
    refine ⟨R, n, (if sgnK k then [numC m] else []) ++ ns.map numC, 0, 99, rfl, eR, by omega, ?_, by omega, by omega, fun H3 s3 => ?_⟩
    · intro v hv
      rcases List.mem_append.mp hv with hv | hv
      · split at hv
        · rename_i hs
          have := m0 hs
          rw [List.mem_singleton.mp hv]; exact num_wok (by omega)
        · cases hv
      · exact hns v hv
    walk_at "w"
    refine sl_tail (s3 _ _ eR) fun R3 hR3 => ?_
    have s4 : Same H3 (upd H3 R3 (.lst ((((if sgnK k then [numC m] else []) ++ ns.map numC).map tx).map V.str))) := (Same.refl H3).laid hR3
    walk_at "w"
    exact two ((s1.trans s3).trans s4) upd_same
theorem rk_read_rule {K : PySem.W.Frag} {c : RCl RK} {vs : List V} {H : Hp} {Q : VK} {E : XK} (h : sp_read_rule K c vs H Q E) : rd_read_rule K c { nx := fun _ H' => Q .non H', rt := Q } (start ["floor", "line", "words", "name", "rest", "amount", "mark"] vs) H := by
  obtain ⟨k, p, h, w, g, n, m, ns, cs, rfl, ha, F, O, ok, q⟩ := h
  have hm : m < 100 := by
    by_cases hs : sgnK k = true
    · have := (O.m0 hs).2
      have := F.g1
      omega
    · have := O.mz (by simpa using hs)
      omega
  have hsp : Txt.split (tx (catL 32 (rowW k n m ns))) (tx [32]) = (rowW k n m ns).map tx := split_tx (by simp [rowW]) (rowW_free (by have := O.n0; omega) hm O.ns0)
  have hl := row_mem_len (k := k) (n := n) (m := m) O.len
  have hl2 := catL_len32 _ hl.2
  show rd_read_rule K c _ [some (.ref p), some (.str (tx (catL 32 (rowW k n m ns)))), none, none, none, none, none] H
  unfold rd_read_rule
  rw [w_seq, w_if]
  walk_at "w"
  refine ⟨w_tyS, ?_⟩
  rw [w_split, hsp]
  refine ⟨by rw [tx_len]; decide, by rw [tx_len]; exact Nat.le_of_lt (Nat.lt_of_le_of_lt hl2 (Nat.lt_of_le_of_lt (Nat.mul_le_mul_left 101 hl.1) (by decide))), by rw [List.length_map]; exact len_le (by omega), fun W hW => ?_⟩
  have s1 : Same H (upd H W (.lst (((rowW k n m ns).map tx).map V.str))) := (Same.refl H).laid hW
  exact rk_read_rule_t2 F (s1 _ _ ha) upd_same O ok fun r H2 s2 hr x => q r H2 (s1.trans s2) (s1.free hr) x
theorem num_log {n : Nat} (h : n < 100) : ((n : Int)).natAbs.log2 < 1920 := by
  have t : ((List.range 100).all fun n => decide (n.log2 < 1920)) = true := by decide +kernel
  have := List.all_eq_true.mp t n (List.mem_range.mpr h)
  simpa using this
theorem str_num {H : Hp} {Q : VK} {n : Nat} (h : n < 100) (q : Q (.str (tx (numC n))) H) : kStr [.int (n : Int)] H Q := by
  refine ⟨num_log h, ?_⟩
  rw [num_str h]
  exact q
theorem cat_cons {c : Nat} {x : List Nat} : ∀ {rs : List (List Nat)}, rs ≠ [] → catL c (x :: rs) = x ++ c :: catL c rs
  | [], h => absurd rfl h
  | y :: r, _ => by first | rfl | simp [catL]
end L2
set_option Elab.async false
set_option linter.all false
set_option maxRecDepth 100000
namespace L2
open PySem PySem.Spec PyProof.Rows
section
variable {X : Cx} {a : Expr} {ta : TE} {pos p : Pos} {x : Str} {ws : List Str}
theorem pt_inG (G : GTup X.K X.mg x ws) (ha : PE X a ta) (hg : Gl X x) (hdb : (x == ("__debug__" : Str)) = false := by decide) (hm : behindInMarks .In (.Name x p) = false := by with_unfolding_all rfl) : PT X (.Compare a [.In] [.Name x p] pos) (tB (tInG ws false ta)) := by
  obtain ⟨q, o, its, n, h1, h2⟩ := G.ex
  have h0 := pt_cmpR (pos := pos) (op_inG ⟨o, its, n, h2⟩) ha (pe_glob (v := V.ref q) hg h1 rfl hdb) hm
  intro pins s σ H Q I h
  refine h0 pins s σ H Q I ?_
  have e : (fun (x : V) (H1 : Hp) => ∃ z, x = .str z ∧ ∃ k, V.bl (if false = true then !decide (z ∈ ws) else decide (z ∈ ws)) = .bl k ∧ Q k H1) = fun x H1 => ∃ z, x = .str z ∧ (V.ref q = V.ref q) ∧ ∃ k, V.bl (decide (z ∈ ws)) = .bl k ∧ Q k H1 := by
    funext x H1; simp
  have h' : ta σ H (fun (x : V) (H1 : Hp) => ∃ z, x = .str z ∧ ∃ k, V.bl (if false = true then !decide (z ∈ ws) else decide (z ∈ ws)) = .bl k ∧ Q k H1) := h
  rw [e] at h'
  exact h'
theorem pt_ninG (G : GTup X.K X.mg x ws) (ha : PE X a ta) (hg : Gl X x) (hdb : (x == ("__debug__" : Str)) = false := by decide) (hm : behindInMarks .NotIn (.Name x p) = false := by with_unfolding_all rfl) : PT X (.Compare a [.NotIn] [.Name x p] pos) (tB (tInG ws true ta)) := by
  obtain ⟨q, o, its, n, h1, h2⟩ := G.ex
  have h0 := pt_cmpR (pos := pos) (op_ninG ⟨o, its, n, h2⟩) ha (pe_glob (v := V.ref q) hg h1 rfl hdb) hm
  intro pins s σ H Q I h
  refine h0 pins s σ H Q I ?_
  have e : (fun (x : V) (H1 : Hp) => ∃ z, x = .str z ∧ ∃ k, V.bl (if true = true then !decide (z ∈ ws) else decide (z ∈ ws)) = .bl k ∧ Q k H1) = fun x H1 => ∃ z, x = .str z ∧ (V.ref q = V.ref q) ∧ ∃ k, V.bl (!decide (z ∈ ws)) = .bl k ∧ Q k H1 := by
    funext x H1; simp
  have h' : ta σ H (fun (x : V) (H1 : Hp) => ∃ z, x = .str z ∧ ∃ k, V.bl (if true = true then !decide (z ∈ ws) else decide (z ∈ ws)) = .bl k ∧ Q k H1) := h
  rw [e] at h'
  exact h'
end
end L2
set_option Elab.async false
set_option linter.all false
set_option maxRecDepth 100000
namespace L2
open PySem PySem.Spec PyProof.Rows
local macro_rules | `(tactic| walk_at "w") => `(tactic| (first | simp only [w_seq, w_make, w_inG, w_lenset, w_revL, w_int2B, w_int2I, w_max, w_isN, w_notN, w_pow, if_true, if_false, Bool.false_eq_true, decide_true, decide_false, w_lrng1, w_lrng2, w_ifE, w_compR2, w_scompR2, w_forRD, w_forE, w_compE, w_scompE, w_intB, w_intI, w_bitlen, w_shr, w_isi_ii, w_isi_ib, w_isi_bb, w_isi_bi, w_isi_ss, w_isi_bs, w_isi_is, w_iteT, w_iteF, w_negE, w_bitI, w_str, Bool.not_true, Bool.not_false, w_next, w_asg, w_gname, w_var0, w_varS, w_c, w_op, w_ret, w_retN, w_drop, w_test, w_b, w_not, w_and, w_or, w_notV, w_andV, w_orV, w_nil, w_cons, w_cb, w_call, w_tup, w_lst, w_bm, w_bm0, w_true, w_dnew, w_dput, w_forL, w_forR1, w_forR2, w_compL, w_compR1, w_scompL, w_scompR1, w_add, w_sub, w_mul, w_div, w_mod, w_cmp, w_eqI, w_neI, w_eqB, w_neB, w_abs, w_min, w_sl, w_part, w_nopart, w_gsub, w_un, w_forS, w_compS, w_scompS, w_eqS, w_neS, w_lenS, w_addS, w_find,
  List.getElem?_cons_zero, List.getElem?_cons_succ, Option.some.injEq, exists_eq_left', exists_eq_left, List.set_cons_zero, List.set_cons_succ, bnd_some, V.int.injEq, V.bl.injEq, V.ref.injEq, V.str.injEq, List.nil_append, List.cons_append] | dsimp only | skip))
inductive PzK where
  | Puzzle
  deriving DecidableEq
structure RR where
  k : RK
  n : Nat
  m : Nat
  ns : List Nat
  cs : List Int
def RR.ws (r : RR) : List (List Nat) := rowW r.k r.n r.m r.ns
def RR.txt (r : RR) : Str := tx (catL 32 r.ws)
def RR.Ok (r : RR) (h w g : Int) : Prop := RowOk2 r.k h w g r.n r.m r.ns r.cs
structure IsRules (H : Hp) (c : RCl RK) (p L : Addr) (rs : List Addr) (rows : List RR) : Prop where
  top : H L = some (.lst (rs.map V.ref))
  len : rs.length = rows.length
  at_ : ∀ (i : Nat) (r : Addr) (x : RR), rs[i]? = some r → rows[i]? = some x → IsRule H c x.k r p x.ws x.cs x.n x.m
theorem IsRules.same {H H' : Hp} {c : RCl RK} {p L : Addr} {rs : List Addr} {rows : List RR} (x : IsRules H c p L rs rows) (s : Same H H') : IsRules H' c p L rs rows :=
  ⟨s _ _ x.top, x.len, fun i r y h1 h2 => (x.at_ i r y h1 h2).same s⟩
theorem IsRule.lst {H : Hp} {c : RCl RK} {k : RK} {r p a : Addr} {ws : List (List Nat)} {cs : List Int} {n m : Int} {xs : List V} {o : HO} (x : IsRule H c k r p ws cs n m) (ha : H a = some (.lst xs)) : IsRule (upd H a o) c k r p ws cs n m := by
  obtain ⟨dx, W, C, h1, h2, h3⟩ := x.ex
  refine ⟨x.ok, dx, W, C, ?_, ?_, ?_⟩
  · rw [upd_ne (fun e => by rw [e, ha] at h1; cases h1)]; exact h1
  · rw [upd_ne (fun e => by rw [e, ha] at h2; cases h2)]; exact h2
  · rw [upd_ne (fun e => by rw [e, ha] at h3; cases h3)]; exact h3
def pFs (p L G : Addr) : List (Str × V) := [("floor", .ref p), ("laws", .ref L), ("given", .ref G)]
structure RowsOk (c : RCl RK) (h w g : Int) (rows : List RR) : Prop where
  F : FlOk h w g
  n : rows.length ≤ 12
  ok : ∀ r ∈ rows, r.Ok h w g
  c : ∀ r ∈ rows, c.ok r.k = true
structure CluesOk (h w g : Int) (cl : List Int) : Prop where
  len : cl.length = (h * w).toNat
  ok : ∀ x ∈ cl, 0 ≤ x ∧ x ≤ g
structure IsPz (H : Hp) (c : RCl RK) (d : RCl PzK) (P L G : Addr) (h w g : Int) (rows : List RR) (cl : List Int) : Prop where
  ok : d.ok .Puzzle = true
  R : RowsOk c h w g rows
  C : CluesOk h w g cl
  gv : H G = some (.lst (cl.map V.int))
  ex : ∃ dx p rs, H P = some (.ins (d.A .Puzzle) dx (pFs p L G)) ∧ IsFl H p h w g ∧ IsRules H c p L rs rows
theorem IsPz.same {H H' : Hp} {c : RCl RK} {d : RCl PzK} {P L G : Addr} {h w g : Int} {rows : List RR} {cl : List Int} (x : IsPz H c d P L G h w g rows cl) (s : Same H H') : IsPz H' c d P L G h w g rows cl := by
  obtain ⟨dx, p, rs, h1, h2, h3⟩ := x.ex
  exact ⟨x.ok, x.R, x.C, s _ _ x.gv, dx, p, rs, s _ _ h1, s _ _ h2, h3.same s⟩
def sp_is_whole (K : PySem.W.Frag) : Sp := fun vs H Q _ => ∃ i : Int, vs = [.int i] ∧ Q (.bl true) H
theorem sl_is_whole {K : PySem.W.Frag} {vs : List V} {H : Hp} {Q : VK} {E : XK} (h : sp_is_whole K vs H Q E) : vs.length = 1 := by
  obtain ⟨_, rfl, _⟩ := h; rfl
def rd_is_whole (K : PySem.W.Frag) : TS :=
  (tRet (tAndV (tCB kIsi (tCons (tVar 0) (tCons (tC (.ty "int")) tNil))) (tNotV (tCB kIsi (tCons (tVar 0) (tCons (tC (.ty "bool")) tNil))))))
theorem rk_is_whole {K : PySem.W.Frag} {vs : List V} {H : Hp} {Q : VK} {E : XK} (h : sp_is_whole K vs H Q E) : rd_is_whole K { nx := fun _ H' => Q .non H', rt := Q } (start ["value"] vs) H := by
  obtain ⟨i, rfl, q⟩ := h
  show rd_is_whole K _ [some (.int i)] H
  unfold rd_is_whole
  walk_at "w"
  exact q
def sp_is_from_one_to (K : PySem.W.Frag) : Sp := fun vs H Q _ => ∃ i m : Int, vs = [.int i, .int m] ∧ Q (.bl (decide (1 ≤ i) && decide (i ≤ m))) H
theorem sl_is_from_one_to {K : PySem.W.Frag} {vs : List V} {H : Hp} {Q : VK} {E : XK} (h : sp_is_from_one_to K vs H Q E) : vs.length = 2 := by
  obtain ⟨_, _, rfl, _⟩ := h; rfl
def rd_is_from_one_to (K : PySem.W.Frag) : TS :=
  (tRet (tAndV (tCall (sp_is_whole K) [] E0 (tCons (tVar 0) tNil)) (tAndV (tOp (cCmp fun i j => decide (i ≤ j)) (tC (.int 1)) (tVar 0)) (tOp (cCmp fun i j => decide (i ≤ j)) (tVar 0) (tVar 1)))))
theorem rk_is_from_one_to {K : PySem.W.Frag} {vs : List V} {H : Hp} {Q : VK} {E : XK} (h : sp_is_from_one_to K vs H Q E) : rd_is_from_one_to K { nx := fun _ H' => Q .non H', rt := Q } (start ["value", "most"] vs) H := by
  obtain ⟨i, m, rfl, q⟩ := h
  show rd_is_from_one_to K _ [some (.int i), some (.int m)] H
  unfold rd_is_from_one_to
  walk_at "w"
  refine ⟨i, rfl, ⟨true, rfl, iteT ?_⟩⟩
  walk_at "w"
  cases hb : decide (1 ≤ i) with
  | false =>
    rw [hb, Bool.false_and] at q
    exact iteF q
  | true =>
    rw [hb, Bool.true_and] at q
    exact iteT q
def sp_floor_of (K : PySem.W.Frag) : Sp := fun vs H Q _ => ∃ h w g : Int, vs = [.int h, .int w, .int g] ∧ FlOk h w g ∧ ∀ p, H p = none → Q (.ref p) (upd H p (.tup [.int h, .int w, .int g]))
theorem sl_floor_of {K : PySem.W.Frag} {vs : List V} {H : Hp} {Q : VK} {E : XK} (h : sp_floor_of K vs H Q E) : vs.length = 3 := by
  obtain ⟨_, _, _, rfl, _⟩ := h; rfl
def rd_floor_of (K : PySem.W.Frag) : TS :=
  (tSeq (tIfS (tNot (tB (tCall (sp_is_from_one_to K) [] E0 (tCons (tVar 0) (tCons (tC (.int 6)) tNil))))) tNever tNext)
    (tSeq (tIfS (tNot (tB (tCall (sp_is_from_one_to K) [] E0 (tCons (tVar 1) (tCons (tC (.int 6)) tNil))))) tNever tNext)
    (tSeq (tIfS (tTest (tOp (cCmp fun i j => decide (j < i)) (tOp cMul (tVar 0) (tVar 1)) (tC (.int 16)))) tNever tNext)
    (tSeq (tIfS (tNot (tB (tCall (sp_is_from_one_to K) [] E0 (tCons (tVar 2) (tCons (tC (.int 6)) tNil))))) tNever tNext)
    (tRet (tTup (tCons (tVar 0) (tCons (tVar 1) (tCons (tVar 2) tNil)))))))))
theorem rk_floor_of {K : PySem.W.Frag} {vs : List V} {H : Hp} {Q : VK} {E : XK} (h : sp_floor_of K vs H Q E) : rd_floor_of K { nx := fun _ H' => Q .non H', rt := Q } (start ["high", "wide", "signs"] vs) H := by
  obtain ⟨h, w, g, rfl, F, q⟩ := h
  obtain ⟨h0, h1, w0, w1, m16, g0, g1⟩ := id F
  show rd_floor_of K _ [some (.int h), some (.int w), some (.int g)] H
  unfold rd_floor_of
  rw [w_seq, w_if]
  walk_at "w"
  refine ⟨h, 6, rfl, ⟨_, rfl, ?_⟩⟩
  rw [decide_eq_true h0, decide_eq_true h1, Bool.and_self]
  refine iteF ?_
  rw [w_if]
  walk_at "w"
  refine ⟨w, 6, rfl, ⟨_, rfl, ?_⟩⟩
  rw [decide_eq_true w0, decide_eq_true w1, Bool.and_self]
  refine iteF ?_
  rw [w_if]
  walk_at "w"
  refine ⟨mul_small h0 h1, ?_⟩
  rw [decide_eq_false (show ¬ (16 : Int) < h * w by omega)]
  refine iteF ?_
  rw [w_if]
  walk_at "w"
  refine ⟨g, 6, rfl, ⟨_, rfl, ?_⟩⟩
  rw [decide_eq_true g0, decide_eq_true g1, Bool.and_self]
  refine iteF ?_
  walk_at "w"
  exact ⟨len_le (by show (3 : Nat) ≤ 1000; decide), q⟩
def sp_checked_floor (K : PySem.W.Frag) : Sp := fun vs H Q _ => ∃ (p : Addr) (h w g : Int), vs = [.ref p] ∧ IsFl H p h w g ∧ FlOk h w g ∧ ∀ p, H p = none → Q (.ref p) (upd H p (.tup [.int h, .int w, .int g]))
theorem sl_checked_floor {K : PySem.W.Frag} {vs : List V} {H : Hp} {Q : VK} {E : XK} (h : sp_checked_floor K vs H Q E) : vs.length = 1 := by
  obtain ⟨_, _, _, _, rfl, _⟩ := h; rfl
def rd_checked_floor (K : PySem.W.Frag) : TS :=
  (tSeq (tIfS (tOr (tNot (tB (tCB kIsi (tCons (tVar 0) (tCons (tC (.ty "tuple")) tNil))))) (tTest (tOp (cNe K) (tCB kLen (tCons (tVar 0) tNil)) (tC (.int 3))))) tNever tNext)
    (tRet (tCall (sp_floor_of K) [] E0 (tCons (tOp cIx (tVar 0) (tC (.int 0))) (tCons (tOp cIx (tVar 0) (tC (.int 1))) (tCons (tOp cIx (tVar 0) (tC (.int 2))) tNil))))))
theorem rk_checked_floor {K : PySem.W.Frag} {vs : List V} {H : Hp} {Q : VK} {E : XK} (h : sp_checked_floor K vs H Q E) : rd_checked_floor K { nx := fun _ H' => Q .non H', rt := Q } (start ["floor"] vs) H := by
  obtain ⟨p, h, w, g, rfl, hp, F, q⟩ := h
  show rd_checked_floor K _ [some (.ref p)] H
  unfold rd_checked_floor
  rw [w_seq, w_if]
  walk_at "w"
  refine w_isiT hp ?_
  walk_at "w"
  rw [w_lenT hp, show (([V.int h, V.int w, V.int g] : List V).length : Int) = 3 from rfl]
  walk_at "w"
  refine ixT hp (v := V.int h) rfl ?_
  walk_at "w"
  refine ixT hp (v := V.int w) rfl ?_
  walk_at "w"
  refine ixT hp (v := V.int g) rfl ?_
  walk_at "w"
  exact ⟨h, w, g, rfl, F, q⟩
def sp_read_rules (K : PySem.W.Frag) (c : RCl RK) : Sp := fun vs H Q _ => ∃ (p a : Addr) (h w g : Int) (rows : List RR), vs = [.ref p, .ref a] ∧ IsFl H p h w g ∧ H a = some (.lst ((rows.map RR.txt).map V.str)) ∧ RowsOk c h w g rows ∧
  ∀ l rs H', Same H H' → H l = none → IsRules H' c p l rs rows → Q (.ref l) H'
theorem sl_read_rules {K : PySem.W.Frag} {c : RCl RK} {vs : List V} {H : Hp} {Q : VK} {E : XK} (h : sp_read_rules K c vs H Q E) : vs.length = 2 := by
  obtain ⟨_, _, _, _, _, _, rfl, _⟩ := h; rfl
def rd_read_rules (K : PySem.W.Frag) (c : RCl RK) : TS :=
  (tSeq (tIfS (tTest (tOp (cCmp fun i j => decide (j < i)) (tCB kLen (tCons (tVar 1) tNil)) (tC (.int 12)))) tNever tNext)
    (tRet (tComp [none, none, some 0] (iList K (tVar 1)) (gName 1) tTrue (tCall (sp_read_rule K c) [] E0 (tCons (tVar 2) (tCons (tVar 1) tNil))))))
theorem rk_read_rules {K : PySem.W.Frag} {c : RCl RK} {vs : List V} {H : Hp} {Q : VK} {E : XK} (h : sp_read_rules K c vs H Q E) : rd_read_rules K c { nx := fun _ H' => Q .non H', rt := Q } (start ["floor", "lines"] vs) H := by
  obtain ⟨p, a, h, w, g, rows, rfl, hp, ha, O, q⟩ := h
  have hn := O.n
  show rd_read_rules K c _ [some (.ref p), some (.ref a)] H
  unfold rd_read_rules
  rw [w_seq, w_if]
  walk_at "w"
  rw [w_len ha, List.length_map, List.length_map]
  walk_at "w"
  rw [decide_eq_false (show ¬ (12 : Int) < (rows.length : Nat) by omega)]
  refine iteF ?_
  walk_at "w"
  refine ⟨⟨_, SqL.of ha⟩, ?_⟩
  refine comp_list (xs := (rows.map RR.txt).map V.str) (fun l i σ H' => (∃ cv, σ = [none, cv, some (.ref p)]) ∧ Same H H' ∧ ∃ rs : List Addr, H' l = some (.lst (rs.map V.ref)) ∧ rs.length = i ∧ ∀ (j : Nat) (r : Addr) (x : RR), rs[j]? = some r → rows[j]? = some x → IsRule H' c x.k r p x.ws x.cs x.n x.m)
    (fun l hl => ⟨⟨none, rfl⟩, (Same.refl H).laid hl, [], by rw [upd_same]; rfl, rfl, fun j r x e => by simp at e⟩) (fun l i σ H' _ _ x => x.2.1.seq (SqL.of ha)) ?_ ?_
  · rintro l i x σ H1 hl hx ⟨⟨cv, rfl⟩, s1, rs, el, hlen, hat⟩
    rw [List.getElem?_map, List.getElem?_map] at hx
    cases e : rows[i]? with
    | none => rw [e] at hx; cases hx
    | some y =>
      rw [e] at hx
      cases hx
      have hi := (List.getElem?_eq_some_iff.mp e).1
      have hm := List.mem_of_getElem? e
      rw [w_gname]
      show tTrue [none, some (.str y.txt), some (.ref p)] H1 _
      walk_at "w"
      refine ⟨y.k, p, h, w, g, y.n, y.m, y.ns, y.cs, rfl, s1 _ _ hp, O.F, O.ok y hm, O.c y hm, fun r H2 s2 hr xr => ?_⟩
      have nrl : r ≠ l := fun z => by rw [z, el] at hr; cases hr
      refine ⟨_, s2 _ _ el, by rw [List.length_map]; exact small1000 (by omega), ⟨_, rfl⟩, (s1.trans s2).own hl, rs ++ [r], by rw [upd_same]; simp, by simp [hlen], fun j r' x' h1 h2 => ?_⟩
      by_cases hj : j < rs.length
      · rw [List.getElem?_append_left hj] at h1
        exact ((hat j r' x' h1 h2).same s2).lst (s2 _ _ el)
      · rw [List.getElem?_append_right (by omega)] at h1
        have hj0 : j - rs.length = 0 := by
          have := (List.getElem?_eq_some_iff.mp h1).1
          simp at this
          omega
        rw [hj0] at h1
        have : j = i := by omega
        subst this
        rw [e] at h2
        simp at h1
        cases h2
        subst h1
        exact xr.lst (s2 _ _ el)
  · rintro l σ H1 hl ⟨_, s1, rs, el, hlen, hat⟩
    exact q l rs H1 s1 hl ⟨el, by rw [hlen]; simp, hat⟩
def filB (least g : Int) (n : Nat) (xs : List Int) : Bool := decide (xs.length = n) && xs.all fun x => decide (least ≤ x) && decide (x ≤ g)
def sp_is_filling (K : PySem.W.Frag) : Sp := fun vs H Q _ => ∃ (p a : Addr) (h w g least : Int) (xs : List Int), vs = [.ref p, .ref a, .int least] ∧ IsFl H p h w g ∧ FlOk h w g ∧ H a = some (.lst (xs.map V.int)) ∧ xs.length ≤ 100 ∧ ∀ H', Same H H' → Q (.bl (filB least g (h * w).toNat xs)) H'
theorem sl_is_filling {K : PySem.W.Frag} {vs : List V} {H : Hp} {Q : VK} {E : XK} (h : sp_is_filling K vs H Q E) : vs.length = 3 := by
  obtain ⟨_, _, _, _, _, _, _, rfl, _⟩ := h; rfl
def rd_is_filling (K : PySem.W.Frag) : TS :=
  (tSeq (tIfS (tOr (tNot (tB (tCB kIsi (tCons (tVar 1) (tCons (tC (.ty "list")) tNil))))) (tTest (tOp (cNe K) (tCB kLen (tCons (tVar 1) tNil)) (tCall (sp_many_cells K) [] E0 (tCons (tVar 0) tNil))))) (tRet (tC (.bl false))) tNext)
    (tRet (tCB kAll (tCons (tComp [none, none, some 0, some 2] (iList K (tVar 1)) (gName 1) tTrue (tAndV (tCall (sp_is_whole K) [] E0 (tCons (tVar 1) tNil)) (tAndV (tOp (cCmp fun i j => decide (i ≤ j)) (tVar 3) (tVar 1)) (tOp (cCmp fun i j => decide (i ≤ j)) (tVar 1) (tOp cIx (tVar 2) (tC (.int 2))))))) tNil))))
theorem rk_is_filling {K : PySem.W.Frag} {vs : List V} {H : Hp} {Q : VK} {E : XK} (h : sp_is_filling K vs H Q E) : rd_is_filling K { nx := fun _ H' => Q .non H', rt := Q } (start ["floor", "filling", "least"] vs) H := by
  obtain ⟨p, a, h, w, g, least, xs, rfl, hp, F, ha, hn, q⟩ := h
  obtain ⟨h0, h1, w0, w1, m16, g0, g1⟩ := id F
  have mpos : 0 ≤ h * w := Int.mul_nonneg (by omega) (by omega)
  show rd_is_filling K _ [some (.ref p), some (.ref a), some (.int least)] H
  unfold rd_is_filling
  rw [w_seq, w_if]
  walk_at "w"
  refine w_isiL ha ?_
  walk_at "w"
  rw [w_len ha, List.length_map]
  walk_at "w"
  refine ⟨p, h, w, g, rfl, hp, h0, h1, ?_⟩
  walk_at "w"
  unfold filB at q
  by_cases hl : xs.length = (h * w).toNat
  · rw [decide_eq_true (show (xs.length : Int) = h * w by omega)]
    rw [decide_eq_true hl] at q
    walk_at "w"
    refine ⟨⟨_, SqL.of ha⟩, ?_⟩
    refine compV_list (xs := xs.map V.int) (fun _ => true) (fun i => .bl (decide (least ≤ xs.getD i 0) && decide (xs.getD i 0 ≤ g))) (by rw [List.length_map]; omega) (SqL.of ha) ?_ ?_ ?_
    · intro i x H1 R hx s1 k1
      exact k1 _ (Same.refl _)
    · intro i x H1 Q1 hx hb s1 k1
      obtain ⟨z, hz, rfl⟩ := map_int_get hx
      have q1 := k1 _ (Same.refl H1)
      rw [getD_of hz] at q1
      show tAndV _ _ [none, some (.int z), some (.ref p), some (.int least)] H1 Q1
      walk_at "w"
      refine ⟨z, rfl, ⟨true, rfl, iteT ?_⟩⟩
      walk_at "w"
      cases hb : decide (least ≤ z) with
      | false =>
        rw [hb, Bool.false_and] at q1
        exact iteF q1
      | true =>
        rw [hb, Bool.true_and] at q1
        refine iteT ?_
        walk_at "w"
        refine ixT (s1 _ _ hp) (v := V.int g) rfl ?_
        walk_at "w"
        exact q1
    · intro l H1 hl1 s1 el
      have eb : ((List.range (xs.map V.int).length).filter fun _ => true).map (fun i => V.bl (decide (least ≤ xs.getD i 0) && decide (xs.getD i 0 ≤ g))) = (xs.map fun x => decide (least ≤ x) && decide (x ≤ g)).map V.bl := by
        rw [filter_tt, List.length_map]
        refine List.ext_getElem? fun i => ?_
        rw [List.getElem?_map, List.getElem?_map, List.getElem?_map]
        by_cases h : i < xs.length
        · rw [List.getElem?_range h, List.getElem?_eq_getElem h]
          simp [List.getD, h]
        · rw [List.getElem?_eq_none (by simpa using h), List.getElem?_eq_none (by omega)]; rfl
      rw [eb] at el
      refine w_all el ?_
      have ea : (xs.map fun x => decide (least ≤ x) && decide (x ≤ g)).all id = xs.all fun x => decide (least ≤ x) && decide (x ≤ g) := by rw [List.all_map]; rfl
      rw [ea]
      exact q _ s1
  · rw [decide_eq_false (show ¬ (xs.length : Int) = h * w by omega)]
    rw [decide_eq_false hl] at q
    walk_at "w"
    exact q _ (Same.refl _)
def sp_checked_clues (K : PySem.W.Frag) : Sp := fun vs H Q _ => ∃ (p a : Addr) (h w g : Int) (xs : List Int), vs = [.ref p, .ref a] ∧ IsFl H p h w g ∧ FlOk h w g ∧ H a = some (.lst (xs.map V.int)) ∧ CluesOk h w g xs ∧ ∀ l H', Same H H' → H l = none → H' l = some (.lst (xs.map V.int)) → Q (.ref l) H'
theorem sl_checked_clues {K : PySem.W.Frag} {vs : List V} {H : Hp} {Q : VK} {E : XK} (h : sp_checked_clues K vs H Q E) : vs.length = 2 := by
  obtain ⟨_, _, _, _, _, _, rfl, _⟩ := h; rfl
def rd_checked_clues (K : PySem.W.Frag) : TS :=
  (tSeq (tIfS (tNot (tB (tCall (sp_is_filling K) [] E0 (tCons (tVar 0) (tCons (tVar 1) (tCons (tC (.int 0)) tNil)))))) tNever tNext)
    (tRet (tCB kList (tCons (tVar 1) tNil))))
theorem CluesOk.fil {h w g : Int} {xs : List Int} (C : CluesOk h w g xs) : filB 0 g (h * w).toNat xs = true := by
  unfold filB
  rw [decide_eq_true C.len, Bool.true_and, List.all_eq_true]
  intro x hx
  have := C.ok x hx
  simp [this.1, this.2]
theorem rk_checked_clues {K : PySem.W.Frag} {vs : List V} {H : Hp} {Q : VK} {E : XK} (h : sp_checked_clues K vs H Q E) : rd_checked_clues K { nx := fun _ H' => Q .non H', rt := Q } (start ["floor", "clues"] vs) H := by
  obtain ⟨p, a, h, w, g, xs, rfl, hp, F, ha, C, q⟩ := h
  obtain ⟨h0, h1, w0, w1, m16, g0, g1⟩ := id F
  show rd_checked_clues K _ [some (.ref p), some (.ref a)] H
  unfold rd_checked_clues
  rw [w_seq, w_if]
  walk_at "w"
  refine ⟨p, a, h, w, g, 0, xs, rfl, hp, F, ha, by have := C.len; omega, fun H1 s1 => ?_⟩
  rw [C.fil]
  refine ⟨true, rfl, iteF ?_⟩
  walk_at "w"
  refine w_list (s1 _ _ ha) fun l hl => ?_
  exact q l _ (s1.laid hl) (s1.free hl) upd_same
theorem IsRule.ins {H : Hp} {c : RCl RK} {k : RK} {r p a : Addr} {ws : List (List Nat)} {cs : List Int} {n m : Int} {C dx : Addr} {fs : List (Str × V)} {o : HO} (x : IsRule H c k r p ws cs n m) (ha : H a = some (.ins C dx fs)) (hf : fs.length ≠ 5) : IsRule (upd H a o) c k r p ws cs n m := by
  obtain ⟨dx', W, C', h1, h2, h3⟩ := x.ex
  refine ⟨x.ok, dx', W, C', ?_, ?_, ?_⟩
  · rw [upd_ne (fun e => by rw [e, ha] at h1; cases h1; exact hf rfl)]; exact h1
  · rw [upd_ne (fun e => by rw [e, ha] at h2; cases h2)]; exact h2
  · rw [upd_ne (fun e => by rw [e, ha] at h3; cases h3)]; exact h3
theorem IsRules.ins {H : Hp} {c : RCl RK} {p L a : Addr} {rs : List Addr} {rows : List RR} {C dx : Addr} {fs : List (Str × V)} {o : HO} (x : IsRules H c p L rs rows) (ha : H a = some (.ins C dx fs)) (hf : fs.length ≠ 5) : IsRules (upd H a o) c p L rs rows :=
  ⟨by rw [upd_ne (fun e => by have := x.top; rw [e, ha] at this; cases this)]; exact x.top, x.len, fun i r y h1 h2 => (x.at_ i r y h1 h2).ins ha hf⟩
def sp_Puzzle___init__ (K : PySem.W.Frag) (c : RCl RK) (d : RCl PzK) : Sp := fun vs H Q _ => ∃ (x dx p a b : Addr) (h w g : Int) (rows : List RR) (cl : List Int), vs = [.ref x, .ref p, .ref a, .ref b] ∧ d.ok .Puzzle = true ∧ H x = some (.ins (d.A .Puzzle) dx []) ∧ IsFl H p h w g ∧ H a = some (.lst ((rows.map RR.txt).map V.str)) ∧ H b = some (.lst (cl.map V.int)) ∧ RowsOk c h w g rows ∧ CluesOk h w g cl ∧
  ∀ L G H', (∀ y o, y ≠ x → H y = some o → H' y = some o) → H L = none → H G = none → IsPz H' c d x L G h w g rows cl → Q .non H'
theorem sl_Puzzle___init__ {K : PySem.W.Frag} {c : RCl RK} {d : RCl PzK} {vs : List V} {H : Hp} {Q : VK} {E : XK} (h : sp_Puzzle___init__ K c d vs H Q E) : vs.length = 4 := by
  obtain ⟨_, _, _, _, _, _, _, _, _, _, rfl, _⟩ := h; rfl
def rd_Puzzle___init__ (K : PySem.W.Frag) (c : RCl RK) (d : RCl PzK) : TS :=
  (tSeq (sFldK d (tVar 0) (tCall (sp_checked_floor K) [] E0 (tCons (tVar 1) tNil)) "floor")
    (tSeq (sFldK d (tVar 0) (tCall (sp_read_rules K c) [] E0 (tCons (tFldK d (tVar 0) "floor") (tCons (tVar 2) tNil))) "laws")
    (sFldK d (tVar 0) (tCall (sp_checked_clues K) [] E0 (tCons (tFldK d (tVar 0) "floor") (tCons (tVar 3) tNil))) "given")))
theorem rk_Puzzle___init__ {K : PySem.W.Frag} {c : RCl RK} {d : RCl PzK} {vs : List V} {H : Hp} {Q : VK} {E : XK} (h : sp_Puzzle___init__ K c d vs H Q E) : rd_Puzzle___init__ K c d { nx := fun _ H' => Q .non H', rt := Q } (start ["self", "floor", "lines", "clues"] vs) H := by
  obtain ⟨x, dx, p, a, b, h, w, g, rows, cl, rfl, ok, hx, hp, ha, hb, R, C, q⟩ := h
  show rd_Puzzle___init__ K c d _ [some (.ref x), some (.ref p), some (.ref a), some (.ref b)] H
  unfold rd_Puzzle___init__ sFldK
  walk_at "w"
  refine ⟨p, h, w, g, rfl, hp, R.F, fun p1 hp1 => ?_⟩
  have nxp : x ≠ p1 := ne_of_none hx hp1
  refine ⟨x, .Puzzle, dx, [], rfl, ok, by rw [upd_ne nxp]; exact hx, by show (0 : Nat) < 1000; decide, ?_⟩
  have f1 : ∀ y o, y ≠ x → H y = some o → (upd (upd H p1 (.tup [.int h, .int w, .int g])) x (.ins (d.A .Puzzle) dx (putF "floor" (.ref p1) []))) y = some o := fun y o ny e => by
    rw [upd_ne ny, upd_ne (ne_of_none e hp1)]; exact e
  have hx1 : (upd (upd H p1 (.tup [.int h, .int w, .int g])) x (.ins (d.A .Puzzle) dx (putF "floor" (.ref p1) []))) x = some (.ins (d.A .Puzzle) dx [("floor", .ref p1)]) := upd_same
  have hp1' : IsFl (upd (upd H p1 (.tup [.int h, .int w, .int g])) x (.ins (d.A .Puzzle) dx (putF "floor" (.ref p1) []))) p1 h w g := by
    show (upd (upd H p1 (.tup [.int h, .int w, .int g])) x _) p1 = _
    rw [upd_ne nxp.symm, upd_same]
  have fr1 : ∀ l, (upd (upd H p1 (.tup [.int h, .int w, .int g])) x (.ins (d.A .Puzzle) dx (putF "floor" (.ref p1) []))) l = none → H l = none := fun l e => by
    have n1 : l ≠ x := fun z => by rw [z, upd_same] at e; cases e
    rw [upd_ne n1] at e
    have n2 : l ≠ p1 := fun z => by rw [z, upd_same] at e; cases e
    rw [upd_ne n2] at e
    exact e
  have nax : a ≠ x := fun z => by rw [z, hx] at ha; cases ha
  have nbx : b ≠ x := fun z => by rw [z, hx] at hb; cases hb
  generalize upd (upd H p1 (.tup [.int h, .int w, .int g])) x (.ins (d.A .Puzzle) dx (putF "floor" (.ref p1) [])) = H1 at *
  refine fldE (c := d) (k := .Puzzle) rfl ok hx1 (v := .ref p1) (by rfl) ?_
  walk_at "w"
  refine ⟨p1, a, h, w, g, rows, rfl, hp1', f1 a _ nax ha, R, fun L rs H2 s2 hL X => ?_⟩
  refine ⟨x, .Puzzle, dx, _, rfl, ok, s2 _ _ hx1, by show (1 : Nat) < 1000; decide, ?_⟩
  have nxL : L ≠ x := fun z => by rw [z, hx1] at hL; cases hL
  have X3 := X.ins (o := .ins (d.A .Puzzle) dx (putF "laws" (.ref L) [("floor", .ref p1)])) (s2 _ _ hx1) (by show (1 : Nat) ≠ 5; decide)
  have f2 : ∀ y o, y ≠ x → H y = some o → (upd H2 x (.ins (d.A .Puzzle) dx (putF "laws" (.ref L) [("floor", .ref p1)]))) y = some o := fun y o ny e => by
    rw [upd_ne ny]; exact s2 _ _ (f1 y o ny e)
  have hx3 : (upd H2 x (.ins (d.A .Puzzle) dx (putF "laws" (.ref L) [("floor", .ref p1)]))) x = some (.ins (d.A .Puzzle) dx [("floor", .ref p1), ("laws", .ref L)]) := upd_same
  have hp3 : IsFl (upd H2 x (.ins (d.A .Puzzle) dx (putF "laws" (.ref L) [("floor", .ref p1)]))) p1 h w g := by
    show (upd H2 x _) p1 = _
    rw [upd_ne nxp.symm]; exact s2 _ _ hp1'
  have fr3 : ∀ l, (upd H2 x (.ins (d.A .Puzzle) dx (putF "laws" (.ref L) [("floor", .ref p1)]))) l = none → H1 l = none := fun l e => by
    have n1 : l ≠ x := fun z => by rw [z, upd_same] at e; cases e
    rw [upd_ne n1] at e
    exact s2.free e
  generalize upd H2 x (.ins (d.A .Puzzle) dx (putF "laws" (.ref L) [("floor", .ref p1)])) = H3 at *
  refine fldE (c := d) (k := .Puzzle) rfl ok hx3 (v := .ref p1) (by rfl) ?_
  walk_at "w"
  refine ⟨p1, b, h, w, g, cl, rfl, hp3, R.F, f2 b _ nbx hb, C, fun G H4 s4 hG eG => ?_⟩
  refine ⟨x, .Puzzle, dx, _, rfl, ok, s4 _ _ hx3, by show (2 : Nat) < 1000; decide, ?_⟩
  have nxG : G ≠ x := fun z => by rw [z, hx3] at hG; cases hG
  refine q L G _ (fun y o ny e => ?_) (fr1 L hL) (fr1 G (fr3 G hG)) ⟨ok, R, C, ?_, dx, p1, rs, ?_, ?_, ?_⟩
  · rw [upd_ne ny]; exact s4 _ _ (f2 y o ny e)
  · rw [upd_ne nxG]; exact eG
  · rw [upd_same]; rfl
  · show (upd H4 x _) p1 = _
    rw [upd_ne nxp.symm]; exact s4 _ _ hp3
  · exact (X3.same s4).ins (s4 _ _ hx3) (by show (2 : Nat) ≠ 5; decide)
theorem mk_puz {K : PySem.W.Frag} {c : RCl RK} {d : RCl PzK} {H : Hp} {Z : Addr → Hp → Prop} {p a b : Addr} {h w g : Int} {rows : List RR} {cl : List Int} (ok : d.ok .Puzzle = true) (hp : IsFl H p h w g) (ha : H a = some (.lst ((rows.map RR.txt).map V.str))) (hb : H b = some (.lst (cl.map V.int))) (R : RowsOk c h w g rows) (C : CluesOk h w g cl)
    (q : ∀ P L G H', Same H H' → H P = none → H L = none → H G = none → IsPz H' c d P L G h w g rows cl → Z P H') :
    ∀ x dx, H x = none → H dx = none → dx ≠ x → sp_Puzzle___init__ K c d (.ref x :: ([.ref p, .ref a, .ref b] ++ [])) (upd (upd H dx (.own x)) x (.ins (d.A .Puzzle) dx [])) (fun v H2 => v = .non ∧ Z x H2) E0 := by
  intro x dx hx hd ne
  have k : ∀ y o, H y = some o → (upd (upd H dx (.own x)) x (.ins (d.A .Puzzle) dx [])) y = some o := fun y o e => by rw [upd_ne (ne_of_none e hx), upd_ne (ne_of_none e hd)]; exact e
  have fr : ∀ y, (upd (upd H dx (.own x)) x (.ins (d.A .Puzzle) dx [])) y = none → H y = none := fun y e => by
    have n1 : y ≠ x := fun z => by rw [z, upd_same] at e; cases e
    rw [upd_ne n1] at e
    have n2 : y ≠ dx := fun z => by rw [z, upd_same] at e; cases e
    rw [upd_ne n2] at e
    exact e
  exact ⟨x, dx, p, a, b, h, w, g, rows, cl, rfl, ok, upd_same, k _ _ hp, k _ _ ha, k _ _ hb, R, C, fun L G H' hs hL hG X => ⟨rfl, q x L G H' (fun y o e => hs y o (ne_of_none e hx) (k _ _ e)) hx (fr L hL) (fr G hG) X⟩⟩
def sp_place (K : PySem.W.Frag) (c : RCl RK) (d : RCl PzK) (_ : PzK) : Sp := fun vs H Q _ => ∃ (P L G : Addr) (h w g : Int) (rows : List RR) (cl : List Int), vs = [.ref P] ∧ IsPz H c d P L G h w g rows cl ∧ ∀ p, IsFl H p h w g → Q (.ref p) H
def sp_Puzzle_place (K : PySem.W.Frag) (c : RCl RK) (d : RCl PzK) : Sp := sp_place K c d .Puzzle
theorem sl_Puzzle_place {K : PySem.W.Frag} {c : RCl RK} {d : RCl PzK} {vs : List V} {H : Hp} {Q : VK} {E : XK} (h : sp_Puzzle_place K c d vs H Q E) : vs.length = 1 := by
  obtain ⟨_, _, _, _, _, _, _, _, rfl, _⟩ := h; rfl
def rd_Puzzle_place (K : PySem.W.Frag) (c : RCl RK) (d : RCl PzK) : TS :=
  (tRet (tFldK d (tVar 0) "floor"))
theorem rk_Puzzle_place {K : PySem.W.Frag} {c : RCl RK} {d : RCl PzK} {vs : List V} {H : Hp} {Q : VK} {E : XK} (h : sp_Puzzle_place K c d vs H Q E) : rd_Puzzle_place K c d { nx := fun _ H' => Q .non H', rt := Q } (start ["self"] vs) H := by
  obtain ⟨P, L, G, h, w, g, rows, cl, rfl, x, q⟩ := h
  obtain ⟨dx, p, rs, h1, h2, h3⟩ := x.ex
  show rd_Puzzle_place K c d _ [some (.ref P)] H
  unfold rd_Puzzle_place
  walk_at "w"
  exact fldE (k := .Puzzle) rfl x.ok h1 (v := .ref p) (by rfl) (q p h2)
def sp_clues (K : PySem.W.Frag) (c : RCl RK) (d : RCl PzK) (_ : PzK) : Sp := fun vs H Q _ => ∃ (P L G : Addr) (h w g : Int) (rows : List RR) (cl : List Int), vs = [.ref P] ∧ IsPz H c d P L G h w g rows cl ∧ ∀ l, H l = none → Q (.ref l) (upd H l (.lst (cl.map V.int)))
def sp_Puzzle_clues (K : PySem.W.Frag) (c : RCl RK) (d : RCl PzK) : Sp := sp_clues K c d .Puzzle
theorem sl_Puzzle_clues {K : PySem.W.Frag} {c : RCl RK} {d : RCl PzK} {vs : List V} {H : Hp} {Q : VK} {E : XK} (h : sp_Puzzle_clues K c d vs H Q E) : vs.length = 1 := by
  obtain ⟨_, _, _, _, _, _, _, _, rfl, _⟩ := h; rfl
def rd_Puzzle_clues (K : PySem.W.Frag) (c : RCl RK) (d : RCl PzK) : TS :=
  (tRet (tCB kList (tCons (tFldK d (tVar 0) "given") tNil)))
theorem rk_Puzzle_clues {K : PySem.W.Frag} {c : RCl RK} {d : RCl PzK} {vs : List V} {H : Hp} {Q : VK} {E : XK} (h : sp_Puzzle_clues K c d vs H Q E) : rd_Puzzle_clues K c d { nx := fun _ H' => Q .non H', rt := Q } (start ["self"] vs) H := by
  obtain ⟨P, L, G, h, w, g, rows, cl, rfl, x, q⟩ := h
  obtain ⟨dx, p, rs, h1, h2, h3⟩ := x.ex
  show rd_Puzzle_clues K c d _ [some (.ref P)] H
  unfold rd_Puzzle_clues
  walk_at "w"
  refine fldE (k := .Puzzle) rfl x.ok h1 (v := .ref G) (by rfl) ?_
  walk_at "w"
  exact w_list x.gv q
theorem lines_comp {K : PySem.W.Frag} {c : RCl RK} {H : Hp} {p L : Addr} {rs : List Addr} {rows : List RR} {h w g : Int} {fin : Addr → Hp → Prop} (X : IsRules H c p L rs rows) (R : RowsOk c h w g rows)
    (hd : ∀ l H', H l = none → Same H H' → H' l = some (.lst ((rows.map RR.txt).map V.str)) → fin l H') : CompR (Itl K L) (gName 1) tTrue (tMethK c c.ok "line" (sp_line K c) (tVar 1) tNil) fin [none, none] H := by
  have hn := R.n
  have hlen := X.len
  refine compV_list (xs := rs.map V.ref) (fun _ => true) (fun i => .str ((rows.map RR.txt).getD i (tx []))) (by rw [List.length_map]; omega) (SqL.of X.top) ?_ ?_ ?_
  · intro i x H1 R hx s1 k1
    exact k1 _ (Same.refl _)
  · intro i x H1 Q1 hx hb s1 k1
    rw [List.getElem?_map] at hx
    cases e : rs[i]? with
    | none => rw [e] at hx; cases hx
    | some r =>
      rw [e] at hx
      cases hx
      have hi := (List.getElem?_eq_some_iff.mp e).1
      have er : rows[i]? = some rows[i] := List.getElem?_eq_getElem (by omega)
      have X1 := X.at_ i r _ e er
      obtain ⟨dx, W, C, h1, h2, h3⟩ := X1.ex
      have q1 := k1 _ (Same.refl H1)
      have eg : (rows.map RR.txt).getD i (tx []) = rows[i].txt := by rw [List.getD, List.getElem?_map, er]; rfl
      rw [eg] at q1
      have O := R.ok _ (List.mem_of_getElem? er)
      have ln := row_mem_len (k := rows[i].k) (n := rows[i].n) (m := rows[i].m) O.len
      show tMethK c c.ok "line" _ _ _ [none, some (.ref r)] H1 Q1
      refine methE (k := rows[i].k) rfl X1.ok (s1 _ _ h1) (by rfl) ?_
      walk_at "w"
      exact ⟨r, p, _, _, _, _, rfl, X1.same s1, ln.1, ln.2, q1⟩
  · intro l H1 hl s1 el
    refine hd l H1 hl s1 ?_
    rw [el, filter_tt, List.length_map, hlen]
    congr 2
    refine List.ext_getElem? fun i => ?_
    rw [List.getElem?_map, List.getElem?_map, List.getElem?_map]
    by_cases h : i < rows.length
    · rw [List.getElem?_range h, List.getElem?_eq_getElem h]
      simp [List.getD, h]
    · rw [List.getElem?_eq_none (by simpa using h), List.getElem?_eq_none (by omega)]; rfl
def sp_lines (K : PySem.W.Frag) (c : RCl RK) (d : RCl PzK) (_ : PzK) : Sp := fun vs H Q _ => ∃ (P L G : Addr) (h w g : Int) (rows : List RR) (cl : List Int), vs = [.ref P] ∧ IsPz H c d P L G h w g rows cl ∧ ∀ l H', Same H H' → H l = none → H' l = some (.lst ((rows.map RR.txt).map V.str)) → Q (.ref l) H'
def sp_Puzzle_lines (K : PySem.W.Frag) (c : RCl RK) (d : RCl PzK) : Sp := sp_lines K c d .Puzzle
theorem sl_Puzzle_lines {K : PySem.W.Frag} {c : RCl RK} {d : RCl PzK} {vs : List V} {H : Hp} {Q : VK} {E : XK} (h : sp_Puzzle_lines K c d vs H Q E) : vs.length = 1 := by
  obtain ⟨_, _, _, _, _, _, _, _, rfl, _⟩ := h; rfl
def rd_Puzzle_lines (K : PySem.W.Frag) (c : RCl RK) (d : RCl PzK) : TS :=
  (tRet (tComp [none, none] (iList K (tFldK d (tVar 0) "laws")) (gName 1) tTrue (tMethK c c.ok "line" (sp_line K c) (tVar 1) tNil)))
theorem rk_Puzzle_lines {K : PySem.W.Frag} {c : RCl RK} {d : RCl PzK} {vs : List V} {H : Hp} {Q : VK} {E : XK} (h : sp_Puzzle_lines K c d vs H Q E) : rd_Puzzle_lines K c d { nx := fun _ H' => Q .non H', rt := Q } (start ["self"] vs) H := by
  obtain ⟨P, L, G, h, w, g, rows, cl, rfl, x, q⟩ := h
  obtain ⟨dx, p, rs, h1, h2, h3⟩ := x.ex
  show rd_Puzzle_lines K c d _ [some (.ref P)] H
  unfold rd_Puzzle_lines
  rw [w_ret, w_compL]
  refine fldE (k := .Puzzle) rfl x.ok h1 (v := .ref L) (by rfl) ?_
  refine ⟨L, rfl, ⟨_, SqL.of h3.top⟩, ?_⟩
  exact lines_comp h3 x.R fun l H1 hl s1 el => q l H1 s1 hl el
def sp_clued (K : PySem.W.Frag) (c : RCl RK) (d : RCl PzK) (_ : PzK) : Sp := fun vs H Q _ => ∃ (P L G b : Addr) (h w g : Int) (rows : List RR) (cl cl2 : List Int), vs = [.ref P, .ref b] ∧ IsPz H c d P L G h w g rows cl ∧ H b = some (.lst (cl2.map V.int)) ∧ CluesOk h w g cl2 ∧
  ∀ P' L' G' H', Same H H' → H P' = none → H L' = none → H G' = none → IsPz H' c d P' L' G' h w g rows cl2 → Q (.ref P') H'
def sp_Puzzle_clued (K : PySem.W.Frag) (c : RCl RK) (d : RCl PzK) : Sp := sp_clued K c d .Puzzle
theorem sl_Puzzle_clued {K : PySem.W.Frag} {c : RCl RK} {d : RCl PzK} {vs : List V} {H : Hp} {Q : VK} {E : XK} (h : sp_Puzzle_clued K c d vs H Q E) : vs.length = 2 := by
  obtain ⟨_, _, _, _, _, _, _, _, _, _, rfl, _⟩ := h; rfl
def rd_Puzzle_clued (K : PySem.W.Frag) (c : RCl RK) (d : RCl PzK) : TS :=
  (tRet (tMake (d.A .Puzzle) (sp_Puzzle___init__ K c d) [] E0 (tCons (tFldK d (tVar 0) "floor") (tCons (tMethK d d.ok "lines" (sp_lines K c d) (tVar 0) tNil) (tCons (tVar 1) tNil)))))
theorem rk_Puzzle_clued {K : PySem.W.Frag} {c : RCl RK} {d : RCl PzK} {vs : List V} {H : Hp} {Q : VK} {E : XK} (h : sp_Puzzle_clued K c d vs H Q E) : rd_Puzzle_clued K c d { nx := fun _ H' => Q .non H', rt := Q } (start ["self", "clues"] vs) H := by
  obtain ⟨P, L, G, b, h, w, g, rows, cl, cl2, rfl, x, hb, C2, q⟩ := h
  obtain ⟨dx, p, rs, h1, h2, h3⟩ := x.ex
  show rd_Puzzle_clued K c d _ [some (.ref P), some (.ref b)] H
  unfold rd_Puzzle_clued
  walk_at "w"
  refine fldE (k := .Puzzle) rfl x.ok h1 (v := .ref p) (by rfl) ?_
  walk_at "w"
  refine methE (k := .Puzzle) rfl x.ok h1 (by rfl) ?_
  walk_at "w"
  refine ⟨P, L, G, h, w, g, rows, cl, rfl, x, fun l H1 s1 hl el => ?_⟩
  walk_at "w"
  exact mk_puz x.ok (s1 _ _ h2) el (s1 _ _ hb) x.R C2 fun P' L' G' H' s2 e1 e2 e3 X => q P' L' G' H' (s1.trans s2) (s1.free e1) (s1.free e2) (s1.free e3) X
end L2
set_option Elab.async false
set_option linter.all false
set_option maxRecDepth 100000
namespace L2
open PySem PySem.Spec PyProof.Rows
end L2
set_option Elab.async false
set_option linter.all false
set_option maxRecDepth 100000
namespace L2
open PySem PySem.Spec PyProof.Rows
local macro_rules | `(tactic| walk_at "w") => `(tactic| (first | simp only [w_seq, if_true, if_false, Bool.false_eq_true, decide_true, decide_false, w_lrng1, w_lrng2, w_ifE, w_compR2, w_scompR2, w_forRD, w_forE, w_compE, w_scompE, w_intB, w_intI, w_bitlen, w_shr, w_isi_ii, w_isi_ib, w_isi_bb, w_isi_bi, w_isi_ss, w_isi_bs, w_isi_is, w_iteT, w_iteF, w_negE, w_bitI, w_str, Bool.not_true, Bool.not_false, w_next, w_asg, w_gname, w_var0, w_varS, w_c, w_op, w_ret, w_retN, w_drop, w_test, w_b, w_not, w_and, w_or, w_notV, w_andV, w_orV, w_nil, w_cons, w_cb, w_call, w_tup, w_lst, w_bm, w_bm0, w_true, w_dnew, w_dput, w_forL, w_forR1, w_forR2, w_compL, w_compR1, w_scompL, w_scompR1, w_add, w_sub, w_mul, w_div, w_mod, w_cmp, w_eqI, w_neI, w_eqB, w_neB, w_abs, w_min, w_sl, w_part, w_nopart, w_gsub, w_un, w_forS, w_compS, w_scompS, w_eqS, w_neS, w_lenS, w_addS, w_find,
  List.getElem?_cons_zero, List.getElem?_cons_succ, Option.some.injEq, exists_eq_left', exists_eq_left, List.set_cons_zero, List.set_cons_succ, bnd_some, V.int.injEq, V.bl.injEq, V.ref.injEq, V.str.injEq, List.nil_append, List.cons_append] | dsimp only | skip))
end L2
set_option Elab.async false
set_option linter.all false
set_option maxRecDepth 100000
namespace L2
open PySem PySem.Spec PyProof.Rows
local macro_rules | `(tactic| walk_at "w") => `(tactic| (first | simp only [w_seq, w_make, w_inG, w_lenset, w_revL, w_int2B, w_int2I, w_max, w_isN, w_notN, w_pow, if_true, if_false, Bool.false_eq_true, decide_true, decide_false, w_lrng1, w_lrng2, w_ifE, w_compR2, w_scompR2, w_forRD, w_forE, w_compE, w_scompE, w_intB, w_intI, w_bitlen, w_shr, w_isi_ii, w_isi_ib, w_isi_bb, w_isi_bi, w_isi_ss, w_isi_bs, w_isi_is, w_iteT, w_iteF, w_negE, w_bitI, w_str, Bool.not_true, Bool.not_false, w_next, w_asg, w_gname, w_var0, w_varS, w_c, w_op, w_ret, w_retN, w_drop, w_test, w_b, w_not, w_and, w_or, w_notV, w_andV, w_orV, w_nil, w_cons, w_cb, w_call, w_tup, w_lst, w_bm, w_bm0, w_true, w_dnew, w_dput, w_forL, w_forR1, w_forR2, w_compL, w_compR1, w_scompL, w_scompR1, w_add, w_sub, w_mul, w_div, w_mod, w_cmp, w_eqI, w_neI, w_eqB, w_neB, w_abs, w_min, w_sl, w_part, w_nopart, w_gsub, w_un, w_forS, w_compS, w_scompS, w_eqS, w_neS, w_lenS, w_addS, w_find,
  List.getElem?_cons_zero, List.getElem?_cons_succ, Option.some.injEq, exists_eq_left', exists_eq_left, List.set_cons_zero, List.set_cons_succ, bnd_some, V.int.injEq, V.bl.injEq, V.ref.injEq, V.str.injEq, List.nil_append, List.cons_append] | dsimp only | skip))
theorem RowOk_all {k : RK} {h w g : Int} {m : Nat} (hk : allK k = true) (k0 : k ≠ .Rule) (hn : numK k = false) (hs : sgnK k = true) (m0 : 1 ≤ (m : Int)) (m1 : (m : Int) ≤ g) : RR.Ok ⟨k, 0, m, [], rngL 0 (h * w)⟩ h w g := by
  refine ⟨k0, Nat.zero_le _, fun _ => rfl, fun _ => ⟨m0, m1⟩, fun e => ?_, ⟨fun e => ?_, fun _ => ⟨rfl, rfl⟩⟩, fun x hx => (by cases hx), Nat.zero_le _⟩
  · rw [show sgnK k = false from e] at hs; cases hs
  · rw [show allK k = false from e] at hk; cases hk
def tNeverE : TE := fun _ _ _ => False
theorem pe_neverE {X : Cx} {e : Expr} : PE X e tNeverE := fun _ _ _ _ _ _ h => h.elim
end L2
set_option Elab.async false
set_option linter.all false
set_option maxRecDepth 100000
namespace L2
open PySem PySem.Spec PyProof.Rows
end L2
set_option Elab.async false
set_option linter.all false
set_option maxRecDepth 100000
namespace L2
open PySem PySem.Spec PyProof.Rows
local macro_rules | `(tactic| walk_at "w") => `(tactic| (first | simp only [w_seq, w_make, w_inG, w_lenset, w_revL, w_int2B, w_int2I, w_max, w_isN, w_notN, w_pow, if_true, if_false, Bool.false_eq_true, decide_true, decide_false, w_lrng1, w_lrng2, w_ifE, w_compR2, w_scompR2, w_forRD, w_forE, w_compE, w_scompE, w_intB, w_intI, w_bitlen, w_shr, w_isi_ii, w_isi_ib, w_isi_bb, w_isi_bi, w_isi_ss, w_isi_bs, w_isi_is, w_iteT, w_iteF, w_negE, w_bitI, w_str, Bool.not_true, Bool.not_false, w_next, w_asg, w_gname, w_var0, w_varS, w_c, w_op, w_ret, w_retN, w_drop, w_test, w_b, w_not, w_and, w_or, w_notV, w_andV, w_orV, w_nil, w_cons, w_cb, w_call, w_tup, w_lst, w_bm, w_bm0, w_true, w_dnew, w_dput, w_forL, w_forR1, w_forR2, w_compL, w_compR1, w_scompL, w_scompR1, w_add, w_sub, w_mul, w_div, w_mod, w_cmp, w_eqI, w_neI, w_eqB, w_neB, w_abs, w_min, w_sl, w_part, w_nopart, w_gsub, w_un, w_forS, w_compS, w_scompS, w_eqS, w_neS, w_lenS, w_addS, w_find,
  List.getElem?_cons_zero, List.getElem?_cons_succ, Option.some.injEq, exists_eq_left', exists_eq_left, List.set_cons_zero, List.set_cons_succ, bnd_some, V.int.injEq, V.bl.injEq, V.ref.injEq, V.str.injEq, List.nil_append, List.cons_append] | dsimp only | skip))
theorem cat_len34 : ∀ (rs : List (List Nat)), (∀ r ∈ rs, r.length ≤ 2) → (catL 32 rs).length ≤ 3 * rs.length
  | [], _ => by simp [catL]
  | [x], h => by have := h x List.mem_cons_self; simp [catL]; omega
  | x :: y :: r, h => by
    rw [cat_cons (by simp)]
    have h1 := h x List.mem_cons_self
    have h2 := cat_len34 (y :: r) fun z hz => h z (List.mem_cons_of_mem _ hz)
    simp only [List.length_append, List.length_cons] at *
    omega
theorem cells_len34 {cs : List Nat} (h : cs.length ≤ 16) : (catL 32 (cs.map numC)).length ≤ 48 := by
  have := cat_len34 (cs.map numC) fun r hr => by obtain ⟨x, _, rfl⟩ := List.mem_map.mp hr; exact num_len
  rw [List.length_map] at this
  omega
theorem RowOk_list {k : RK} {h w g : Int} {n m : Nat} {ns : List Nat} (F : FlOk h w g) (ne : ns ≠ []) (lt : ∀ c ∈ ns, (c : Int) < h * w) (nd : ns.Nodup) (len : ns.length ≤ 16) (hk : allK k = false) (k0 : k ≠ .Rule) (n0 : n ≤ 99) (nz : numK k = false → n = 0) (m0 : sgnK k = true → 1 ≤ (m : Int) ∧ (m : Int) ≤ g) (mz : sgnK k = false → m = 0) :
    RR.Ok ⟨k, n, m, ns, ns.map fun (n : Nat) => (n : Int)⟩ h w g := by
  have m16 := F.m
  refine ⟨k0, n0, nz, m0, mz, ⟨fun _ => ⟨ne, len, lt, nd, rfl⟩, fun e => ?_⟩, fun x hx => ?_, len⟩
  · rw [show allK k = false from hk] at e; cases e
  · have := lt x hx
    omega
end L2
set_option Elab.async false
set_option linter.all false
set_option maxRecDepth 100000
namespace L2
open PySem PySem.Spec PyProof.Rows
local macro_rules | `(tactic| walk_at "w") => `(tactic| (first | simp only [w_seq, w_next, w_asg, w_gname, w_var0, w_varS, w_c, w_op, w_ret, w_retN, w_drop, w_test, w_b, w_not, w_and, w_or, w_notV, w_andV, w_orV, w_nil, w_cons, w_cb, w_call, w_tup, w_lst, w_bm, w_bm0, w_true, w_dnew, w_dput, w_forL, w_forR1, w_forR2, w_compL, w_compR1, w_scompL, w_scompR1, w_add, w_sub, w_mul, w_div, w_mod, w_cmp, w_eqI, w_neI, w_eqB, w_neB, w_abs, w_min, w_sl, w_part, w_nopart, w_gsub, w_un, w_forS, w_compS, w_scompS, w_eqS, w_neS, w_lenS, w_addS, w_find,
  List.getElem?_cons_zero, List.getElem?_cons_succ, Option.some.injEq, exists_eq_left', exists_eq_left, List.set_cons_zero, List.set_cons_succ, bnd_some, V.int.injEq, V.bl.injEq, V.ref.injEq, V.str.injEq, List.nil_append, List.cons_append] | dsimp only | skip))
theorem fig_at {x : Int} (h0 : 0 ≤ x) (h6 : x ≤ 6) : atI (tx [46, 49, 50, 51, 52, 53, 54]).cps.toList x = some (figc x) := by
  rw [tx_cps]
  have : x = 0 ∨ x = 1 ∨ x = 2 ∨ x = 3 ∨ x = 4 ∨ x = 5 ∨ x = 6 := by omega
  rcases this with rfl | rfl | rfl | rfl | rfl | rfl | rfl <;> rfl
def sp_show_row (K : PySem.W.Frag) : Sp := fun vs H Q _ => ∃ (p : Addr) (xs : List Int), vs = [.ref p] ∧ H p = some (.lst (xs.map V.int)) ∧ xs.length ≤ 100 ∧ (∀ x ∈ xs, 0 ≤ x ∧ x ≤ 6) ∧ ∀ H', Same H H' → Q (.str (tx (xs.map figc))) H'
theorem sl_show_row {K : PySem.W.Frag} {vs : List V} {H : Hp} {Q : VK} {E : XK} (h : sp_show_row K vs H Q E) : vs.length = 1 := by
  obtain ⟨_, _, rfl, _⟩ := h; rfl
def rd_show_row (K : PySem.W.Frag) : TS :=
  (tRet (tBM K "str" kJoin (tC (.str (tx []))) (tCons (tComp [none, none] (iList K (tVar 0)) (gName 1) tTrue (tOp cIx (tC (.str (tx [46, 49, 50, 51, 52, 53, 54]))) (tVar 1))) tNil)))
theorem rk_show_row {K : PySem.W.Frag} {vs : List V} {H : Hp} {Q : VK} {E : XK} (h : sp_show_row K vs H Q E) : rd_show_row K { nx := fun _ H' => Q .non H', rt := Q } (start ["signs"] vs) H := by
  obtain ⟨p, xs, rfl, hp, hn, hx, k⟩ := h
  show rd_show_row K _ [some (.ref p)] H
  unfold rd_show_row
  walk_at "w"
  refine ⟨w_tyS, ⟨_, SqL.of hp⟩, ?_⟩
  refine compV_list (xs := xs.map V.int) (fun _ => true) (fun i => .str (tx [figc (xs.getD i 0)])) (by rw [List.length_map]; omega) (SqL.of hp) ?_ ?_ ?_
  · intro i x H1 R hx s1 k1
    exact k1 _ (Same.refl _)
  · intro i x H1 Q1 hi hb s1 k1
    obtain ⟨z, hz, rfl⟩ := map_int_get hi
    have := hx z (List.mem_of_getElem? hz)
    show tOp cIx _ _ [none, some (.int z)] H1 Q1
    walk_at "w"
    rw [w_ixS]
    refine ⟨by rw [tx_len]; exact len_le (by decide), bnd_of (fig_at this.1 this.2) ?_⟩
    have q := k1 _ (Same.refl H1)
    rw [getD_of hz] at q
    exact q
  · intro l H1 hl s1 el
    have e : (List.filter (fun _ => true) (List.range (xs.map V.int).length)).map (fun i => V.str (tx [figc (xs.getD i 0)])) = (xs.map fun x => tx [figc x]).map V.str := by
      rw [filter_tt, List.length_map, List.map_map, ← map_range_get xs (V.str ∘ fun x => tx [figc x])]
      rfl
    rw [e] at el
    refine w_join el (joinOk_small (by rw [List.length_map]; omega) (fun t ht => by obtain ⟨x, _, rfl⟩ := List.mem_map.mp ht; rw [tx_len]; show (1 : Nat) ≤ 1000; decide) (by rw [tx_len]; decide)) ?_
    rw [Txt_join, show (xs.map fun x => tx [figc x]) = (xs.map fun x => [figc x]).map tx by rw [List.map_map]; rfl, join0_tx]
    have e2 : (xs.map fun x => [figc x]).flatten = xs.map figc := by
      clear hx k hn e el hp
      induction xs with
      | nil => rfl
      | cons x r ih => rw [List.map_cons, List.flatten_cons, ih]; rfl
    rw [e2]
    exact k _ s1
theorem mulN {a b : Int} (h0 : 0 ≤ a) (h1 : 0 ≤ b) : (a * b).toNat = a.toNat * b.toNat := by
  obtain ⟨n, rfl⟩ := Int.eq_ofNat_of_zero_le h0
  obtain ⟨m, rfl⟩ := Int.eq_ofNat_of_zero_le h1
  rw [← Int.natCast_mul, Int.toNat_natCast, Int.toNat_natCast, Int.toNat_natCast]
def sp_show_filling (K : PySem.W.Frag) : Sp := fun vs H Q _ => ∃ (a p : Addr) (h w g : Int) (xs : List Int), vs = [.ref a, .ref p] ∧ IsFl H a h w g ∧ FlOk h w g ∧ H p = some (.lst (xs.map V.int)) ∧ xs.length = h.toNat * w.toNat ∧ (∀ x ∈ xs, 0 ≤ x ∧ x ≤ 6) ∧ ∀ H', Same H H' → Q (.str (tx (showL h.toNat w.toNat xs))) H'
theorem sl_show_filling {K : PySem.W.Frag} {vs : List V} {H : Hp} {Q : VK} {E : XK} (h : sp_show_filling K vs H Q E) : vs.length = 2 := by
  obtain ⟨_, _, _, _, _, _, rfl, _⟩ := h; rfl
def rd_show_filling (K : PySem.W.Frag) : TS :=
  (tSeq (tAsg (tOp cIx (tVar 0) (tC (.int 1))) (gName 2))
    (tRet (tBM K "str" kJoin (tC (.str (tx [47]))) (tCons (tComp [none, none, some 1, some 2] (iRng1 (tCons (tOp cIx (tVar 0) (tC (.int 0))) tNil)) (gName 1) tTrue (tCall (sp_show_row K) [] E0 (tCons (tSl cSl2 (tVar 2) (tPart (tOp cMul (tVar 1) (tVar 3))) (tPart (tOp cAdd (tOp cMul (tVar 1) (tVar 3)) (tVar 3)))) tNil))) tNil))))
theorem rk_show_filling {K : PySem.W.Frag} {vs : List V} {H : Hp} {Q : VK} {E : XK} (h : sp_show_filling K vs H Q E) : rd_show_filling K { nx := fun _ H' => Q .non H', rt := Q } (start ["floor", "filling", "wide"] vs) H := by
  obtain ⟨a, p, h, w, g, xs, rfl, ha, F, hp, hl, hx, k⟩ := h
  obtain ⟨h0, h1, w0, w1, m16, g0, g1⟩ := F
  show rd_show_filling K _ [some (.ref a), some (.ref p), none] H
  unfold rd_show_filling
  walk_at "w"
  rw [w_ix ha]
  refine bnd_of (a := V.int w) rfl ?_
  walk_at "w"
  refine ⟨w_tyS, ?_⟩
  rw [w_ix ha]
  refine bnd_of (a := V.int h) rfl ?_
  walk_at "w"
  refine ⟨h, rfl, by omega, by omega, ?_⟩
  refine compV_range (fun _ => true) (fun r => .str (tx ((rowAt w.toNat xs r).map figc))) (by omega) ?_ ?_ ?_
  · intro r H1 R hr s1 k1
    exact k1 _ (Same.refl _)
  · intro r H1 Q1 hr hb s1 k1
    show tCall _ _ _ _ [none, some (.int (0 + (r : Int))), some (.ref p), some (.int w)] H1 Q1
    rw [Int.zero_add]
    walk_at "w"
    refine ⟨.inl ⟨by omega, by omega⟩, .inl ⟨by omega, by omega⟩, ?_⟩
    have hrw : (r : Int) * w = ((r * w.toNat : Nat) : Int) := by rw [Int.natCast_mul, Int.toNat_of_nonneg (by omega)]
    have hrw2 : (r : Int) * w + w = ((r * w.toNat + w.toNat : Nat) : Int) := by rw [Int.natCast_add, ← hrw, Int.toNat_of_nonneg (by omega)]
    rw [hrw2, hrw]
    refine w_slL (s1 _ _ hp) fun l hl1 => ?_
    have hle : r * w.toNat + w.toNat ≤ xs.length := by
      rw [hl, ← Nat.succ_mul]
      exact Nat.mul_le_mul_right _ hr
    have ecut : cutV (xs.map V.int) (some ((r * w.toNat : Nat) : Int)) (some ((r * w.toNat + w.toNat : Nat) : Int)) = (rowAt w.toNat xs r).map V.int := by
      rw [cut_nat (by omega) (by rw [List.length_map]; exact hle), Nat.add_sub_cancel_left]
      unfold rowAt
      rw [List.map_take, List.map_drop]
    rw [ecut]
    have s2 : Same H1 (upd H1 l (.lst ((rowAt w.toNat xs r).map V.int))) := (Same.refl H1).laid hl1
    refine ⟨l, rowAt w.toNat xs r, rfl, upd_same, ?_, fun x hm => hx x (row_mem hm), fun H3 s3 => k1 _ (s2.trans s3)⟩
    unfold rowAt
    rw [List.length_take]
    omega
  · intro l H1 hl1 s1 el
    have e : (List.filter (fun _ => true) (List.range h.toNat)).map (fun r => V.str (tx ((rowAt w.toNat xs r).map figc))) = (((rowsL h.toNat w.toNat xs).map (·.map figc)).map tx).map V.str := by
      rw [filter_tt]
      unfold rowsL
      rw [List.map_map, List.map_map, List.map_map]
      rfl
    rw [e] at el
    have hrl : ∀ r ∈ (rowsL h.toNat w.toNat xs).map (·.map figc), r.length ≤ 6 := fun r hr => by
      obtain ⟨y, hy, rfl⟩ := List.mem_map.mp hr
      unfold rowsL at hy
      obtain ⟨i, _, rfl⟩ := List.mem_map.mp hy
      rw [List.length_map]
      unfold rowAt
      rw [List.length_take]
      omega
    refine w_join el (joinOk_small (by simp [rowsL]; omega) (fun t ht => by obtain ⟨x, hx, rfl⟩ := List.mem_map.mp ht; rw [tx_len]; have := hrl x hx; omega) (by rw [tx_len]; decide)) ?_
    rw [Txt_join, join_tx]
    exact k _ s1
def sp_read_figure (K : PySem.W.Frag) : Sp := fun vs H Q _ => ∃ (a : Addr) (h w g s : Int), vs = [.ref a, .str (tx [figc s])] ∧ IsFl H a h w g ∧ 0 ≤ s ∧ s ≤ g ∧ g ≤ 6 ∧ Q (.int s) H
theorem sl_read_figure {K : PySem.W.Frag} {vs : List V} {H : Hp} {Q : VK} {E : XK} (h : sp_read_figure K vs H Q E) : vs.length = 2 := by
  obtain ⟨_, _, _, _, _, rfl, _⟩ := h; rfl
def rd_read_figure (K : PySem.W.Frag) : TS :=
  (tSeq (tAsg (tBM K "str" kFind (tC (.str (tx [46, 49, 50, 51, 52, 53, 54]))) (tCons (tVar 1) tNil)) (gName 2))
    (tSeq (tIfS (tOr (tTest (tOp (cCmp fun i j => decide (i < j)) (tVar 2) (tC (.int 0)))) (tTest (tOp (cCmp fun i j => decide (j < i)) (tVar 2) (tOp cIx (tVar 0) (tC (.int 2)))))) tNever tNext)
    (tRet (tVar 2))))
theorem rk_read_figure {K : PySem.W.Frag} {vs : List V} {H : Hp} {Q : VK} {E : XK} (h : sp_read_figure K vs H Q E) : rd_read_figure K { nx := fun _ H' => Q .non H', rt := Q } (start ["floor", "figure", "sign"] vs) H := by
  obtain ⟨a, h, w, g, s, rfl, ha, h0, h1, h2, q⟩ := h
  show rd_read_figure K _ [some (.ref a), some (.str (tx [figc s])), none] H
  unfold rd_read_figure
  walk_at "w"
  refine ⟨w_tyS, ?_⟩
  rw [find_fig h0 (by omega), w_if]
  walk_at "w"
  rw [decide_eq_false (show ¬ s < 0 by omega)]
  refine iteF ?_
  rw [w_ix ha]
  refine bnd_of (a := V.int g) rfl ?_
  walk_at "w"
  rw [decide_eq_false (show ¬ g < s by omega)]
  refine iteF ?_
  exact q
def sp_read_row (K : PySem.W.Frag) : Sp := fun vs H Q _ => ∃ (a : Addr) (h w g : Int) (xs : List Int), vs = [.ref a, .str (tx (xs.map figc))] ∧ IsFl H a h w g ∧ FlOk h w g ∧ xs.length = w.toNat ∧ (∀ x ∈ xs, 0 ≤ x ∧ x ≤ g) ∧ ∀ l H', Same H H' → H l = none → H' l = some (.lst (xs.map V.int)) → Q (.ref l) H'
theorem sl_read_row {K : PySem.W.Frag} {vs : List V} {H : Hp} {Q : VK} {E : XK} (h : sp_read_row K vs H Q E) : vs.length = 2 := by
  obtain ⟨_, _, _, _, _, rfl, _⟩ := h; rfl
def rd_read_row (K : PySem.W.Frag) : TS :=
  (tSeq (tIfS (tTest (tOp (cNe K) (tCB kLen (tCons (tVar 1) tNil)) (tOp cIx (tVar 0) (tC (.int 1))))) tNever tNext)
    (tRet (tComp [none, none, some 0] (iStr (tVar 1)) (gName 1) tTrue (tCall (sp_read_figure K) [] E0 (tCons (tVar 2) (tCons (tVar 1) tNil))))))
theorem rk_read_row {K : PySem.W.Frag} {vs : List V} {H : Hp} {Q : VK} {E : XK} (h : sp_read_row K vs H Q E) : rd_read_row K { nx := fun _ H' => Q .non H', rt := Q } (start ["floor", "row"] vs) H := by
  obtain ⟨a, h, w, g, xs, rfl, ha, F, hl, hx, k⟩ := h
  obtain ⟨h0, h1, w0, w1, m16, g0, g1⟩ := F
  show rd_read_row K _ [some (.ref a), some (.str (tx (xs.map figc)))] H
  unfold rd_read_row
  rw [w_seq, w_if]
  walk_at "w"
  refine ⟨by rw [tx_len, List.length_map]; exact len_le (by omega), ?_⟩
  rw [w_ix ha]
  refine bnd_of (a := V.int w) rfl ?_
  walk_at "w"
  rw [tx_len, List.length_map, hl, decide_eq_true (show ((w.toNat : Nat) : Int) = w by omega)]
  refine iteF ?_
  walk_at "w"
  refine compV_str (cs := xs.map figc) (fun _ => true) (fun i => .int (xs.getD i 0)) (by rw [List.length_map]; omega) ?_ ?_ ?_
  · intro i c H1 R hc s1 k1
    exact k1 _ (Same.refl _)
  · intro i c H1 Q1 hc hb s1 k1
    rw [List.getElem?_map] at hc
    cases hz : xs[i]? with
    | none => rw [hz] at hc; cases hc
    | some z =>
      rw [hz] at hc
      cases hc
      have := hx z (List.mem_of_getElem? hz)
      show tCall _ _ _ _ [none, some (.str (tx [figc z])), some (.ref a)] H1 Q1
      walk_at "w"
      have q := k1 _ (Same.refl H1)
      rw [getD_of hz] at q
      exact ⟨a, h, w, g, z, rfl, s1 _ _ ha, this.1, this.2, g1, q⟩
  · intro l H1 hl1 s1 el
    refine k l H1 s1 hl1 ?_
    rw [filter_tt, List.length_map] at el
    rw [el, ← map_range_get xs V.int]
def sp_read_filling (K : PySem.W.Frag) : Sp := fun vs H Q _ => ∃ (a : Addr) (h w g : Int) (xs : List Int), vs = [.ref a, .str (tx (showL h.toNat w.toNat xs))] ∧ IsFl H a h w g ∧ FlOk h w g ∧ xs.length = h.toNat * w.toNat ∧ (∀ x ∈ xs, 0 ≤ x ∧ x ≤ g) ∧ ∀ l H', Same H H' → H l = none → H' l = some (.lst (xs.map V.int)) → Q (.ref l) H'
theorem sl_read_filling {K : PySem.W.Frag} {vs : List V} {H : Hp} {Q : VK} {E : XK} (h : sp_read_filling K vs H Q E) : vs.length = 2 := by
  obtain ⟨_, _, _, _, _, rfl, _⟩ := h; rfl
def rd_read_filling (K : PySem.W.Frag) : TS :=
  (tSeq (tIfS (tNot (tB (tCB kIsi (tCons (tVar 1) (tCons (tC (.ty "str")) tNil))))) tNever tNext)
    (tSeq (tAsg (tBM K "str" kSplit (tVar 1) (tCons (tC (.str (tx [47]))) tNil)) (gName 2))
    (tSeq (tIfS (tTest (tOp (cNe K) (tCB kLen (tCons (tVar 2) tNil)) (tOp cIx (tVar 0) (tC (.int 0))))) tNever tNext)
    (tSeq (tAsg (tLst tNil) (gName 3))
    (tSeq (tFor (iList K (tVar 2)) (gName 4)
    (tDrop (tBM K "list" kExtend (tVar 3) (tCons (tCall (sp_read_row K) [] E0 (tCons (tVar 0) (tCons (tVar 4) tNil))) tNil))))
    (tRet (tVar 3)))))))
theorem rk_read_filling {K : PySem.W.Frag} {vs : List V} {H : Hp} {Q : VK} {E : XK} (h : sp_read_filling K vs H Q E) : rd_read_filling K { nx := fun _ H' => Q .non H', rt := Q } (start ["floor", "text", "rows", "filling", "row"] vs) H := by
  obtain ⟨a, h, w, g, xs, rfl, ha, F, hl, hx, k⟩ := h
  obtain ⟨h0, h1, w0, w1, m16, g0, g1⟩ := id F
  have hsp : Txt.split (tx (showL h.toNat w.toNat xs)) (tx [47]) = ((rowsL h.toNat w.toNat xs).map (·.map figc)).map tx := by
    refine split_tx (by simp [rowsL]; omega) fun r hr => ?_
    obtain ⟨y, _, rfl⟩ := List.mem_map.mp hr
    intro z
    obtain ⟨x, _, e⟩ := List.mem_map.mp z
    exact figc_ne e
  have hrl : (rowsL h.toNat w.toNat xs).length = h.toNat := by simp [rowsL]
  show rd_read_filling K _ [some (.ref a), some (.str (tx (showL h.toNat w.toNat xs))), none, none, none] H
  unfold rd_read_filling
  rw [w_seq, w_if]
  walk_at "w"
  refine w_isiS ?_
  walk_at "w"
  refine iteF ?_
  walk_at "w"
  refine ⟨w_tyS, ?_⟩
  rw [w_split, hsp]
  refine ⟨by rw [tx_len]; decide, by rw [tx_len]; exact len_le (Nat.le_trans (showL_len (by omega) (by omega)) (by decide)), by rw [List.length_map, List.length_map, hrl]; exact len_le (by omega), fun L hL => ?_⟩
  have s1 : Same H (upd H L (.lst ((((rowsL h.toNat w.toNat xs).map (·.map figc)).map tx).map V.str))) := (Same.refl H).laid hL
  have eL : (upd H L (.lst ((((rowsL h.toNat w.toNat xs).map (·.map figc)).map tx).map V.str))) L = some (.lst ((((rowsL h.toNat w.toNat xs).map (·.map figc)).map tx).map V.str)) := upd_same
  generalize upd H L (.lst ((((rowsL h.toNat w.toNat xs).map (·.map figc)).map tx).map V.str)) = H1 at *
  walk_at "w"
  rw [w_if]
  walk_at "w"
  rw [w_len eL]
  walk_at "w"
  rw [w_ix (s1 _ _ ha)]
  refine bnd_of (a := V.int h) rfl ?_
  walk_at "w"
  rw [List.length_map, List.length_map, List.length_map, hrl, decide_eq_true (show ((h.toNat : Nat) : Int) = h by omega)]
  refine iteF ?_
  walk_at "w"
  refine ⟨Nat.zero_le _, fun f hf => ?_⟩
  have s2 : Same H1 (upd H1 f (.lst [])) := (Same.refl H1).laid hf
  have hfH : H f = none := s1.free hf
  walk_at "w"
  refine ⟨⟨_, SqL.of (s2 _ _ eL)⟩, for_list (K := K) (xs := (((rowsL h.toNat w.toNat xs).map (·.map figc)).map tx).map V.str) (fun i σ H' => ∃ rv : Option V, σ = [some (.ref a), some (.str (tx (showL h.toNat w.toNat xs))), some (.ref L), some (.ref f), rv] ∧ Same H H' ∧ H' L = some (.lst ((((rowsL h.toNat w.toNat xs).map (·.map figc)).map tx).map V.str)) ∧ H' f = some (.lst (((rowsL h.toNat w.toNat xs).take i).flatten.map V.int)))
    ⟨none, rfl, s1.trans s2, s2 _ _ eL, upd_same⟩ (fun i σ H' _ ⟨_, _, _, e', _⟩ => SqL.of e') ?_ ?_⟩
  · rintro i y σ H2 hy ⟨rv, rfl, s3, eL2, ef2⟩
    rw [List.map_map, List.map_map, List.getElem?_map] at hy
    have hi : i < h.toNat := by
      cases hz : (rowsL h.toNat w.toNat xs)[i]? with
      | none => rw [hz] at hy; cases hy
      | some z => have := (List.getElem?_eq_some_iff.mp hz).1; rw [hrl] at this; exact this
    have hrow : (rowsL h.toNat w.toNat xs)[i]? = some (rowAt w.toNat xs i) := by unfold rowsL; rw [List.getElem?_map, List.getElem?_range hi]; rfl
    rw [hrow] at hy
    cases hy
    walk_at "w"
    refine ⟨tyV_list ef2, ?_⟩
    have hrlen : (rowAt w.toNat xs i).length = w.toNat := row_len hi (by omega)
    refine ⟨a, h, w, g, rowAt w.toNat xs i, rfl, s3 _ _ ha, F, hrlen, fun x hm => hx x (row_mem hm), fun l H3 s4 hl3 el => ?_⟩
    walk_at "w"
    have nfl : l ≠ f := fun z => by rw [z, ef2] at hl3; cases hl3
    have hflat : (((rowsL h.toNat w.toNat xs).take i).flatten).length ≤ 100 := by
      have := rows_flat w.toNat xs h.toNat (by omega)
      have h2 : (((rowsL h.toNat w.toNat xs).take i).flatten).length ≤ ((rowsL h.toNat w.toNat xs).flatten).length := by
        conv => rhs; rw [← List.take_append_drop i (rowsL h.toNat w.toNat xs), List.flatten_append, List.length_append]
        omega
      have h3 : h.toNat * w.toNat ≤ 6 * 6 := Nat.mul_le_mul (by omega) (by omega)
      rw [this, List.length_take] at h2
      omega
    refine w_extend (s4 _ _ ef2) el (by rw [List.length_map, List.length_map]; omega) ?_
    refine ⟨_, rfl, (s3.trans s4).own hfH, ?_, ?_⟩
    · have nLf : L ≠ f := fun z => by rw [← z, eL] at hf; cases hf
      rw [upd_ne nLf]
      exact s4 _ _ eL2
    · rw [upd_same, List.take_add_one, hrow, List.flatten_append, List.map_append]
      simp
  · rintro σ H2 ⟨rv, rfl, s3, eL2, ef2⟩
    walk_at "w"
    rw [List.length_map, List.length_map, List.length_map, List.take_length, rows_flat w.toNat xs h.toNat (by omega), ← hl, List.take_length] at ef2
    exact k f H2 s3 hfH ef2
end L2
set_option Elab.async false
set_option linter.all false
namespace L2
open PySem PySem.Builtin PySem.Builtin.Str
def catS (s : List Nat) : List (List Nat) → List Nat
  | [] => []
  | [x] => x
  | x :: y :: r => x ++ (s ++ catS s (y :: r))
theorem joinS_tx (s : List Nat) : ∀ ts : List (List Nat), Str.join (tx s) (ts.map tx) = tx (catS s ts)
  | [] => rfl
  | [x] => rfl
  | x :: y :: r => by
    show tx x ++ tx s ++ Str.join (tx s) ((y :: r).map tx) = _
    rw [joinS_tx s (y :: r), tx_app, tx_app]
    show tx _ = tx (x ++ (s ++ catS s (y :: r)))
    rw [List.append_assoc]
theorem at_iff {x s : List Nat} {k : Nat} : StrLaws.At (tx x) (tx s) (tx x).length k ↔ k + s.length ≤ x.length ∧ (x.drop k).take s.length = s := by
  unfold StrLaws.At
  rw [StrLaws.subAt_eq, tx_len, tx_len, tx_cps, tx_cps, beq_iff_eq]
theorem sub_tx (x : List Nat) (a b : Nat) : strSub (tx x) a b = tx ((x.drop a).take (b - a)) := by
  rw [← tx_of (strSub (tx x) a b), StrLaws.strSub_toList, tx_cps]
theorem at_mark {x s : List Nat} {c j k : Nat} (hj : s[j]? = some c) (h : StrLaws.At (tx x) (tx s) (tx x).length k) : x[k + j]? = some c := by
  have h2 := (at_iff.mp h).2
  have hl := (List.getElem?_eq_some_iff.mp hj).1
  rw [← h2, List.getElem?_take_of_lt hl, List.getElem?_drop] at hj
  exact hj
theorem parts_tx {x s : List Nat} {c j : Nat} (hj : s[j]? = some c) (hf : ∀ i, i < j → s[i]? ≠ some c) : ∀ (rows : List (List Nat)) (a f : Nat) (cuts : List Nat), rows ≠ [] → (∀ r ∈ rows, c ∉ r) → x.drop a = catS s rows → a ≤ x.length → StrLaws.ChainG (tx x) (tx s) (tx x).length a cuts f → (∀ k, f ≤ k → ¬ StrLaws.At (tx x) (tx s) (tx x).length k) → StrLaws.partsFrom (tx x) (tx s).length a cuts = rows.map tx
  | [], _, _, _, h, _, _, _, _, _ => absurd rfl h
  | [r], a, f, cuts, _, hr, e, ha, hc, hn => by
    have e : x.drop a = r := e
    match cuts, hc with
    | [], hc =>
      show [strSub (tx x) a (tx x).length] = [tx r]
      rw [sub_tx, e, tx_len, List.take_of_length_le (by rw [← e, List.length_drop]; omega)]
    | d :: t, hc =>
      have m := at_mark hj hc.2.1
      have : c ∈ r := by
        rw [← e]
        have h1 : (x.drop a)[d + j - a]? = some c := by rw [List.getElem?_drop, show a + (d + j - a) = d + j by have := hc.1; omega]; exact m
        exact List.mem_of_getElem? h1
      exact absurd this (hr r List.mem_cons_self)
  | r :: r2 :: t, a, f, cuts, _, hr, e, ha, hc, hn => by
    have e : x.drop a = r ++ (s ++ catS s (r2 :: t)) := e
    have hjl := (List.getElem?_eq_some_iff.mp hj).1
    have hlen : x.length - a = r.length + (s.length + (catS s (r2 :: t)).length) := by
      have := congrArg List.length e
      rw [List.length_drop, List.length_append, List.length_append] at this
      exact this
    have here : StrLaws.At (tx x) (tx s) (tx x).length (a + r.length) := at_iff.mpr ⟨by omega, by rw [← List.drop_drop, e, List.drop_left, List.take_left]⟩
    have none_before : ∀ k, a ≤ k → k < a + r.length → ¬ StrLaws.At (tx x) (tx s) (tx x).length k := fun k h1 h2 hA => by
      have m := at_mark hj hA
      have h3 : (x.drop a)[k + j - a]? = some c := by rw [List.getElem?_drop, show a + (k + j - a) = k + j by omega]; exact m
      rw [e] at h3
      by_cases hk : k + j - a < r.length
      · rw [List.getElem?_append_left hk] at h3
        exact hr r List.mem_cons_self (List.mem_of_getElem? h3)
      · rw [List.getElem?_append_right (by omega), List.getElem?_append_left (by omega)] at h3
        exact hf _ (by omega) h3
    match cuts, hc with
    | [], hc =>
      have ef : f = a := hc
      exact absurd here (hn _ (by omega))
    | d :: u, hc =>
      have hd : d = a + r.length := by
        by_cases h1 : d < a + r.length
        · exact absurd hc.2.1 (none_before d hc.1 h1)
        · by_cases h2 : a + r.length < d
          · exact absurd here (hc.2.2.1 _ (by omega) h2)
          · omega
      subst hd
      have ih := parts_tx hj hf (r2 :: t) (a + r.length + s.length) f u (by simp) (fun z hz => hr z (List.mem_cons_of_mem _ hz)) (by rw [← List.drop_drop, ← List.drop_drop, e, List.drop_left, List.drop_left]) (by omega) (by have := hc.2.2.2; rw [tx_len] at this; exact this) hn
      show strSub (tx x) a (a + r.length) :: StrLaws.partsFrom (tx x) (tx s).length (a + r.length + (tx s).length) u = tx r :: (r2 :: t).map tx
      rw [tx_len] at ih ⊢
      rw [ih, sub_tx, e, show a + r.length - a = r.length by omega, List.take_left]
theorem splitS_tx {s : List Nat} {c j : Nat} {rows : List (List Nat)} (hj : s[j]? = some c) (hf : ∀ i, i < j → s[i]? ≠ some c) (hk : PySem.Builtin.Str.strKind (tx s) ≤ 1) (hne : rows ≠ []) (hr : ∀ r ∈ rows, c ∉ r) : Txt.split (tx (catS s rows)) (tx s) = rows.map tx := by
  have hjl := (List.getElem?_eq_some_iff.mp hj).1
  obtain ⟨f, hG, hn⟩ := StrLaws.occ_tight (tx (catS s rows)) (tx s) (by rw [tx_len]; omega)
  have key := parts_tx (x := catS s rows) hj hf rows 0 f _ hne hr (by simp) (by omega) hG hn
  unfold Txt.split
  split
  · rename_i hc
    rw [Bool.or_eq_true, decide_eq_true_eq, decide_eq_true_eq] at hc
    match rows, hne, hr with
    | [r], _, _ => rfl
    | r :: r2 :: t, _, _ =>
      exfalso
      rcases hc with h | h
      · rw [tx_len, tx_len] at h
        have : (catS s (r :: r2 :: t)).length = (r ++ (s ++ catS s (r2 :: t))).length := rfl
        rw [this, List.length_append, List.length_append] at h
        omega
      · have : 1 ≤ PySem.Builtin.Str.strKind (tx (catS s (r :: r2 :: t))) := by
          unfold PySem.Builtin.Str.strKind
          split
          · exact Nat.le_refl _
          · split <;> decide
        omega
  · split
    · rename_i he
      rw [List.isEmpty_iff.mp he] at key
      have : StrLaws.partsFrom (tx (catS s rows)) (tx s).length 0 [] = [tx (catS s rows)] := by
        show [strSub (tx (catS s rows)) 0 (tx (catS s rows)).length] = _
        rw [StrLaws.sub_whole]
      rw [← key, this]
    · rw [StrLaws.partsBetween_eq]
      exact key
theorem split_bar {rows : List (List Nat)} (hne : rows ≠ []) (hr : ∀ r ∈ rows, 124 ∉ r) : Txt.split (tx (catS [32, 124, 32] rows)) (tx [32, 124, 32]) = rows.map tx :=
  splitS_tx (j := 1) rfl (fun i hi => by have : i = 0 := by omega
                                         subst this; decide) (by decide +kernel) hne hr
theorem split_semi {rows : List (List Nat)} (hne : rows ≠ []) (hr : ∀ r ∈ rows, 59 ∉ r) : Txt.split (tx (catS [59, 32] rows)) (tx [59, 32]) = rows.map tx :=
  splitS_tx (j := 0) rfl (fun i hi => by omega) (by decide +kernel) hne hr
end L2
set_option Elab.async false
set_option linter.all false
set_option maxRecDepth 100000
namespace L2
open PySem PySem.Spec PyProof.Rows
section
variable {P : Program} {w : World} {K : PySem.W.Frag} {mg : Str → Option Value} {base : Heap} {k : Nat} {x qual y : Str} {st : Stmt} {f : Addr} {fd : FuncData} {sp : Sp}
theorem bind1 {a0 : Str} (F : Fun K x qual st f fd) (h : ∀ (kV doc pm : Value) (an : Option Addr) (cdv ct u0 : Value), bindArgs (PySem.W.fnOf x qual (defArgs st) (defBody st) (defScope st) .none kV doc pm an cdv ct) ⟨[u0], []⟩ = pure (([a0] : List Str).zip [u0]) := by intros; rfl) : Binds K fd [a0] [] := F.binds fun _ _ _ _ _ _ us hl => match us, hl with | [u0], _ => h _ _ _ _ _ _ _
theorem cal1 {a0 : Str} (T : FnOk P w K mg base CX0 k f fd [a0] sp) (F : Fun K x qual st f fd) (hm : mg y = some (.ref f)) (h : ∀ (kV doc pm : Value) (an : Option Addr) (cdv ct u0 : Value), bindArgs (PySem.W.fnOf x qual (defArgs st) (defBody st) (defScope st) .none kV doc pm an cdv ct) ⟨[u0], []⟩ = pure (([a0] : List Str).zip [u0]) := by intros; rfl) : Cal P w K mg base k y [a0] sp := ⟨f, fd, T, hm, F.kp, bind1 F h⟩
theorem bind2 {a0 a1 : Str} (F : Fun K x qual st f fd) (h : ∀ (kV doc pm : Value) (an : Option Addr) (cdv ct u0 u1 : Value), bindArgs (PySem.W.fnOf x qual (defArgs st) (defBody st) (defScope st) .none kV doc pm an cdv ct) ⟨[u0, u1], []⟩ = pure (([a0, a1] : List Str).zip [u0, u1]) := by intros; rfl) : Binds K fd [a0, a1] [] := F.binds fun _ _ _ _ _ _ us hl => match us, hl with | [u0, u1], _ => h _ _ _ _ _ _ _ _
theorem cal2 {a0 a1 : Str} (T : FnOk P w K mg base CX0 k f fd [a0, a1] sp) (F : Fun K x qual st f fd) (hm : mg y = some (.ref f)) (h : ∀ (kV doc pm : Value) (an : Option Addr) (cdv ct u0 u1 : Value), bindArgs (PySem.W.fnOf x qual (defArgs st) (defBody st) (defScope st) .none kV doc pm an cdv ct) ⟨[u0, u1], []⟩ = pure (([a0, a1] : List Str).zip [u0, u1]) := by intros; rfl) : Cal P w K mg base k y [a0, a1] sp := ⟨f, fd, T, hm, F.kp, bind2 F h⟩
theorem bind3 {a0 a1 a2 : Str} (F : Fun K x qual st f fd) (h : ∀ (kV doc pm : Value) (an : Option Addr) (cdv ct u0 u1 u2 : Value), bindArgs (PySem.W.fnOf x qual (defArgs st) (defBody st) (defScope st) .none kV doc pm an cdv ct) ⟨[u0, u1, u2], []⟩ = pure (([a0, a1, a2] : List Str).zip [u0, u1, u2]) := by intros; rfl) : Binds K fd [a0, a1, a2] [] := F.binds fun _ _ _ _ _ _ us hl => match us, hl with | [u0, u1, u2], _ => h _ _ _ _ _ _ _ _ _
theorem cal3 {a0 a1 a2 : Str} (T : FnOk P w K mg base CX0 k f fd [a0, a1, a2] sp) (F : Fun K x qual st f fd) (hm : mg y = some (.ref f)) (h : ∀ (kV doc pm : Value) (an : Option Addr) (cdv ct u0 u1 u2 : Value), bindArgs (PySem.W.fnOf x qual (defArgs st) (defBody st) (defScope st) .none kV doc pm an cdv ct) ⟨[u0, u1, u2], []⟩ = pure (([a0, a1, a2] : List Str).zip [u0, u1, u2]) := by intros; rfl) : Cal P w K mg base k y [a0, a1, a2] sp := ⟨f, fd, T, hm, F.kp, bind3 F h⟩
theorem bind4 {a0 a1 a2 a3 : Str} (F : Fun K x qual st f fd) (h : ∀ (kV doc pm : Value) (an : Option Addr) (cdv ct u0 u1 u2 u3 : Value), bindArgs (PySem.W.fnOf x qual (defArgs st) (defBody st) (defScope st) .none kV doc pm an cdv ct) ⟨[u0, u1, u2, u3], []⟩ = pure (([a0, a1, a2, a3] : List Str).zip [u0, u1, u2, u3]) := by intros; rfl) : Binds K fd [a0, a1, a2, a3] [] := F.binds fun _ _ _ _ _ _ us hl => match us, hl with | [u0, u1, u2, u3], _ => h _ _ _ _ _ _ _ _ _ _
theorem cal4 {a0 a1 a2 a3 : Str} (T : FnOk P w K mg base CX0 k f fd [a0, a1, a2, a3] sp) (F : Fun K x qual st f fd) (hm : mg y = some (.ref f)) (h : ∀ (kV doc pm : Value) (an : Option Addr) (cdv ct u0 u1 u2 u3 : Value), bindArgs (PySem.W.fnOf x qual (defArgs st) (defBody st) (defScope st) .none kV doc pm an cdv ct) ⟨[u0, u1, u2, u3], []⟩ = pure (([a0, a1, a2, a3] : List Str).zip [u0, u1, u2, u3]) := by intros; rfl) : Cal P w K mg base k y [a0, a1, a2, a3] sp := ⟨f, fd, T, hm, F.kp, bind4 F h⟩
theorem bind5 {a0 a1 a2 a3 a4 : Str} (F : Fun K x qual st f fd) (h : ∀ (kV doc pm : Value) (an : Option Addr) (cdv ct u0 u1 u2 u3 u4 : Value), bindArgs (PySem.W.fnOf x qual (defArgs st) (defBody st) (defScope st) .none kV doc pm an cdv ct) ⟨[u0, u1, u2, u3, u4], []⟩ = pure (([a0, a1, a2, a3, a4] : List Str).zip [u0, u1, u2, u3, u4]) := by intros; rfl) : Binds K fd [a0, a1, a2, a3, a4] [] := F.binds fun _ _ _ _ _ _ us hl => match us, hl with | [u0, u1, u2, u3, u4], _ => h _ _ _ _ _ _ _ _ _ _ _
theorem cal5 {a0 a1 a2 a3 a4 : Str} (T : FnOk P w K mg base CX0 k f fd [a0, a1, a2, a3, a4] sp) (F : Fun K x qual st f fd) (hm : mg y = some (.ref f)) (h : ∀ (kV doc pm : Value) (an : Option Addr) (cdv ct u0 u1 u2 u3 u4 : Value), bindArgs (PySem.W.fnOf x qual (defArgs st) (defBody st) (defScope st) .none kV doc pm an cdv ct) ⟨[u0, u1, u2, u3, u4], []⟩ = pure (([a0, a1, a2, a3, a4] : List Str).zip [u0, u1, u2, u3, u4]) := by intros; rfl) : Cal P w K mg base k y [a0, a1, a2, a3, a4] sp := ⟨f, fd, T, hm, F.kp, bind5 F h⟩
theorem bind6 {a0 a1 a2 a3 a4 a5 : Str} (F : Fun K x qual st f fd) (h : ∀ (kV doc pm : Value) (an : Option Addr) (cdv ct u0 u1 u2 u3 u4 u5 : Value), bindArgs (PySem.W.fnOf x qual (defArgs st) (defBody st) (defScope st) .none kV doc pm an cdv ct) ⟨[u0, u1, u2, u3, u4, u5], []⟩ = pure (([a0, a1, a2, a3, a4, a5] : List Str).zip [u0, u1, u2, u3, u4, u5]) := by intros; rfl) : Binds K fd [a0, a1, a2, a3, a4, a5] [] := F.binds fun _ _ _ _ _ _ us hl => match us, hl with | [u0, u1, u2, u3, u4, u5], _ => h _ _ _ _ _ _ _ _ _ _ _ _
end
end L2
set_option Elab.async false
set_option linter.all false
set_option maxRecDepth 100000
namespace L2
open PySem PySem.Spec PyProof.Rows
end L2
set_option Elab.async false
set_option linter.all false
set_option maxRecDepth 100000
namespace L2
open PySem PySem.Spec PyProof.Rows
local macro_rules | `(tactic| walk_at "w") => `(tactic| (first | simp only [w_seq, w_make, w_inG, w_lenset, w_revL, w_int2B, w_int2I, w_max, w_isN, w_notN, w_pow, if_true, if_false, Bool.false_eq_true, decide_true, decide_false, w_lrng1, w_lrng2, w_ifE, w_compR2, w_scompR2, w_forRD, w_forE, w_compE, w_scompE, w_intB, w_intI, w_bitlen, w_shr, w_isi_ii, w_isi_ib, w_isi_bb, w_isi_bi, w_isi_ss, w_isi_bs, w_isi_is, w_iteT, w_iteF, w_negE, w_bitI, w_str, Bool.not_true, Bool.not_false, w_next, w_asg, w_gname, w_var0, w_varS, w_c, w_op, w_ret, w_retN, w_drop, w_test, w_b, w_not, w_and, w_or, w_notV, w_andV, w_orV, w_nil, w_cons, w_cb, w_call, w_tup, w_lst, w_bm, w_bm0, w_true, w_dnew, w_dput, w_forL, w_forR1, w_forR2, w_compL, w_compR1, w_scompL, w_scompR1, w_add, w_sub, w_mul, w_div, w_mod, w_cmp, w_eqI, w_neI, w_eqB, w_neB, w_abs, w_min, w_sl, w_part, w_nopart, w_gsub, w_un, w_forS, w_compS, w_scompS, w_eqS, w_neS, w_lenS, w_addS, w_find,
  List.getElem?_cons_zero, List.getElem?_cons_succ, Option.some.injEq, exists_eq_left', exists_eq_left, List.set_cons_zero, List.set_cons_succ, bnd_some, V.int.injEq, V.bl.injEq, V.ref.injEq, V.str.injEq, List.nil_append, List.cons_append] | dsimp only | skip))
theorem strs_tup {K : PySem.W.Frag} {H : Hp} {p : Addr} {cs : List Nat} {fin : Addr → Hp → Prop} (hp : H p = some (.tup ((cs.map fun (n : Nat) => (n : Int)).map V.int))) (hl : cs.length ≤ 100) (hc : ∀ c ∈ cs, c < 100)
    (hd : ∀ l H', H l = none → Same H H' → H' l = some (.lst (((cs.map numC).map tx).map V.str)) → fin l H') : CompR (Itt K p) (gName 1) tTrue (tCB kStr (tCons (tVar 1) tNil)) fin [none, none] H := by
  refine comp_tup (xs := (cs.map fun (n : Nat) => (n : Int)).map V.int) (fun l i σ H' => (σ = [none, none] ∨ ∃ cv, σ = ([none, none] : St).set 1 cv) ∧ Same H H' ∧ H' l = some (.lst ((((cs.take i).map numC).map tx).map V.str))) (fun l hl => ⟨.inl rfl, (Same.refl H).laid hl, by rw [upd_same]; rfl⟩) (fun l i σ H' _ _ q => SqT.of (q.2.1 _ _ hp)) ?_ (fun l σ H' hl q => hd l H' hl q.2.1 (by have := q.2.2; rw [List.length_map, List.length_map, List.take_length] at this; exact this))
  rintro l i x σ H2 hl2 hx ⟨hσ, s1, el⟩
  obtain ⟨z, hz, rfl⟩ := map_int_get hx
  rw [List.getElem?_map] at hz
  cases e : cs[i]? with
  | none => rw [e] at hz; cases hz
  | some n =>
    rw [e] at hz
    cases hz
    have et : cs.take (i + 1) = cs.take i ++ [n] := by rw [List.take_succ, e]; rfl
    rw [w_gname]
    have e2 : σ.set 1 (some (.int (n : Int))) = [none, some (.int (n : Int))] := by
      rcases hσ with rfl | ⟨cv, rfl⟩
      · rfl
      · rfl
    rw [e2, w_true, if_pos rfl]
    walk_at "w"
    have hcn := hc n (List.mem_of_getElem? e)
    rw [num_str hcn]
    refine ⟨num_log hcn, _, el, by simp; exact small1000 (by omega), .inr ⟨_, rfl⟩, s1.own hl2, ?_⟩
    rw [upd_same, et]
    simp
def flT (h w g : Int) : List Nat := catL 32 [numC h.toNat, numC w.toNat, numC g.toNat]
theorem flT_len (h w g : Int) : (flT h w g).length ≤ 8 := by
  show (numC h.toNat ++ 32 :: (numC w.toNat ++ 32 :: numC g.toNat)).length ≤ 8
  have a := num_len (n := h.toNat)
  have b := num_len (n := w.toNat)
  have c := num_len (n := g.toNat)
  simp
  omega
def RR.cod (r : RR) : List Nat := catL 32 r.ws
theorem RR.txts (rows : List RR) : rows.map RR.txt = (rows.map RR.cod).map tx := by rw [List.map_map]; rfl
theorem words_len {ws : List (List Nat)} {k : Nat} (h : ∀ r ∈ ws, r.length ≤ 2) (hk : ws.length ≤ k) : (catL 32 ws).length ≤ 3 * k := Nat.le_trans (cat_len34 ws h) (Nat.mul_le_mul_left 3 hk)
theorem RR.cod_len {r : RR} {h w g : Int} (O : r.Ok h w g) : r.cod.length ≤ 63 := by
  have hk : (nmC r.k).length ≤ 8 := by cases r.k <;> decide
  have hl := O.len
  have e : r.ws = nmC r.k :: ((if numK r.k then [numC r.n] else []) ++ (if sgnK r.k then [numC r.m] else []) ++ r.ns.map numC) := rfl
  unfold RR.cod
  rw [e]
  generalize ht : (if numK r.k then [numC r.n] else []) ++ (if sgnK r.k then [numC r.m] else []) ++ r.ns.map numC = t
  have h2 : ∀ x ∈ t, x.length ≤ 2 := fun x hx => by
    rw [← ht] at hx
    rcases List.mem_append.mp hx with hx | hx
    · rcases List.mem_append.mp hx with hx | hx
      · split at hx
        · rw [List.mem_singleton.mp hx]; exact num_len
        · cases hx
      · split at hx
        · rw [List.mem_singleton.mp hx]; exact num_len
        · cases hx
    · obtain ⟨y, _, rfl⟩ := List.mem_map.mp hx
      exact num_len
  have h3 : t.length ≤ 18 := by
    rw [← ht, List.length_append, List.length_append, List.length_map]
    split <;> split <;> simp <;> omega
  match t, h2, h3 with
  | [], _, _ => show (nmC r.k).length ≤ 63; omega
  | a :: u, h2, h3 =>
    rw [cat_cons (by simp)]
    have := words_len h2 h3
    rw [List.length_append, List.length_cons]
    omega
theorem catS_len {s : List Nat} {b : Nat} : ∀ {rs : List (List Nat)}, (∀ r ∈ rs, r.length ≤ b) → (catS s rs).length ≤ rs.length * (b + s.length)
  | [], _ => by simp [catS]
  | [x], h => by have := h x List.mem_cons_self; simp [catS]; omega
  | x :: y :: r, h => by
    have h1 := h x List.mem_cons_self
    have h2 := catS_len (s := s) (rs := y :: r) fun z hz => h z (List.mem_cons_of_mem _ hz)
    show (x ++ (s ++ catS s (y :: r))).length ≤ _
    rw [List.length_append, List.length_append, List.length_cons, Nat.succ_mul]
    omega
def rowT (rows : List RR) : List Nat := catS [59, 32] (rows.map RR.cod)
theorem rowT_len {c : RCl RK} {h w g : Int} {rows : List RR} (R : RowsOk c h w g rows) : (rowT rows).length ≤ 780 := by
  have h1 : ∀ x ∈ rows.map RR.cod, x.length ≤ 63 := fun x hx => by
    obtain ⟨r, hr, rfl⟩ := List.mem_map.mp hx
    exact RR.cod_len (R.ok r hr)
  have := catS_len (s := [59, 32]) h1
  have hn := R.n
  rw [List.length_map] at this
  refine Nat.le_trans this ?_
  show rows.length * 65 ≤ 780
  omega
def pzP (h w g : Int) (rows : List RR) (cl : List Int) : List (List Nat) := [flT h w g, rowT rows, showL h.toNat w.toNat cl]
def pzT (h w g : Int) (rows : List RR) (cl : List Int) : List Nat := catS [32, 124, 32] (pzP h w g rows cl)
theorem cat_mem {c x : Nat} : ∀ {rs : List (List Nat)}, x ∈ catL c rs → x = c ∨ ∃ r ∈ rs, x ∈ r
  | [], h => by simp [catL] at h
  | [y], h => .inr ⟨y, List.mem_cons_self, h⟩
  | y :: z :: r, h => by
    rw [cat_cons (by simp)] at h
    rcases List.mem_append.mp h with h | h
    · exact .inr ⟨y, List.mem_cons_self, h⟩
    · rcases List.mem_cons.mp h with h | h
      · exact .inl h
      · rcases cat_mem h with h | ⟨u, hu, h⟩
        · exact .inl h
        · exact .inr ⟨u, List.mem_cons_of_mem _ hu, h⟩
theorem catS_mem {s : List Nat} {x : Nat} : ∀ {rs : List (List Nat)}, x ∈ catS s rs → x ∈ s ∨ ∃ r ∈ rs, x ∈ r
  | [], h => by simp [catS] at h
  | [y], h => .inr ⟨y, List.mem_cons_self, h⟩
  | y :: z :: r, h => by
    have h : x ∈ y ++ (s ++ catS s (z :: r)) := h
    rcases List.mem_append.mp h with h | h
    · exact .inr ⟨y, List.mem_cons_self, h⟩
    · rcases List.mem_append.mp h with h | h
      · exact .inl h
      · rcases catS_mem h with h | ⟨u, hu, h⟩
        · exact .inl h
        · exact .inr ⟨u, List.mem_cons_of_mem _ hu, h⟩
theorem num_dig72 {n : Nat} (h : n < 100) : ∀ c ∈ numC n, 48 ≤ c ∧ c ≤ 57 := by
  have t : ((List.range 100).all fun (n : Nat) => (numC n).all fun c => decide (48 ≤ c) && decide (c ≤ 57)) = true := by decide +kernel
  intro c hc
  have := List.all_eq_true.mp (List.all_eq_true.mp t n (List.mem_range.mpr h)) c hc
  rw [Bool.and_eq_true, decide_eq_true_eq, decide_eq_true_eq] at this
  exact this
theorem nm_let (k : RK) : ∀ c ∈ nmC k, 97 ≤ c ∧ c ≤ 122 := by
  have : (nmC k).all (fun c => decide (97 ≤ c) && decide (c ≤ 122)) = true ∨ k = .Rule := by cases k <;> first | exact .inl (by decide) | exact .inr rfl
  rcases this with t | rfl
  · intro c hc
    have := List.all_eq_true.mp t c hc
    rw [Bool.and_eq_true, decide_eq_true_eq, decide_eq_true_eq] at this
    exact this
  · intro c hc; revert c; decide
theorem RR.cod_mem {r : RR} {h w g : Int} (F : FlOk h w g) (O : r.Ok h w g) : ∀ x ∈ r.cod, x = 32 ∨ (48 ≤ x ∧ x ≤ 57) ∨ (97 ≤ x ∧ x ≤ 122) := fun x hx => by
  have hn := O.n0
  have hm : r.m < 100 := by
    cases e : sgnK r.k with
    | true => have := O.m0 e; have := F.g1; omega
    | false => rw [O.mz e]; decide
  rcases cat_mem hx with h | ⟨u, hu, h⟩
  · exact .inl h
  · rcases List.mem_cons.mp (show u ∈ nmC r.k :: ((if numK r.k then [numC r.n] else []) ++ (if sgnK r.k then [numC r.m] else []) ++ r.ns.map numC) from hu) with rfl | hu
    · exact .inr (.inr (nm_let _ x h))
    · refine .inr (.inl ?_)
      rcases List.mem_append.mp hu with hu | hu
      · rcases List.mem_append.mp hu with hu | hu
        · split at hu
          · rw [List.mem_singleton.mp hu] at h; exact num_dig72 (by omega) x h
          · cases hu
        · split at hu
          · rw [List.mem_singleton.mp hu] at h; exact num_dig72 hm x h
          · cases hu
      · obtain ⟨y, hy, rfl⟩ := List.mem_map.mp hu
        exact num_dig72 (O.ns0 y hy) x h
theorem flT_mem {h w g : Int} (F : FlOk h w g) : ∀ x ∈ flT h w g, x = 32 ∨ (48 ≤ x ∧ x ≤ 57) := fun x hx => by
  obtain ⟨h0, h1, w0, w1, m16, g0, g1⟩ := F
  rcases cat_mem hx with h | ⟨u, hu, hm⟩
  · exact .inl h
  · refine .inr ?_
    simp at hu
    rcases hu with rfl | rfl | rfl <;> exact num_dig72 (by omega) x hm
theorem fig_mem (s : Int) : figc s = 46 ∨ (figc s ≤ 54) := by
  unfold figc
  by_cases h : s.toNat < 7
  · have : s.toNat = 0 ∨ s.toNat = 1 ∨ s.toNat = 2 ∨ s.toNat = 3 ∨ s.toNat = 4 ∨ s.toNat = 5 ∨ s.toNat = 6 := by omega
    rcases this with e | e | e | e | e | e | e <;> rw [e] <;> decide
  · rw [List.getD, List.getElem?_eq_none (by show 7 ≤ s.toNat; omega)]; decide
theorem showL_mem {h w : Nat} {xs : List Int} : ∀ x ∈ showL h w xs, x ≤ 54 := fun x hx => by
  rcases cat_mem hx with h | ⟨u, hu, hm⟩
  · omega
  · obtain ⟨y, _, rfl⟩ := List.mem_map.mp hu
    obtain ⟨z, _, rfl⟩ := List.mem_map.mp hm
    rcases fig_mem z with e | e <;> omega
theorem row_free {c : RCl RK} {h w g : Int} {rows : List RR} (R : RowsOk c h w g rows) : ∀ r ∈ rows.map RR.cod, 59 ∉ r := fun r hr hm => by
  obtain ⟨x, hx, rfl⟩ := List.mem_map.mp hr
  rcases RR.cod_mem R.F (R.ok x hx) 59 hm with e | e | e <;> omega
theorem pz_free {c : RCl RK} {h w g : Int} {rows : List RR} {cl : List Int} (R : RowsOk c h w g rows) : ∀ r ∈ pzP h w g rows cl, 124 ∉ r := fun r hr hm => by
  simp [pzP] at hr
  rcases hr with rfl | rfl | rfl
  · rcases flT_mem R.F 124 hm with e | e <;> omega
  · rcases catS_mem hm with e | ⟨u, hu, hm⟩
    · simp at e
    · obtain ⟨x, hx, rfl⟩ := List.mem_map.mp hu
      rcases RR.cod_mem R.F (R.ok x hx) 124 hm with e | e | e <;> omega
  · have := showL_mem 124 hm
    omega
def sp_show_numbers (K : PySem.W.Frag) : Sp := fun vs H Q _ => ∃ (p : Addr) (h w g : Int), vs = [.ref p] ∧ IsFl H p h w g ∧ FlOk h w g ∧ ∀ H', Same H H' → Q (.str (tx (flT h w g))) H'
theorem sl_show_numbers {K : PySem.W.Frag} {vs : List V} {H : Hp} {Q : VK} {E : XK} (h : sp_show_numbers K vs H Q E) : vs.length = 1 := by
  obtain ⟨_, _, _, _, rfl, _⟩ := h; rfl
def rd_show_numbers (K : PySem.W.Frag) : TS :=
  (tRet (tBM K "str" kJoin2 (tC (.str (tx [32]))) (tCons (tComp [none, none] (iTup K (tVar 0)) (gName 1) tTrue (tCB kStr (tCons (tVar 1) tNil))) tNil)))
theorem rk_show_numbers {K : PySem.W.Frag} {vs : List V} {H : Hp} {Q : VK} {E : XK} (h : sp_show_numbers K vs H Q E) : rd_show_numbers K { nx := fun _ H' => Q .non H', rt := Q } (start ["numbers"] vs) H := by
  obtain ⟨p, h, w, g, rfl, hp, F, q⟩ := h
  obtain ⟨h0, h1, w0, w1, m16, g0, g1⟩ := id F
  have ep : H p = some (.tup ((([h.toNat, w.toNat, g.toNat] : List Nat).map fun (n : Nat) => (n : Int)).map V.int)) := by
    have e : H p = some (.tup [.int h, .int w, .int g]) := hp
    rw [e]
    simp only [List.map_cons, List.map_nil]
    rw [show ((h.toNat : Nat) : Int) = h by omega, show ((w.toNat : Nat) : Int) = w by omega, show ((g.toNat : Nat) : Int) = g by omega]
  show rd_show_numbers K _ [some (.ref p)] H
  unfold rd_show_numbers
  rw [w_ret, w_bm]
  walk_at "w"
  refine ⟨w_tyS, ?_⟩
  rw [w_compT]
  walk_at "w"
  refine ⟨⟨_, SqT.of ep⟩, ?_⟩
  refine strs_tup ep (by simp) (fun c hc => by simp at hc; omega) fun l H1 hl s1 el => ?_
  walk_at "w"
  refine w_joinL el (joinOk_small (by simp) (fun t ht => by
    obtain ⟨z, hz, rfl⟩ := List.mem_map.mp ht
    obtain ⟨x, _, rfl⟩ := List.mem_map.mp hz
    rw [tx_len]; exact Nat.le_trans num_len (by decide)) (by rw [tx_len]; decide)) ?_
  rw [Txt_join, join_tx]
  exact q _ s1
def sp_show_puzzle (K : PySem.W.Frag) (c : RCl RK) (d : RCl PzK) : Sp := fun vs H Q _ => ∃ (P L G : Addr) (h w g : Int) (rows : List RR) (cl : List Int), vs = [.ref P] ∧ IsPz H c d P L G h w g rows cl ∧ ∀ H', Same H H' → Q (.str (tx (pzT h w g rows cl))) H'
theorem sl_show_puzzle {K : PySem.W.Frag} {c : RCl RK} {d : RCl PzK} {vs : List V} {H : Hp} {Q : VK} {E : XK} (h : sp_show_puzzle K c d vs H Q E) : vs.length = 1 := by
  obtain ⟨_, _, _, _, _, _, _, _, rfl, _⟩ := h; rfl
def rd_show_puzzle_t2 (K : PySem.W.Frag) (c : RCl RK) (d : RCl PzK) : TS :=
  (tRet (tBM K "str" kJoin2 (tC (.str (tx [32, 124, 32]))) (tCons (tLst (tCons (tCall (sp_show_numbers K) [] E0 (tCons (tVar 1) tNil)) (tCons (tVar 2) (tCons (tCall (sp_show_filling K) [] E0 (tCons (tVar 1) (tCons (tMethK d d.ok "clues" (sp_clues K c d) (tVar 0) tNil) tNil))) tNil)))) tNil)))
def rd_show_puzzle (K : PySem.W.Frag) (c : RCl RK) (d : RCl PzK) : TS :=
  (tSeq (tAsg (tMethK d d.ok "place" (sp_place K c d) (tVar 0) tNil) (gName 1))
    (tSeq (tAsg (tBM K "str" kJoin2 (tC (.str (tx [59, 32]))) (tCons (tMethK d d.ok "lines" (sp_lines K c d) (tVar 0) tNil) tNil)) (gName 2))
    (rd_show_puzzle_t2 K c d)))
theorem cl_len72 {h w g : Int} {cl : List Int} (F : FlOk h w g) (C : CluesOk h w g cl) : cl.length = h.toNat * w.toNat := by
  rw [C.len, mulN (by have := F.h0; omega) (by have := F.w0; omega)]
theorem rk_show_puzzle {K : PySem.W.Frag} {c : RCl RK} {d : RCl PzK} {vs : List V} {H : Hp} {Q : VK} {E : XK} (h : sp_show_puzzle K c d vs H Q E) : rd_show_puzzle K c d { nx := fun _ H' => Q .non H', rt := Q } (start ["puzzle", "floor", "rules"] vs) H := by
  obtain ⟨P, L, G, h, w, g, rows, cl, rfl, x, q⟩ := h
  obtain ⟨dx, p, rs, h1, h2, h3⟩ := x.ex
  have hn := x.R.n
  have fg := x.R.F.g1
  have rl := rowT_len x.R
  have fl := flT_len h w g
  have shl : (showL h.toNat w.toNat cl).length ≤ 100 := showL_len (by have := x.R.F.h1; omega) (by have := x.R.F.w1; omega)
  have sok : ∀ t ∈ rows.map RR.cod, t.length ≤ 63 := fun t ht => by obtain ⟨r, hr, rfl⟩ := List.mem_map.mp ht; exact RR.cod_len (x.R.ok r hr)
  show rd_show_puzzle K c d _ [some (.ref P), none, none] H
  unfold rd_show_puzzle
  walk_at "w"
  refine methE (k := .Puzzle) rfl x.ok h1 (by rfl) ?_
  walk_at "w"
  refine ⟨P, L, G, h, w, g, rows, cl, rfl, x, fun p1 hp1 => ?_⟩
  walk_at "w"
  refine ⟨w_tyS, ?_⟩
  refine methE (k := .Puzzle) rfl x.ok h1 (by rfl) ?_
  walk_at "w"
  refine ⟨P, L, G, h, w, g, rows, cl, rfl, x, fun R H1 s1 hR eR => ?_⟩
  rw [RR.txts] at eR
  walk_at "w"
  refine w_joinL eR (joinOk_small (by simp; omega) (fun t ht => by
    obtain ⟨z, hz, rfl⟩ := List.mem_map.mp ht
    rw [tx_len]; exact Nat.le_trans (sok z hz) (by decide)) (by rw [tx_len]; decide)) ?_
  rw [Txt_join, joinS_tx]
  unfold rd_show_puzzle_t2
  walk_at "w"
  refine ⟨w_tyS, ?_⟩
  refine ⟨p1, h, w, g, rfl, s1 _ _ hp1, x.R.F, fun H2 s2 => ?_⟩
  have s12 := s1.trans s2
  walk_at "w"
  refine methE (k := .Puzzle) rfl x.ok (s12 _ _ h1) (by rfl) ?_
  walk_at "w"
  refine ⟨P, L, G, h, w, g, rows, cl, rfl, x.same s12, fun S hS => ?_⟩
  have s3 : Same H2 (upd H2 S (.lst (cl.map V.int))) := (Same.refl H2).laid hS
  have eS : (upd H2 S (.lst (cl.map V.int))) S = some (.lst (cl.map V.int)) := upd_same
  generalize upd H2 S (.lst (cl.map V.int)) = H3 at *
  have s13 := s12.trans s3
  walk_at "w"
  refine ⟨p1, S, h, w, g, cl, rfl, s13 _ _ hp1, x.R.F, eS, cl_len72 x.R.F x.C, fun y hy => by have := x.C.ok y hy; omega, fun H4 s4 => ?_⟩
  walk_at "w"
  refine ⟨len_le (by show (3 : Nat) ≤ 1000; decide), fun U hU => ?_⟩
  have s5 : Same H4 (upd H4 U (.lst [V.str (tx (flT h w g)), V.str (tx (catS [59, 32] (rows.map RR.cod))), V.str (tx (showL h.toNat w.toNat cl))])) := (Same.refl H4).laid hU
  have eU : (upd H4 U (.lst [V.str (tx (flT h w g)), V.str (tx (catS [59, 32] (rows.map RR.cod))), V.str (tx (showL h.toNat w.toNat cl))])) U = some (.lst (((pzP h w g rows cl).map tx).map V.str)) := upd_same
  generalize upd H4 U (.lst [V.str (tx (flT h w g)), V.str (tx (catS [59, 32] (rows.map RR.cod))), V.str (tx (showL h.toNat w.toNat cl))]) = H5 at *
  refine w_joinL eU (joinOk_small (by simp [pzP]) (fun t ht => by
    obtain ⟨z, hz, rfl⟩ := List.mem_map.mp ht
    rw [tx_len]
    simp [pzP] at hz
    rcases hz with rfl | rfl | rfl <;> omega) (by rw [tx_len]; decide)) ?_
  rw [Txt_join, joinS_tx]
  exact q _ ((s13.trans s4).trans s5)
theorem inV_non : ∀ ns : List Int, inV .non (ns.map V.int) = false
  | [] => rfl
  | n :: r => by
    have ih := inV_non r
    unfold inV at ih ⊢
    rw [List.map_cons, List.any_cons, ih]
    rfl
theorem w_inNon {K : PySem.W.Frag} {H : Hp} {Q : VK} {p : Addr} {ns : List Int} (h : H p = some (.lst (ns.map V.int))) : cIn K false .non (.ref p) H Q = Q (.bl false) H := by
  unfold cIn; dsimp only; rw [h]; dsimp only [unD, unS, bnd]
  rw [inV_non, flat_ints]
  simp [flatV]
def sp_refuse_no_text (K : PySem.W.Frag) : Sp := fun vs H Q _ => ∃ t : Str, vs = [.str t] ∧ Q .non H
theorem sl_refuse_no_text {K : PySem.W.Frag} {vs : List V} {H : Hp} {Q : VK} {E : XK} (h : sp_refuse_no_text K vs H Q E) : vs.length = 1 := by
  obtain ⟨_, rfl, _⟩ := h; rfl
def rd_refuse_no_text (K : PySem.W.Frag) : TS :=
  (tIfS (tNot (tB (tCB kIsi (tCons (tVar 0) (tCons (tC (.ty "str")) tNil))))) tNever tNext)
theorem rk_refuse_no_text {K : PySem.W.Frag} {vs : List V} {H : Hp} {Q : VK} {E : XK} (h : sp_refuse_no_text K vs H Q E) : rd_refuse_no_text K { nx := fun _ H' => Q .non H', rt := Q } (start ["text"] vs) H := by
  obtain ⟨t, rfl, q⟩ := h
  show rd_refuse_no_text K _ [some (.str t)] H
  unfold rd_refuse_no_text
  rw [w_if]
  walk_at "w"
  exact q
def sp_read_numbers (K : PySem.W.Frag) : Sp := fun vs H Q _ => ∃ (W : Addr) (ns : List Nat), vs = [.ref W] ∧ H W = some (.lst (((ns.map numC).map tx).map V.str)) ∧ ns.length ≤ 100 ∧ (∀ n ∈ ns, n < 100) ∧
  ∀ l H', Same H H' → H l = none → H' l = some (.lst ((ns.map fun (n : Nat) => (n : Int)).map V.int)) → Q (.ref l) H'
theorem sl_read_numbers {K : PySem.W.Frag} {vs : List V} {H : Hp} {Q : VK} {E : XK} (h : sp_read_numbers K vs H Q E) : vs.length = 1 := by
  obtain ⟨_, _, rfl, _⟩ := h; rfl
def rd_read_numbers (K : PySem.W.Frag) : TS :=
  (tSeq (sComp 1 [none, none] (iList K (tVar 0)) (gName 1) tTrue (tCall (sp_number_in K) [] E0 (tCons (tVar 1) tNil)))
    (tSeq (tIfS (tTest (tOp (cIn K false) (tC .non) (tVar 1))) tNever tNext)
    (tRet (tVar 1))))
theorem rk_read_numbers {K : PySem.W.Frag} {vs : List V} {H : Hp} {Q : VK} {E : XK} (h : sp_read_numbers K vs H Q E) : rd_read_numbers K { nx := fun _ H' => Q .non H', rt := Q } (start ["words", "numbers"] vs) H := by
  obtain ⟨W, ns, rfl, hW, hl, hn, q⟩ := h
  show rd_read_numbers K _ [some (.ref W), none] H
  unfold rd_read_numbers
  walk_at "w"
  refine ⟨⟨_, SqL.of hW⟩, ?_⟩
  refine compV_list (xs := ((ns.map numC).map tx).map V.str) (fun _ => true) (fun i => .int ((ns.getD i 0 : Nat) : Int)) (by simp; omega) (SqL.of hW) ?_ ?_ ?_
  · intro i x H1 R hx s1 k1
    exact k1 _ (Same.refl _)
  · intro i x H1 Q1 hx hb s1 k1
    rw [List.getElem?_map, List.getElem?_map, List.getElem?_map] at hx
    cases e : ns[i]? with
    | none => rw [e] at hx; cases hx
    | some n =>
      rw [e] at hx
      cases hx
      show tCall _ _ _ _ [none, some (.str (tx (numC n)))] H1 Q1
      walk_at "w"
      have eg : ns.getD i 0 = n := by rw [List.getD, e]; rfl
      rw [eg] at k1
      exact ⟨n, rfl, hn n (List.mem_of_getElem? e), k1⟩
  · intro l H1 hl1 s1 el
    have el2 : H1 l = some (.lst ((ns.map fun (n : Nat) => (n : Int)).map V.int)) := by
      rw [el, filter_tt, List.length_map, List.length_map, List.length_map, List.map_map]
      congr 2
      refine List.ext_getElem? fun i => ?_
      rw [List.getElem?_map, List.getElem?_map]
      by_cases h : i < ns.length
      · rw [List.getElem?_range h, List.getElem?_eq_getElem h]
        simp [List.getD, h]
      · rw [List.getElem?_eq_none (by simpa using h), List.getElem?_eq_none (by omega)]; rfl
    walk_at "w"
    rw [w_if]
    walk_at "w"
    rw [w_inNon el2]
    refine ⟨false, rfl, iteF ?_⟩
    walk_at "w"
    exact q l H1 s1 hl1 el2
def sp_read_floor (K : PySem.W.Frag) : Sp := fun vs H Q _ => ∃ h w g : Int, vs = [.str (tx (flT h w g))] ∧ FlOk h w g ∧ ∀ p H', Same H H' → IsFl H' p h w g → Q (.ref p) H'
theorem sl_read_floor {K : PySem.W.Frag} {vs : List V} {H : Hp} {Q : VK} {E : XK} (h : sp_read_floor K vs H Q E) : vs.length = 1 := by
  obtain ⟨_, _, _, rfl, _⟩ := h; rfl
def rd_read_floor (K : PySem.W.Frag) : TS :=
  (tSeq (tAsg (tCall (sp_read_numbers K) [] E0 (tCons (tBM K "str" kSplit (tVar 0) (tCons (tC (.str (tx [32]))) tNil)) tNil)) (gName 1))
    (tSeq (tIfS (tTest (tOp (cNe K) (tCB kLen (tCons (tVar 1) tNil)) (tC (.int 3)))) tNever tNext)
    (tRet (tCall (sp_floor_of K) [] E0 (tCons (tOp cIx (tVar 1) (tC (.int 0))) (tCons (tOp cIx (tVar 1) (tC (.int 1))) (tCons (tOp cIx (tVar 1) (tC (.int 2))) tNil)))))))
theorem rk_read_floor {K : PySem.W.Frag} {vs : List V} {H : Hp} {Q : VK} {E : XK} (h : sp_read_floor K vs H Q E) : rd_read_floor K { nx := fun _ H' => Q .non H', rt := Q } (start ["text", "numbers"] vs) H := by
  obtain ⟨h, w, g, rfl, F, q⟩ := h
  obtain ⟨h0, h1, w0, w1, m16, g0, g1⟩ := id F
  have hsp : Txt.split (tx (flT h w g)) (tx [32]) = (([h.toNat, w.toNat, g.toNat] : List Nat).map numC).map tx := split_tx (by simp) fun r hr => by
    simp at hr
    rcases hr with rfl | rfl | rfl <;> exact num_free (by omega)
  have fl := flT_len h w g
  show rd_read_floor K _ [some (.str (tx (flT h w g))), none] H
  unfold rd_read_floor
  walk_at "w"
  refine ⟨w_tyS, ?_⟩
  rw [w_split, hsp]
  refine ⟨by rw [tx_len]; decide, by rw [tx_len]; exact len_le (by omega), by simp; exact len_le (by decide), fun W hW => ?_⟩
  have s1 : Same H (upd H W (.lst (((([h.toNat, w.toNat, g.toNat] : List Nat).map numC).map tx).map V.str))) := (Same.refl H).laid hW
  have eW : (upd H W (.lst (((([h.toNat, w.toNat, g.toNat] : List Nat).map numC).map tx).map V.str))) W = some (.lst (((([h.toNat, w.toNat, g.toNat] : List Nat).map numC).map tx).map V.str)) := upd_same
  generalize upd H W (.lst (((([h.toNat, w.toNat, g.toNat] : List Nat).map numC).map tx).map V.str)) = H1 at *
  walk_at "w"
  refine ⟨W, _, rfl, eW, by simp, fun n hn => by simp at hn; omega, fun l H2 s2 hl el => ?_⟩
  have el : H2 l = some (.lst (([h, w, g] : List Int).map V.int)) := by
    rw [el]
    simp only [List.map_cons, List.map_nil]
    rw [show ((h.toNat : Nat) : Int) = h by omega, show ((w.toNat : Nat) : Int) = w by omega, show ((g.toNat : Nat) : Int) = g by omega]
  walk_at "w"
  rw [w_if]
  walk_at "w"
  rw [w_len el]
  walk_at "w"
  refine iteF ?_
  refine ixI el (by decide) (by simp) ?_
  walk_at "w"
  refine ixI el (by decide) (by simp) ?_
  walk_at "w"
  refine ixI el (by decide) (by simp) ?_
  walk_at "w"
  exact ⟨h, w, g, rfl, F, fun p hp => q p _ ((s1.trans s2).trans ((Same.refl H2).laid hp)) upd_same⟩
def sp_read_puzzle (K : PySem.W.Frag) (c : RCl RK) (d : RCl PzK) : Sp := fun vs H Q _ => ∃ (h w g : Int) (rows : List RR) (cl : List Int), vs = [.str (tx (pzT h w g rows cl))] ∧ RowsOk c h w g rows ∧ CluesOk h w g cl ∧ d.ok .Puzzle = true ∧
  ∀ P L G H', Same H H' → H P = none → H L = none → H G = none → IsPz H' c d P L G h w g rows cl → Q (.ref P) H'
theorem sl_read_puzzle {K : PySem.W.Frag} {c : RCl RK} {d : RCl PzK} {vs : List V} {H : Hp} {Q : VK} {E : XK} (h : sp_read_puzzle K c d vs H Q E) : vs.length = 1 := by
  obtain ⟨_, _, _, _, _, rfl, _⟩ := h; rfl
def rd_read_puzzle_t5 (K : PySem.W.Frag) (c : RCl RK) (d : RCl PzK) : TS :=
  (tSeq (tAsg (tMake (d.A .Puzzle) (sp_Puzzle___init__ K c d) [] E0 (tCons (tVar 2) (tCons (tVar 3) (tCons (tOp cRepL (tLst (tCons (tC (.int 0)) tNil)) (tCall (sp_many_cells K) [] E0 (tCons (tVar 2) tNil))) tNil)))) (gName 4))
    (tRet (tMethK d d.ok "clued" (sp_clued K c d) (tVar 4) (tCons (tCall (sp_read_filling K) [] E0 (tCons (tVar 2) (tCons (tOp cIx (tVar 1) (tC (.int 2))) tNil))) tNil))))
def rd_read_puzzle_t4 (K : PySem.W.Frag) (c : RCl RK) (d : RCl PzK) : TS :=
  (tSeq (tAsg (tIf (tTest (tOp (cNe K) (tOp cIx (tVar 1) (tC (.int 1))) (tC (.str (tx []))))) (tBM K "str" kSplit (tOp cIx (tVar 1) (tC (.int 1))) (tCons (tC (.str (tx [59, 32]))) tNil)) (tLst tNil)) (gName 3))
    (rd_read_puzzle_t5 K c d))
def rd_read_puzzle (K : PySem.W.Frag) (c : RCl RK) (d : RCl PzK) : TS :=
  (tSeq (tDrop (tCall (sp_refuse_no_text K) [] E0 (tCons (tVar 0) tNil)))
    (tSeq (tAsg (tBM K "str" kSplit (tVar 0) (tCons (tC (.str (tx [32, 124, 32]))) tNil)) (gName 1))
    (tSeq (tIfS (tTest (tOp (cNe K) (tCB kLen (tCons (tVar 1) tNil)) (tC (.int 3)))) tNever tNext)
    (tSeq (tAsg (tCall (sp_read_floor K) [] E0 (tCons (tOp cIx (tVar 1) (tC (.int 0))) tNil)) (gName 2))
    (rd_read_puzzle_t4 K c d)))))
theorem rowT_nil {rows : List RR} (hR : ∀ r ∈ rows, r.k ≠ .Rule) : rowT rows = [] ↔ rows = [] := by
  constructor
  · intro h
    match rows, h, hR with
    | [], _, _ => rfl
    | [r], h, hR =>
      exfalso
      have h : catL 32 r.ws = [] := h
      obtain ⟨t, e⟩ : ∃ t, r.ws = nmC r.k :: t := ⟨_, rfl⟩
      rw [e] at h
      have hk : nmC r.k ≠ [] := by
        have := hR r List.mem_cons_self
        revert this
        cases r.k <;> decide
      match t, h with
      | [], h => exact hk h
      | a :: u, h => rw [cat_cons (by simp)] at h; simp at h
    | r :: s :: t, h, _ =>
      exfalso
      have h : r.cod ++ ([59, 32] ++ catS [59, 32] ((s :: t).map RR.cod)) = [] := h
      simp at h
  · rintro rfl; rfl
theorem rep0 (k : Nat) : (List.replicate k [V.int 0]).flatten = (List.replicate k (0 : Int)).map V.int := by
  rw [List.map_replicate]
  induction k with
  | zero => rfl
  | succ n ih => rw [List.replicate_succ, List.flatten_cons, ih, List.replicate_succ]; rfl
theorem rk_read_puzzle_t5 {K : PySem.W.Frag} {c : RCl RK} {d : RCl PzK} {H : Hp} {Q : VK} {U p A : Addr} {h w g : Int} {rows : List RR} {cl : List Int} {v0 : Option V} (R : RowsOk c h w g rows) (C : CluesOk h w g cl) (ok : d.ok .Puzzle = true) (eU : H U = some (.lst (((pzP h w g rows cl).map tx).map V.str))) (ep : IsFl H p h w g) (eA : H A = some (.lst ((rows.map RR.txt).map V.str)))
    (q : ∀ P L G H', Same H H' → H P = none → H L = none → H G = none → IsPz H' c d P L G h w g rows cl → Q (.ref P) H') :
    rd_read_puzzle_t5 K c d { nx := fun _ H' => Q .non H', rt := Q } [v0, some (.ref U), some (.ref p), some (.ref A), none] H := by
  obtain ⟨h0, h1, w0, w1, m16, g0, g1⟩ := id R.F
  have mpos : 0 ≤ h * w := Int.mul_nonneg (by omega) (by omega)
  unfold rd_read_puzzle_t5
  walk_at "w"
  refine ⟨len_le (by show (1 : Nat) ≤ 1000; decide), fun Z hZ => ?_⟩
  have s1 : Same H (upd H Z (.lst [V.int 0])) := (Same.refl H).laid hZ
  have eZ : (upd H Z (.lst [V.int 0])) Z = some (.lst [V.int 0]) := upd_same
  generalize upd H Z (.lst [V.int 0]) = H1 at *
  refine ⟨p, h, w, g, rfl, s1 _ _ ep, h0, h1, ?_⟩
  refine w_repL eZ mpos (by omega) (by simp) fun B hB => ?_
  rw [rep0]
  have s2 : Same H1 (upd H1 B (.lst ((List.replicate (h * w).toNat (0 : Int)).map V.int))) := (Same.refl H1).laid hB
  have eB : (upd H1 B (.lst ((List.replicate (h * w).toNat (0 : Int)).map V.int))) B = some (.lst ((List.replicate (h * w).toNat (0 : Int)).map V.int)) := upd_same
  generalize upd H1 B (.lst ((List.replicate (h * w).toNat (0 : Int)).map V.int)) = H2 at *
  have s12 := s1.trans s2
  walk_at "w"
  refine mk_puz ok (s12 _ _ ep) (s12 _ _ eA) eB R ⟨by simp, fun x hx => by rw [List.eq_of_mem_replicate hx]; omega⟩ fun P L G H3 s3 hP hL hG X => ?_
  obtain ⟨dx, p1, rs, e1, e2, e3⟩ := X.ex
  have s13 := s12.trans s3
  walk_at "w"
  refine methE (k := .Puzzle) rfl X.ok e1 (by rfl) ?_
  walk_at "w"
  refine ixL (s13 _ _ eU) (v := V.str (tx (showL h.toNat w.toNat cl))) rfl ?_
  walk_at "w"
  refine ⟨p, h, w, g, cl, rfl, s13 _ _ ep, R.F, cl_len72 R.F C, C.ok, fun F H4 s4 hF eF => ?_⟩
  walk_at "w"
  refine ⟨P, L, G, F, h, w, g, rows, _, cl, rfl, X.same s4, eF, C, fun P2 L2 G2 H5 s5 hP2 hL2 hG2 X2 => ?_⟩
  have s14 := s13.trans s4
  exact q P2 L2 G2 H5 (s14.trans s5) (s14.free hP2) (s14.free hL2) (s14.free hG2) X2
theorem rk_read_puzzle {K : PySem.W.Frag} {c : RCl RK} {d : RCl PzK} {vs : List V} {H : Hp} {Q : VK} {E : XK} (h : sp_read_puzzle K c d vs H Q E) : rd_read_puzzle K c d { nx := fun _ H' => Q .non H', rt := Q } (start ["text", "parts", "floor", "lines", "bare"] vs) H := by
  obtain ⟨h, w, g, rows, cl, rfl, R, C, ok, q⟩ := h
  have rl := rowT_len R
  have fl := flT_len h w g
  have hn := R.n
  have shl : (showL h.toNat w.toNat cl).length ≤ 100 := showL_len (by have := R.F.h1; omega) (by have := R.F.w1; omega)
  have hsp : Txt.split (tx (pzT h w g rows cl)) (tx [32, 124, 32]) = (pzP h w g rows cl).map tx := split_bar (by simp [pzP]) (pz_free R)
  have len : (pzT h w g rows cl).length ≤ 900 := by
    show (flT h w g ++ ([32, 124, 32] ++ (rowT rows ++ ([32, 124, 32] ++ showL h.toNat w.toNat cl)))).length ≤ 900
    simp
    omega
  show rd_read_puzzle K c d _ [some (.str (tx (pzT h w g rows cl))), none, none, none, none] H
  unfold rd_read_puzzle
  walk_at "w"
  refine ⟨_, rfl, ?_⟩
  walk_at "w"
  refine ⟨w_tyS, ?_⟩
  rw [w_split, hsp]
  refine ⟨by rw [tx_len]; decide, by rw [tx_len]; exact len_le (by omega), by simp [pzP]; exact len_le (by decide), fun U hU => ?_⟩
  have s1 : Same H (upd H U (.lst (((pzP h w g rows cl).map tx).map V.str))) := (Same.refl H).laid hU
  have eU : (upd H U (.lst (((pzP h w g rows cl).map tx).map V.str))) U = some (.lst (((pzP h w g rows cl).map tx).map V.str)) := upd_same
  generalize upd H U (.lst (((pzP h w g rows cl).map tx).map V.str)) = H1 at *
  walk_at "w"
  rw [w_if]
  walk_at "w"
  rw [w_len eU]
  walk_at "w"
  refine iteF ?_
  refine ixL eU (v := V.str (tx (flT h w g))) rfl ?_
  walk_at "w"
  refine ⟨h, w, g, rfl, R.F, fun p H2 s2 ep => ?_⟩
  have s12 := s1.trans s2
  unfold rd_read_puzzle_t4
  walk_at "w"
  refine ixL (s2 _ _ eU) (v := V.str (tx (rowT rows))) rfl ?_
  walk_at "w"
  rw [tx_dec]
  by_cases hr : rows = []
  · subst hr
    rw [decide_eq_true (show rowT [] = [] from rfl)]
    walk_at "w"
    refine ⟨len_le (by decide), fun A hA => ?_⟩
    have s3 : Same H2 (upd H2 A (.lst [])) := (Same.refl H2).laid hA
    have s13 := s12.trans s3
    exact rk_read_puzzle_t5 R C ok (s3 _ _ (s2 _ _ eU)) (s3 _ _ ep) (show (upd H2 A (.lst [])) A = some (.lst ((([] : List RR).map RR.txt).map V.str)) from upd_same) fun P L G H' s4 a1 a2 a3 X => q P L G H' (s13.trans s4) (s13.free a1) (s13.free a2) (s13.free a3) X
  · rw [decide_eq_false (fun e => hr ((rowT_nil fun r hr => (R.ok r hr).k0).mp e))]
    walk_at "w"
    refine ixL (s2 _ _ eU) (v := V.str (tx (rowT rows))) rfl ?_
    walk_at "w"
    refine ⟨w_tyS, ?_⟩
    have hs2 : Txt.split (tx (rowT rows)) (tx [59, 32]) = (rows.map RR.cod).map tx := split_semi (by simpa using hr) (row_free R)
    rw [w_split, hs2]
    refine ⟨by rw [tx_len]; decide, by rw [tx_len]; exact len_le (by omega), by simp; exact len_le (by omega), fun A hA => ?_⟩
    rw [← RR.txts]
    have s3 : Same H2 (upd H2 A (.lst ((rows.map RR.txt).map V.str))) := (Same.refl H2).laid hA
    have s13 := s12.trans s3
    exact rk_read_puzzle_t5 R C ok (s3 _ _ (s2 _ _ eU)) (s3 _ _ ep) upd_same fun P L G H' s4 a1 a2 a3 X => q P L G H' (s13.trans s4) (s13.free a1) (s13.free a2) (s13.free a3) X
def wl72 (C m n : List Nat) : List V := [V.str (tx ([117, 110, 108, 105, 107, 101, 32] ++ C)), V.str (tx ([115, 117, 109, 32] ++ n ++ [32] ++ C)), V.str (tx ([114, 105, 115, 105, 110, 103, 32] ++ C)), V.str (tx ([115, 101, 101, 110, 32] ++ n ++ [32] ++ C)), V.str (tx ([99, 111, 117, 110, 116, 32] ++ n ++ [32] ++ m ++ [32] ++ C)), V.str (tx ([106, 111, 105, 110, 101, 100, 32] ++ m)), V.str (tx ([110, 111, 115, 113, 117, 97, 114, 101, 32] ++ m)), V.str (tx ([114, 105, 110, 103, 32] ++ m))]
theorem pick72 {h w g : Int} {cs : List Nat} {m n : Nat} {j : Int} (F : FlOk h w g) (c0 : cs ≠ []) (ci : ∀ c ∈ cs, (c : Int) < h * w) (nd : cs.Nodup) (cn : cs.length ≤ 16) (n9 : n ≤ 99) (m0 : 1 ≤ (m : Int)) (m1 : (m : Int) ≤ g) (j0 : 0 ≤ j) (j8 : j < 8) :
    ∃ r : RR, r.Ok h w g ∧ atI (wl72 (catL 32 (cs.map numC)) (numC m) (numC n)) j = some (V.str r.txt) := by
  have ne : cs.map numC ≠ [] := by simpa using c0
  have : j = 0 ∨ j = 1 ∨ j = 2 ∨ j = 3 ∨ j = 4 ∨ j = 5 ∨ j = 6 ∨ j = 7 := by omega
  have al : ∀ k : RK, allK k = true → k ≠ .Rule → numK k = false → sgnK k = true → RR.Ok ⟨k, 0, m, [], rngL 0 (h * w)⟩ h w g := fun k a b c d => RowOk_all a b c d m0 m1
  rcases this with rfl | rfl | rfl | rfl | rfl | rfl | rfl | rfl
  · refine ⟨⟨.Unlike, 0, 0, cs, cs.map fun (n : Nat) => (n : Int)⟩, RowOk_list F c0 ci nd cn rfl (by decide) (by decide) (fun _ => rfl) (fun e => by cases e) (fun _ => rfl), ?_⟩
    show some (V.str (tx ([117, 110, 108, 105, 107, 101, 32] ++ catL 32 (cs.map numC)))) = some (V.str (tx (catL 32 (nmC .Unlike :: cs.map numC))))
    rw [cat_cons ne]; rfl
  · refine ⟨⟨.Sum, n, 0, cs, cs.map fun (n : Nat) => (n : Int)⟩, RowOk_list F c0 ci nd cn rfl (by decide) n9 (fun e => by cases e) (fun e => by cases e) (fun _ => rfl), ?_⟩
    show some (V.str (tx ([115, 117, 109, 32] ++ numC n ++ [32] ++ catL 32 (cs.map numC)))) = some (V.str (tx (catL 32 (nmC .Sum :: numC n :: cs.map numC))))
    rw [cat_cons (by simp), cat_cons ne, show nmC .Sum = [115, 117, 109] from rfl]; simp
  · refine ⟨⟨.Rising, 0, 0, cs, cs.map fun (n : Nat) => (n : Int)⟩, RowOk_list F c0 ci nd cn rfl (by decide) (by decide) (fun _ => rfl) (fun e => by cases e) (fun _ => rfl), ?_⟩
    show some (V.str (tx ([114, 105, 115, 105, 110, 103, 32] ++ catL 32 (cs.map numC)))) = some (V.str (tx (catL 32 (nmC .Rising :: cs.map numC))))
    rw [cat_cons ne]; rfl
  · refine ⟨⟨.Seen, n, 0, cs, cs.map fun (n : Nat) => (n : Int)⟩, RowOk_list F c0 ci nd cn rfl (by decide) n9 (fun e => by cases e) (fun e => by cases e) (fun _ => rfl), ?_⟩
    show some (V.str (tx ([115, 101, 101, 110, 32] ++ numC n ++ [32] ++ catL 32 (cs.map numC)))) = some (V.str (tx (catL 32 (nmC .Seen :: numC n :: cs.map numC))))
    rw [cat_cons (by simp), cat_cons ne, show nmC .Seen = [115, 101, 101, 110] from rfl]; simp
  · refine ⟨⟨.Count, n, m, cs, cs.map fun (n : Nat) => (n : Int)⟩, RowOk_list F c0 ci nd cn rfl (by decide) n9 (fun e => by cases e) (fun _ => ⟨m0, m1⟩) (fun e => by cases e), ?_⟩
    show some (V.str (tx ([99, 111, 117, 110, 116, 32] ++ numC n ++ [32] ++ numC m ++ [32] ++ catL 32 (cs.map numC)))) = some (V.str (tx (catL 32 (nmC .Count :: numC n :: numC m :: cs.map numC))))
    rw [cat_cons (by simp), cat_cons (by simp), cat_cons ne, show nmC .Count = [99, 111, 117, 110, 116] from rfl]; simp
  · exact ⟨_, al .Joined rfl (by decide) rfl rfl, rfl⟩
  · exact ⟨_, al .NoSquare rfl (by decide) rfl rfl, rfl⟩
  · exact ⟨_, al .Ring rfl (by decide) rfl rfl, rfl⟩
end L2
set_option Elab.async false
set_option linter.all false
set_option maxRecDepth 100000
namespace L2
open PySem PySem.Spec PyProof.Rows
inductive DkK where
  | Desk
  deriving DecidableEq
theorem pe_mk0 {X : Cx} {x : Str} {C : Addr} {k n : Nat} {ps : List Str} {sp1 : Sp} {p pos : Pos} (M : KCal X.prog X.w X.K X.mg X.base k x C ps sp1) (hr : Room n X.A) (hk : k + 1 ≤ n) (hg : Gl X x) (hdb : (x == ("__debug__" : Str)) = false := by decide) : PE X (.Call (.Name x p) [] [] pos) (tMake C sp1 [] E0 tNil) := by
  obtain ⟨f, fd, mk, F, hm, hb⟩ := M.ex
  exact pe_make0 mk F (hr.mono hk) hg hm hb .nil pass0 hdb
end L2
set_option Elab.async false
set_option linter.all false
set_option maxRecDepth 100000
namespace L2
open PySem PySem.Spec PyProof.Rows
end L2
set_option Elab.async false
set_option linter.all false
set_option maxRecDepth 100000
namespace L2
open PySem PySem.Spec PyProof.Rows
end L2
set_option Elab.async false
set_option linter.all false
set_option maxRecDepth 100000
namespace L2
open PySem PySem.Spec PyProof.Rows
section
variable {ι : Type}
structure MCal1 (P : Program) (w : World) (K : PySem.W.Frag) (mg : Str → Option Value) (base : Heap) (c : RCl ι) (okm : ι → Bool) (k : Nat) (m : Str) (ps : List Str) (sp : ι → Sp) : Prop where
  ex : ∀ i, okm i = true → ∃ (f : Addr) (fd : FuncData), Cls K (c.A i) ∧ Meth K (c.A i) m f ∧ FnOk P w K mg base (CX1 P w) k f fd ps (sp i) ∧ Binds K fd ps []
def tMethE (c : RCl ι) (okm : ι → Bool) (m : Str) (sp : ι → Sp) (E : XK) (ta : TE) (t : TA) : TE := fun σ H Q => ta σ H fun x H1 => ∃ a k dx fs, x = .ref a ∧ okm k = true ∧ H1 a = some (.ins (c.A k) dx fs) ∧ fs.lookup m = none ∧
  t σ H1 fun vs H2 => sp k (x :: vs) H2 Q E
end
section
variable {ι : Type} {X : Cx} {c : RCl ι} {o e : Expr} {es : List Expr} {x m : Str} {p pos apos : Pos} {ta : TE} {t : TA} {okm : ι → Bool} {k n : Nat} {ps : List Str} {sp : ι → Sp} {sp1 : Sp} {C : Addr} {E : XK}
theorem pe_methE {pl : Sem Bool} (hE : Passes (CX1 X.prog X.w) X E) (M : MCal1 X.prog X.w X.K X.mg X.base c okm k m ps sp) (hr : Room n X.A) (hk : k ≤ n) (he : PE X o ta) (ha : PA X (e :: es) t)
    (hst : starEach (e :: es) X.env = (false, eval e X.env) :: starEach es X.env := by rfl) (hpl : (backTo pos (starEach es X.env)).any (·.1) = false := by rfl)
    (ht : eval (.Call (.Attribute o m apos) (e :: es) [] pos) X.env = (do
      let ov ← eval o X.env
      standAt apos.atName
      let (f, first) ← holding [ov] (getMethod ov m pl)
      callWith pos f first (backTo pos (starEach (e :: es) X.env)) (backToKw pos (keywordEach [] X.env))) := by rfl) :
    PE X (.Call (.Attribute o m apos) (e :: es) [] pos) (tMethE c okm m sp E ta t) := by
  intro pins s σ H Q I h
  refine PySem.W.methodCall_KW (pl := pl) (thn (he pins s σ H _ I h) fun u s1 ⟨x, H1, I1, rx, a, i, dx, fs, ex, hi, ea, l, q⟩ => ?_) ht
  subst ex
  obtain rfl : u = Value.ref a := rx
  obtain ⟨f, fd, cl, hm, F, hb⟩ := M.ex i hi
  refine getmeth_ok I1 ea cl hm l ?_
  refine PySem.W.callWith_K (first := [.ref a]) (h₀ := X.base) I.ok.mod.kin hm.kp (thn (ha pos pins s1 σ H1 _ I1 q) fun us s2 ⟨vs, H2, I2, r, q2⟩ => ⟨I2.kIn, ?_⟩) hst hpl
  exact run_fn (us := .ref a :: us) (vs := .ref a :: vs) F (hr.mono hk) hb .nil hE I2 (.cons rfl r) (by rw [List.append_nil]; exact q2)
theorem px_meth {pl : Sem Bool} {pins : List (Addr × Obj)} {s : Shared} {σ : St} {H : Hp} {Q : VK} (E : XK) (hnx : ∀ e s, X.xe e s → False) (M : MCal1 X.prog X.w X.K X.mg X.base c okm k m ps sp) (hr : Room n X.A) (hk : k ≤ n) (he : PE X o ta) (ha : PA X (e :: es) t)
    (I : Inv X pins σ H s) (h : tMethE c okm m sp E ta t σ H Q)
    (hst : starEach (e :: es) X.env = (false, eval e X.env) :: starEach es X.env := by rfl) (hpl : (backTo pos (starEach es X.env)).any (·.1) = false := by rfl)
    (ht : eval (.Call (.Attribute o m apos) (e :: es) [] pos) X.env = (do
      let ov ← eval o X.env
      standAt apos.atName
      let (f, first) ← holding [ov] (getMethod ov m pl)
      callWith pos f first (backTo pos (starEach (e :: es) X.env)) (backToKw pos (keywordEach [] X.env))) := by rfl) :
    wpAny (model X.prog X.w) X.A (eval (.Call (.Attribute o m apos) (e :: es) [] pos) X.env) (EP X pins σ Q) (Came X pins σ E) s := by
  refine PySem.W.methodCall_KW (pl := pl) (wpAny_mono (he pins s σ H _ I h) (fun u s1 ⟨x, H1, I1, rx, a, i, dx, fs, ex, hi, ea, l, q⟩ => ?_) fun e s z => (hnx e s z).elim) ht
  subst ex
  obtain rfl : u = Value.ref a := rx
  obtain ⟨f, fd, cl, hm, F, hb⟩ := M.ex i hi
  refine getmeth_ok I1 ea cl hm l ?_
  refine PySem.W.callWith_K (first := [.ref a]) (h₀ := X.base) I.ok.mod.kin hm.kp (wpAny_mono (ha pos pins s1 σ H1 _ I1 q) (fun us s2 ⟨vs, H2, I2, r, q2⟩ => ⟨I2.kIn, ?_⟩) fun e s z => (hnx e s z).elim) hst hpl
  have r2 : Vals (V.ref a :: vs) ((Value.ref a :: us) ++ []) := by rw [List.append_nil]; exact .cons rfl r
  have hl : ((Value.ref a :: us) ++ []).length = ps.length := by rw [← r2.length]; exact F.len _ _ _ _ q2
  refine wpAny_call (codeAny_mono (F.run X.A X.stack s2 H2 ⟨Value.ref a :: us, []⟩ ((Value.ref a :: us) ++ []) (V.ref a :: vs) Q E (hr.mono hk) I2.env0 (hb s2 (Value.ref a :: us) I2.kIn hl) r2 q2) fun r s' hq => ?_)
  cases r with
  | error e => exact ⟨H2, s2, I2, hq⟩
  | ok fl =>
    cases fl with
    | ret u => exact I2.after hq
    | next => exact False.elim hq
    | brk => exact False.elim hq
    | cont => exact False.elim hq
def tTryM (K : PySem.W.Frag) (c : RCl ι) (okm : ι → Bool) (m : Str) (sp : ι → Sp) (ta : TE) (t : TA) (cv : Value) (i : Nat) (th : TS) : TS := fun D σ H => ∃ E : XK, tMethE c okm m sp E ta t σ H (fun _ H2 => D.nx σ H2) ∧ tCatch K cv i E th D σ H
theorem ps_trym {pl : Sem Bool} {i : Nat} {nm cn : Str} {cv : Value} {np hpos epos tpos : Pos} {b₀ : Stmt} {suite : List Stmt} {th : TS} (hnx : ∀ e s, X.xe e s → False) (M : MCal1 X.prog X.w X.K X.mg X.base c okm k m ps sp) (hr : Room n X.A) (hk : k ≤ n) (he : PE X o ta) (ha : PA X (e :: es) t)
    (hN : X.N.Nodup) (hi : X.N[i]? = some nm) (hkn : X.env.kindOf nm = some .local) (hg : Gl X cn) (hm : X.mg cn = some cv)
    (hst : X.stack = X.env :: X.outer) (hf : X.env.frame = some X.env.locals) (hs : ∀ x, PSs (X.caught x) (b₀ :: suite) th) (hdc : (cn == ("__debug__" : Str)) = false := by decide)
    (hse : starEach (e :: es) X.env = (false, eval e X.env) :: starEach es X.env := by rfl) (hpl : (backTo pos (starEach es X.env)).any (·.1) = false := by rfl) (hsw : swapsWith (.Call (.Attribute o m apos) (e :: es) [] pos) none epos.line X.env = pure false := by rfl)
    (ht : eval (.Call (.Attribute o m apos) (e :: es) [] pos) X.env = (do
      let ov ← eval o X.env
      standAt apos.atName
      let (f, first) ← holding [ov] (getMethod ov m pl)
      callWith pos f first (backTo pos (starEach (e :: es) X.env)) (backToKw pos (keywordEach [] X.env))) := by rfl) :
    PS X (.Try [.Expr (.Call (.Attribute o m apos) (e :: es) [] pos) epos] [.ExceptHandler (some (.Name cn np)) (some nm) (b₀ :: suite) hpos] [] [] tpos) (tTryM X.K c okm m sp ta t cv i th) := by
  intro pins s σ H D I h
  obtain ⟨E, h1, h2⟩ := h
  refine wpAny_Try_except (wpAny_execs_cons (wpAny_Expr_any (wpAny_mono (px_meth (pl := pl) E hnx M hr hk he ha I h1 hse hpl ht) (fun v s1 ⟨y, H1, I1, r1, q1⟩ => ?_) fun e s' hc => ?_) I.quiet hsw))
  · exact wpAny_execs_nil (wpAny_execs_nil ⟨σ, H1, I1, q1⟩)
  · exact catch_ok hN hi hkn hg hm hst hf hs hc h2 hdc
end
section
variable {ι : Type} {c : RCl ι} {ta : TE} {t : TA} {m : Str} {σ : St} {H : Hp} {Q : VK} {okm : ι → Bool} {sp : ι → Sp} {sp1 : Sp} {C : Addr} {E : XK}
theorem w_methE : tMethE c okm m sp E ta t σ H Q = ta σ H fun x H1 => ∃ a k dx fs, x = .ref a ∧ okm k = true ∧ H1 a = some (.ins (c.A k) dx fs) ∧ fs.lookup m = none ∧ t σ H1 fun vs H2 => sp k (x :: vs) H2 Q E := rfl
theorem w_make1 : tMake C sp1 [] E t σ H Q = t σ H fun vs H1 => ∀ x dx, H1 x = none → H1 dx = none → dx ≠ x → sp1 (.ref x :: (vs ++ [])) (upd (upd H1 dx (.own x)) x (.ins C dx [])) (fun v H2 => v = .non ∧ Q (.ref x) H2) E := rfl
end
end L2
set_option Elab.async false
set_option linter.all false
set_option maxRecDepth 100000
namespace L2
open PySem PySem.Spec PyProof.Rows
def rIsB : R2
  | .bl a, .bl b, H, Q => Q (.bl (a == b)) H
  | _, _, _, _ => False
theorem w_isB {a b : Bool} {H : Hp} {Q : VK} : rIsB (.bl a) (.bl b) H Q = Q (.bl (a == b)) H := rfl
theorem op_isB {X : Cx} : OpR X (compareOp .Is) rIsB := by
  intro pins s σ H x y v u Q I rx ry h
  unfold rIsB at h
  split at h
  · cases rx
    cases ry
    rename_i a b
    show wpAny _ _ (do let r ← isSame (.bool a) (.bool b); pure (Value.bool r)) _ _ _
    have e : isSame (.bool a) (.bool b) = pure (a == b) := by cases a <;> cases b <;> rfl
    rw [e]
    exact wpAny_pure ⟨.bl _, H, I, rfl, h⟩
  · exact h.elim
end L2
set_option Elab.async false
set_option linter.all false
set_option maxRecDepth 100000
namespace L2
open PySem PySem.Spec PyProof.Rows
local macro_rules | `(tactic| walk_at "w") => `(tactic| (first | simp only [w_seq, w_make1, w_methE, w_inG, w_lenset, w_revL, w_int2B, w_int2I, w_max, w_isN, w_notN, w_pow, if_true, if_false, Bool.false_eq_true, decide_true, decide_false, w_lrng1, w_lrng2, w_ifE, w_compR2, w_scompR2, w_forRD, w_forE, w_compE, w_scompE, w_intB, w_intI, w_bitlen, w_shr, w_isi_ii, w_isi_ib, w_isi_bb, w_isi_bi, w_isi_ss, w_isi_bs, w_isi_is, w_iteT, w_iteF, w_negE, w_bitI, w_str, Bool.not_true, Bool.not_false, w_next, w_asg, w_gname, w_var0, w_varS, w_c, w_op, w_ret, w_retN, w_drop, w_test, w_b, w_not, w_and, w_or, w_notV, w_andV, w_orV, w_nil, w_cons, w_cb, w_call, w_tup, w_lst, w_bm, w_bm0, w_true, w_dnew, w_dput, w_forL, w_forR1, w_forR2, w_compL, w_compR1, w_scompL, w_scompR1, w_add, w_sub, w_mul, w_div, w_mod, w_cmp, w_eqI, w_neI, w_eqB, w_neB, w_abs, w_min, w_sl, w_part, w_nopart, w_gsub, w_un, w_forS, w_compS, w_scompS, w_eqS, w_neS, w_lenS, w_addS, w_find,
  List.getElem?_cons_zero, List.getElem?_cons_succ, Option.some.injEq, exists_eq_left', exists_eq_left, List.set_cons_zero, List.set_cons_succ, bnd_some, V.int.injEq, V.bl.injEq, V.ref.injEq, V.str.injEq, List.nil_append, List.cons_append] | dsimp only | skip))
def sp__law_cell_at74 (K : PySem.W.Frag) : Sp := fun vs H Q _ => ∃ (a : Addr) (ns : List Int) (k : Int), vs = [.ref a, .int k] ∧ SqL K H a (ns.map V.int) ∧ ns.length ≤ 63 ∧ 0 ≤ k ∧ ∀ i : Int, Q (.int i) H
theorem sl__law_cell_at74 {K : PySem.W.Frag} {vs : List V} {H : Hp} {Q : VK} {E : XK} (h : sp__law_cell_at74 K vs H Q E) : vs.length = 2 := by
  obtain ⟨_, _, _, rfl, _⟩ := h; rfl
def rd__law_cell_at74 (K : PySem.W.Frag) : TS :=
  (tSeq (tIfS (tTest (tOp (cCmp fun i j => decide (i < j)) (tVar 1) (tCB (kLenS K) (tCons (tVar 0) tNil)))) (tRet (tOp (rIxL K) (tVar 0) (tVar 1))) tNext)
    (tRet (tC (.int 0))))
theorem rk__law_cell_at74 {K : PySem.W.Frag} {vs : List V} {H : Hp} {Q : VK} {E : XK} (h : sp__law_cell_at74 K vs H Q E) : rd__law_cell_at74 K { nx := fun _ H' => Q .non H', rt := Q } (start ["_law_script", "_law_k"] vs) H := by
  obtain ⟨a, ns, k, rfl, hS, hn, k0, q⟩ := h
  show rd__law_cell_at74 K _ [some (.ref a), some (.int k)] H
  unfold rd__law_cell_at74
  rw [w_seq, w_if]
  walk_at "w"
  refine ⟨a, _, rfl, .inl hS, ?_⟩
  walk_at "w"
  rw [List.length_map]
  by_cases hk : k < (ns.length : Int)
  · rw [if_pos (decide_eq_true hk)]
    exact ⟨a, _, k, _, rfl, rfl, hS, atI_ints k0 hk, q _⟩
  · rw [if_neg (by simpa using hk)]
    exact q _
def wl74 (C m n k : List Nat) : List V := [V.str (tx ([117, 110, 108, 105, 107, 101, 32] ++ C)), V.str (tx ([115, 117, 109, 32] ++ n ++ [32] ++ C)), V.str (tx ([114, 105, 115, 105, 110, 103, 32] ++ C)), V.str (tx ([115, 101, 101, 110, 32] ++ n ++ [32] ++ C)), V.str (tx ([99, 111, 117, 110, 116, 32] ++ k ++ [32] ++ m ++ [32] ++ C)), V.str (tx ([106, 111, 105, 110, 101, 100, 32] ++ m)), V.str (tx ([110, 111, 115, 113, 117, 97, 114, 101, 32] ++ m)), V.str (tx ([114, 105, 110, 103, 32] ++ m))]
theorem wl74_n (C m n k : List Nat) : ∀ j : Int, 0 ≤ j → j < 8 → j ≠ 4 → atI (wl74 C m n k) j = atI (wl72 C m n) j := by
  intro j j0 j8 j4
  have : j = 0 ∨ j = 1 ∨ j = 2 ∨ j = 3 ∨ j = 5 ∨ j = 6 ∨ j = 7 := by omega
  rcases this with rfl | rfl | rfl | rfl | rfl | rfl | rfl <;> rfl
theorem wl74_4 (C m n k : List Nat) : atI (wl74 C m n k) 4 = atI (wl72 C m k) 4 := rfl
theorem pick74 {h w g : Int} {cs : List Nat} {m n k : Nat} {j : Int} (F : FlOk h w g) (c0 : cs ≠ []) (ci : ∀ c ∈ cs, (c : Int) < h * w) (nd : cs.Nodup) (cn : cs.length ≤ 16) (n9 : n ≤ 99) (k9 : k ≤ 99) (m0 : 1 ≤ (m : Int)) (m1 : (m : Int) ≤ g) (j0 : 0 ≤ j) (j8 : j < 8) :
    ∃ r : RR, r.Ok h w g ∧ atI (wl74 (catL 32 (cs.map numC)) (numC m) (numC n) (numC k)) j = some (V.str r.txt) := by
  by_cases e : j = 4
  · subst e
    rw [wl74_4]
    exact pick72 F c0 ci nd cn k9 m0 m1 j0 j8
  · rw [wl74_n _ _ _ _ j j0 j8 e]
    exact pick72 F c0 ci nd cn n9 m0 m1 j0 j8
theorem mod_nd {s M n : Nat} (hM : 0 < M) (hn : n ≤ M) : ((List.range n).map fun k => (s + k) % M).Nodup := by
  refine List.pairwise_map.mpr (List.Pairwise.imp_of_mem ?_ List.nodup_range)
  intro a b ha hb hab e
  have ha := List.mem_range.mp ha
  have hb := List.mem_range.mp hb
  have e1 := Nat.div_add_mod (s + a) M
  have e2 := Nat.div_add_mod (s + b) M
  rw [e] at e1
  rcases Nat.lt_trichotomy ((s + a) / M) ((s + b) / M) with q | q | q
  · have : M * ((s + a) / M) + M ≤ M * ((s + b) / M) := by rw [← Nat.mul_succ]; exact Nat.mul_le_mul_left _ q
    omega
  · rw [q] at e1; omega
  · have : M * ((s + b) / M) + M ≤ M * ((s + a) / M) := by rw [← Nat.mul_succ]; exact Nat.mul_le_mul_left _ q
    omega
def sp__law_line74 (K : PySem.W.Frag) : Sp := fun vs H Q _ => ∃ (y h w g : Int), vs = [.int y, .int (h * w), .int g] ∧ FlOk h w g ∧ ∀ (r : RR) (H' : Hp), Same H H' → r.Ok h w g → Q (.str r.txt) H'
theorem sl__law_line74 {K : PySem.W.Frag} {vs : List V} {H : Hp} {Q : VK} {E : XK} (h : sp__law_line74 K vs H Q E) : vs.length = 3 := by
  obtain ⟨_, _, _, _, rfl, _⟩ := h; rfl
def rd__law_line74_t6 (K : PySem.W.Frag) : TS :=
  (tRet (tOp cIx (tOp cAdd (tVar 6) (tLst (tCons (tOp cAdd (tC (.str (tx [106, 111, 105, 110, 101, 100, 32]))) (tVar 3)) (tCons (tOp cAdd (tC (.str (tx [110, 111, 115, 113, 117, 97, 114, 101, 32]))) (tVar 3)) (tCons (tOp cAdd (tC (.str (tx [114, 105, 110, 103, 32]))) (tVar 3)) tNil))))) (tOp cMod (tVar 0) (tC (.int 8)))))
def rd__law_line74_t5 (K : PySem.W.Frag) : TS :=
  (tSeq (tDrop (tBM K "list" kAppend (tVar 6) (tCons (tOp cAdd (tOp cAdd (tOp cAdd (tOp cAdd (tOp cAdd (tC (.str (tx [99, 111, 117, 110, 116, 32]))) (tCB kStr (tCons (tOp cMod (tOp cDiv (tVar 0) (tC (.int 90))) (tC (.int 9))) tNil))) (tC (.str (tx [32])))) (tVar 3)) (tC (.str (tx [32])))) (tVar 5)) tNil)))
    (rd__law_line74_t6 K))
def rd__law_line74_t4 (K : PySem.W.Frag) : TS :=
  (tSeq (tDrop (tBM K "list" kAppend (tVar 6) (tCons (tOp cAdd (tOp cAdd (tOp cAdd (tC (.str (tx [115, 101, 101, 110, 32]))) (tCB kStr (tCons (tOp cMod (tOp cDiv (tVar 0) (tC (.int 90))) (tC (.int 100))) tNil))) (tC (.str (tx [32])))) (tVar 5)) tNil)))
    (rd__law_line74_t5 K))
def rd__law_line74_t3 (K : PySem.W.Frag) : TS :=
  (tSeq (tAsg (tLst (tCons (tOp cAdd (tC (.str (tx [117, 110, 108, 105, 107, 101, 32]))) (tVar 5)) (tCons (tOp cAdd (tOp cAdd (tOp cAdd (tC (.str (tx [115, 117, 109, 32]))) (tCB kStr (tCons (tOp cMod (tOp cDiv (tVar 0) (tC (.int 90))) (tC (.int 100))) tNil))) (tC (.str (tx [32])))) (tVar 5)) (tCons (tOp cAdd (tC (.str (tx [114, 105, 115, 105, 110, 103, 32]))) (tVar 5)) tNil)))) (gName 6))
    (rd__law_line74_t4 K))
def rd__law_line74 (K : PySem.W.Frag) : TS :=
  (tSeq (tAsg (tCB kStr (tCons (tOp cAdd (tC (.int 1)) (tOp cMod (tOp cDiv (tVar 0) (tC (.int 8))) (tVar 2))) tNil)) (gName 3))
    (tSeq (tAsg (tOp cMod (tOp cDiv (tVar 0) (tC (.int 16))) (tVar 1)) (gName 4))
    (tSeq (tAsg (tBM K "str" kJoin2 (tC (.str (tx [32]))) (tCons (tComp [none, none, some 1, some 4] (iRng1 (tCons (tOp cAdd (tC (.int 1)) (tOp cMod (tOp cDiv (tVar 0) (tC (.int 50))) (tVar 1))) tNil)) (gName 1) tTrue (tCB kStr (tCons (tOp cMod (tOp cAdd (tVar 3) (tVar 1)) (tVar 2)) tNil))) tNil)) (gName 5))
    (rd__law_line74_t3 K))))
theorem rk__law_line74_t3 {K : PySem.W.Frag} {H : Hp} {Q : VK} {v1 v2 v4 : Option V} {y h w g : Int} {cs : List Nat} {m : Nat} (F : FlOk h w g) (c0 : cs ≠ []) (ci : ∀ c ∈ cs, (c : Int) < h * w) (nd : cs.Nodup) (cn : cs.length ≤ 16) (m0 : 1 ≤ (m : Int)) (m1 : (m : Int) ≤ g)
    (q : ∀ (r : RR) (H' : Hp), Same H H' → r.Ok h w g → Q (.str r.txt) H') :
    rd__law_line74_t3 K { nx := fun _ H' => Q .non H', rt := Q } [some (.int y), v1, v2, some (.str (tx (numC m))), v4, some (.str (tx (catL 32 (cs.map numC)))), none] H := by
  have hcl := cells_len34 cn
  have lm : (numC m).length ≤ 2 := num_len
  have sz : ∀ x y : List Nat, x.length + y.length ≤ 1000 → (tx x).length + (tx y).length ≤ sizeLine := fun x y h => by rw [tx_len, tx_len]; exact len_le h
  have e0 := Int.emod_nonneg (y / 90) (show (100 : Int) ≠ 0 by decide)
  have e1 := Int.emod_lt_of_pos (y / 90) (show (0 : Int) < 100 by decide)
  obtain ⟨n, hn⟩ := Int.eq_ofNat_of_zero_le e0
  have f0 := Int.emod_nonneg (y / 90) (show (9 : Int) ≠ 0 by decide)
  have f1 := Int.emod_lt_of_pos (y / 90) (show (0 : Int) < 9 by decide)
  obtain ⟨k, hk⟩ := Int.eq_ofNat_of_zero_le f0
  have ln : (numC n).length ≤ 2 := num_len
  have lk : (numC k).length ≤ 2 := num_len
  have pk := fun {j : Int} => pick74 (j := j) F c0 ci nd cn (show n ≤ 99 by omega) (show k ≤ 99 by omega) m0 m1
  unfold rd__law_line74_t3
  walk_at "w"
  rw [hn, num_str (show n < 100 by omega)]
  have ns1 := num_str (show n < 100 by omega)
  have ks1 := num_str (show k < 100 by omega)
  generalize catL 32 (cs.map numC) = C at *
  generalize numC m = mm at *
  generalize numC n = nn at *
  generalize numC k = kk at *
  simp only [tx_app]
  refine ⟨sz _ _ (by simp; omega), ⟨by decide, by decide⟩, by decide, num_log (by omega), sz _ _ (by simp; omega), sz _ _ (by simp; omega), sz _ _ (by simp; omega), sz _ _ (by simp; omega), len_le (by show (3 : Nat) ≤ 1000; decide), fun U hU => ?_⟩
  have s1 : Same H (upd H U (.lst ((wl74 C mm nn kk).take 3))) := (Same.refl H).laid hU
  have eU : (upd H U (.lst ((wl74 C mm nn kk).take 3))) U = some (.lst ((wl74 C mm nn kk).take 3)) := upd_same
  generalize hH1 : upd H U (.lst ((wl74 C mm nn kk).take 3)) = H1 at *
  have hH1' := hH1
  unfold wl74 at hH1'
  simp only [List.take_succ_cons, List.take_zero] at hH1'
  rw [hH1']
  unfold rd__law_line74_t4
  walk_at "w"
  refine ⟨tyV_list eU, ?_⟩
  rw [hn, ns1]
  simp only [tx_app]
  refine ⟨⟨by decide, by decide⟩, by decide, num_log (by omega), sz _ _ (by simp; omega), sz _ _ (by simp; omega), sz _ _ (by simp; omega), ?_⟩
  rw [w_append eU]
  refine ⟨by show (3 : Nat) < sizeLine; exact small1000 (by decide), ?_⟩
  have s2 : Same H (upd H1 U (.lst ((wl74 C mm nn kk).take 4))) := s1.own hU
  have eU2 : (upd H1 U (.lst ((wl74 C mm nn kk).take 4))) U = some (.lst ((wl74 C mm nn kk).take 4)) := upd_same
  show rd__law_line74_t5 K _ _ (upd H1 U (.lst ((wl74 C mm nn kk).take 4)))
  generalize upd H1 U (.lst ((wl74 C mm nn kk).take 4)) = H2 at *
  unfold rd__law_line74_t5
  walk_at "w"
  refine ⟨tyV_list eU2, ?_⟩
  rw [hk, ks1]
  simp only [tx_app]
  refine ⟨⟨by decide, by decide⟩, by decide, num_log (by omega), sz _ _ (by simp; omega), sz _ _ (by simp; omega), sz _ _ (by simp; omega), sz _ _ (by simp; omega), sz _ _ (by simp; omega), ?_⟩
  rw [w_append eU2]
  refine ⟨by show (4 : Nat) < sizeLine; exact small1000 (by decide), ?_⟩
  have s3 : Same H (upd H2 U (.lst ((wl74 C mm nn kk).take 5))) := s2.own hU
  have eU3 : (upd H2 U (.lst ((wl74 C mm nn kk).take 5))) U = some (.lst ((wl74 C mm nn kk).take 5)) := upd_same
  show rd__law_line74_t6 K _ _ (upd H2 U (.lst ((wl74 C mm nn kk).take 5)))
  generalize upd H2 U (.lst ((wl74 C mm nn kk).take 5)) = H3 at *
  unfold rd__law_line74_t6
  walk_at "w"
  simp only [tx_app]
  refine ⟨sz _ _ (by simp; omega), sz _ _ (by simp; omega), sz _ _ (by simp; omega), len_le (by show (3 : Nat) ≤ 1000; decide), fun W hW => ?_⟩
  have s4 : Same H3 (upd H3 W (.lst ((wl74 C mm nn kk).drop 5))) := (Same.refl H3).laid hW
  have eW : (upd H3 W (.lst ((wl74 C mm nn kk).drop 5))) W = some (.lst ((wl74 C mm nn kk).drop 5)) := upd_same
  generalize hH4 : upd H3 W (.lst ((wl74 C mm nn kk).drop 5)) = H4 at *
  have hH4' := hH4
  unfold wl74 at hH4'
  simp only [List.drop_succ_cons, List.drop_zero] at hH4'
  rw [hH4']
  refine w_addL (s4 _ _ eU3) eW (by show (8 : Nat) ≤ 1000; decide) fun X hX => ?_
  rw [List.take_append_drop]
  have s5 : Same H4 (upd H4 X (.lst (wl74 C mm nn kk))) := (Same.refl H4).laid hX
  have eX : (upd H4 X (.lst (wl74 C mm nn kk))) X = some (.lst (wl74 C mm nn kk)) := upd_same
  generalize upd H4 X (.lst (wl74 C mm nn kk)) = H5 at *
  walk_at "w"
  refine ⟨by decide, ?_⟩
  obtain ⟨r, hr, er⟩ := pk (Int.emod_nonneg y (show (8 : Int) ≠ 0 by decide)) (Int.emod_lt_of_pos y (show (0 : Int) < 8 by decide))
  exact ixL eX er (q r H5 ((s3.trans s4).trans s5) hr)
theorem mods_comp {H : Hp} {s M : Int} {n : Nat} {fin : Addr → Hp → Prop} (s0 : 0 ≤ s) (M0 : 0 < M) (M9 : M ≤ 16) (hl : n ≤ 100)
    (hd : ∀ l H', H l = none → Same H H' → H' l = some (.lst (((((List.range n).map fun k => (s.toNat + k) % M.toNat).map numC).map tx).map V.str)) → fin l H') :
    CompR (Itr 0 n) (gName 1) tTrue (tCB kStr (tCons (tOp cMod (tOp cAdd (tVar 3) (tVar 1)) (tVar 2)) tNil)) fin [none, none, some (.int M), some (.int s)] H := by
  refine compV_range (fun _ => true) (fun i => .str (tx (numC ((s.toNat + i) % M.toNat)))) (by omega) ?_ ?_ ?_
  · intro i H1 R hi s1 k1
    exact k1 _ (Same.refl _)
  · intro i H1 Q1 hi hb s1 k1
    show tCB kStr _ [none, some (.int (0 + (i : Int))), some (.int M), some (.int s)] H1 Q1
    rw [Int.zero_add]
    walk_at "w"
    have q1 := k1 _ (Same.refl H1)
    have e : (s + (i : Int)) % M = (((s.toNat + i) % M.toNat : Nat) : Int) := by
      rw [Int.natCast_emod, Int.natCast_add, Int.toNat_of_nonneg s0, Int.toNat_of_nonneg (by omega)]
    refine ⟨M0, ?_⟩
    rw [e]
    exact str_num (Nat.lt_of_lt_of_le (Nat.mod_lt _ (by omega)) (by omega)) q1
  · intro l H1 hl1 s1 el
    refine hd l H1 hl1 s1 ?_
    rw [el, show (List.range n).filter (fun _ => true) = List.range n from List.filter_eq_self.mpr (fun _ _ => rfl), List.map_map, List.map_map, List.map_map]
    rfl
theorem rk__law_line74 {K : PySem.W.Frag} {vs : List V} {H : Hp} {Q : VK} {E : XK} (h : sp__law_line74 K vs H Q E) : rd__law_line74 K { nx := fun _ H' => Q .non H', rt := Q } (start ["_law_cell", "_law_many", "_law_signs", "_law_sign", "_law_start", "_law_spots", "_law_some"] vs) H := by
  obtain ⟨y, h, w, g, rfl, F, q⟩ := h
  obtain ⟨h0, h1, w0, w1, m16, g0, g1⟩ := id F
  have mpos : 1 ≤ h * w := Int.le_trans (by omega) (Int.mul_le_mul h0 w0 (by omega) (by omega))
  show rd__law_line74 K _ [some (.int y), some (.int (h * w)), some (.int g), none, none, none, none] H
  unfold rd__law_line74
  generalize hM : h * w = M at *
  walk_at "w"
  have d0 := Int.emod_nonneg (y / 8) (show g ≠ 0 by omega)
  have d1 := Int.emod_lt_of_pos (y / 8) (show 0 < g by omega)
  obtain ⟨m, hm⟩ := Int.eq_ofNat_of_zero_le (show 0 ≤ 1 + y / 8 % g by omega)
  have b0 := Int.emod_nonneg (y / 16) (show M ≠ 0 by omega)
  have b1 := Int.emod_lt_of_pos (y / 16) (show 0 < M by omega)
  have c0 := Int.emod_nonneg (y / 50) (show M ≠ 0 by omega)
  have c1 := Int.emod_lt_of_pos (y / 50) (show 0 < M by omega)
  rw [hm, num_str (show m < 100 by omega)]
  refine ⟨⟨by decide, by decide⟩, by omega, num_log (by omega), ⟨by decide, by decide⟩, by omega, w_tyS, ?_⟩
  refine ⟨⟨by decide, by decide⟩, by omega, _, rfl, by omega, by omega, ?_⟩
  show CompR _ _ _ _ _ [none, none, some (.int M), some (.int (y / 16 % M))] H
  refine mods_comp b0 (by omega) m16 (by omega) fun l H1 hl s1 el => ?_
  have hL : ∀ c ∈ (List.range (1 + y / 50 % M).toNat).map (fun k => ((y / 16 % M).toNat + k) % M.toNat), c < M.toNat := fun c hc => by
    obtain ⟨k, _, rfl⟩ := List.mem_map.mp hc
    exact Nat.mod_lt _ (by omega)
  refine w_joinL el (joinOk_small (by simp; omega) (fun t ht => by
    obtain ⟨z, hz, rfl⟩ := List.mem_map.mp ht
    obtain ⟨x, _, rfl⟩ := List.mem_map.mp hz
    rw [tx_len]; exact Nat.le_trans num_len (by decide)) (by rw [tx_len]; decide)) ?_
  rw [Txt_join, join_tx]
  refine rk__law_line74_t3 F ?_ (fun c hc => ?_) (mod_nd (by omega) (by omega)) (by simp; omega) (by omega) (by omega) fun r H' s2 hr => q r H' (s1.trans s2) hr
  · intro e
    have := congrArg List.length e
    simp at this
    omega
  · have := hL c hc
    rw [hM]
    omega
structure RowsO (h w g : Int) (rows : List RR) : Prop where
  F : FlOk h w g
  n : rows.length ≤ 12
  ok : ∀ r ∈ rows, r.Ok h w g
theorem RowsO.c {c : RCl RK} {h w g : Int} {rows : List RR} (x : RowsO h w g rows) (hc : ∀ k, k ≠ .Rule → c.ok k = true) : RowsOk c h w g rows := ⟨x.F, x.n, x.ok, fun r hr => hc _ (x.ok r hr).k0⟩
def fl74 : List (Int × Int) := [(1, 1), (1, 2), (2, 2), (1, 5), (2, 3), (3, 3), (4, 2), (3, 1)]
theorem fl74_ok : ∀ p ∈ fl74, 1 ≤ p.1 ∧ p.1 ≤ 6 ∧ 1 ≤ p.2 ∧ p.2 ≤ 6 ∧ p.1 * p.2 ≤ 9 := by decide
def tPr74 : List (Int × Int) → (St → Hp → (List V → Hp → Prop) → Prop)
  | [] => tNil
  | p :: r => tCons (tTup (tCons (tC (.int p.1)) (tCons (tC (.int p.2)) tNil))) (tPr74 r)
theorem pr74_run {σ : St} : ∀ (ps : List (Int × Int)) (H : Hp) (Q : List V → Hp → Prop), (∀ (as : List Addr) (H' : Hp), Same H H' → as.length = ps.length → (∀ (j : Nat) (a : Addr) (p : Int × Int), as[j]? = some a → ps[j]? = some p → H' a = some (.tup [.int p.1, .int p.2])) → Q (as.map V.ref) H') → tPr74 ps σ H Q
  | [], H, Q, h => h [] H (Same.refl H) rfl fun j a p e _ => by simp at e
  | p :: r, H, Q, h => by
    unfold tPr74
    walk_at "w"
    refine ⟨len_le (by show (2 : Nat) ≤ 1000; decide), fun t ht => ?_⟩
    have s1 : Same H (upd H t (.tup [V.int p.1, V.int p.2])) := (Same.refl H).laid ht
    have et : (upd H t (.tup [V.int p.1, V.int p.2])) t = some (.tup [V.int p.1, V.int p.2]) := upd_same
    generalize upd H t (.tup [V.int p.1, V.int p.2]) = H1 at *
    refine pr74_run r H1 _ fun as H2 s2 hl ha => ?_
    refine h (t :: as) H2 (s1.trans s2) (by simp [hl]) fun j a q e1 e2 => ?_
    match j, e1, e2 with
    | 0, e1, e2 =>
      simp at e1 e2
      subst e1 e2
      exact s2 _ _ et
    | j + 1, e1, e2 => exact ha j a q (by simpa using e1) (by simpa using e2)
theorem rows_flat74 {w : Nat} : ∀ (rs : List (List Int)), (∀ r ∈ rs, r.length = w) → rowsL rs.length w rs.flatten = rs
  | [], _ => rfl
  | r :: rs, h => by
    have hr := h r List.mem_cons_self
    have ih := rows_flat74 rs fun x hx => h x (List.mem_cons_of_mem _ hx)
    have e0 : rowAt w (r :: rs).flatten 0 = r := by
      unfold rowAt
      rw [Nat.zero_mul, List.drop_zero, List.flatten_cons, List.take_append_of_le_length (by omega), List.take_of_length_le (by omega)]
    have e1 : ∀ i, rowAt w (r :: rs).flatten (i + 1) = rowAt w rs.flatten i := fun i => by
      unfold rowAt
      rw [List.flatten_cons, Nat.succ_mul, Nat.add_comm, List.drop_append, hr, List.drop_eq_nil_of_le (by rw [hr]; exact Nat.le_add_right _ _), List.nil_append, Nat.add_sub_cancel_left]
    unfold rowsL at ih ⊢
    rw [List.length_cons, List.range_succ_eq_map, List.map_cons, e0, List.map_map]
    congr 1
    rw [← ih]
    rw [ih]
    refine Eq.trans (List.map_congr_left fun i _ => e1 i) ih
theorem num_fig {m : Nat} (h : m ≤ 6) (h0 : 1 ≤ m) : numC m = [figc (m : Int)] := by
  have : m = 1 ∨ m = 2 ∨ m = 3 ∨ m = 4 ∨ m = 5 ∨ m = 6 := by omega
  rcases this with rfl | rfl | rfl | rfl | rfl | rfl <;> rfl
def sp__law_text74 (K : PySem.W.Frag) : Sp := fun vs H Q _ => ∃ y : Int, vs = [.int y] ∧ ∀ (h w g : Int) (rows : List RR) (cl : List Int) (H' : Hp), Same H H' → RowsO h w g rows → CluesOk h w g cl → Q (.str (tx (pzT h w g rows cl))) H'
theorem sl__law_text74 {K : PySem.W.Frag} {vs : List V} {H : Hp} {Q : VK} {E : XK} (h : sp__law_text74 K vs H Q E) : vs.length = 1 := by
  obtain ⟨_, rfl, _⟩ := h; rfl
def rd__law_text74_t7 (K : PySem.W.Frag) : TS :=
  (tSeq (tAsg (tOp cAdd (tOp cAdd (tOp cAdd (tOp cAdd (tCB kStr (tCons (tVar 1) tNil)) (tC (.str (tx [32])))) (tCB kStr (tCons (tVar 2) tNil))) (tC (.str (tx [32])))) (tCB kStr (tCons (tVar 3) tNil))) (gName 11))
    (tRet (tOp cAdd (tOp cAdd (tOp cAdd (tOp cAdd (tVar 11) (tC (.str (tx [32, 124, 32])))) (tBM K "str" kJoin2 (tC (.str (tx [59, 32]))) (tCons (tVar 5) tNil))) (tC (.str (tx [32, 124, 32])))) (tBM K "str" kJoin2 (tC (.str (tx [47]))) (tCons (tVar 7) tNil)))))
def rd__law_text74_t6 (K : PySem.W.Frag) : TS :=
  (tSeq (tFor (iRng1 (tCons (tVar 1) tNil)) (gName 6)
    (tSeq (tAsg (tC (.str (tx []))) (gName 8))
    (tSeq (tFor (iRng1 (tCons (tVar 2) tNil)) (gName 9)
    (tSeq (tAsg (tOp cMod (tOp cMul (tOp cAdd (tOp cAdd (tVar 0) (tOp cMul (tC (.int 7)) (tVar 6))) (tOp cMul (tC (.int 167)) (tVar 9))) (tC (.int 30011))) (tC (.int 50021))) (gName 10))
    (tAsg (tOp cAdd (tVar 8) (tOp cIx (tLst (tCons (tC (.str (tx [46]))) (tCons (tC (.str (tx [46]))) (tCons (tCB kStr (tCons (tOp cAdd (tC (.int 1)) (tOp cMod (tOp cDiv (tVar 10) (tC (.int 3))) (tVar 3))) tNil)) tNil)))) (tOp cMod (tVar 10) (tC (.int 3))))) (gName 8))))
    (tDrop (tBM K "list" kAppend (tVar 7) (tCons (tVar 8) tNil))))))
    (rd__law_text74_t7 K))
def rd__law_text74_t5 (K : PySem.W.Frag) : TS :=
  (tSeq (tAsg (tLst tNil) (gName 7))
    (rd__law_text74_t6 K))
def rd__law_text74_t4 (K : PySem.W.Frag) : TS :=
  (tSeq (tFor (iRng1 (tCons (tOp cMod (tOp cDiv (tVar 0) (tC (.int 48))) (tC (.int 4))) tNil)) (gName 6)
    (tDrop (tBM K "list" kAppend (tVar 5) (tCons (tCall (sp__law_line74 K) [] E0 (tCons (tOp cMod (tOp cMul (tOp cAdd (tVar 0) (tOp cMul (tC (.int 163)) (tVar 6))) (tC (.int 16807))) (tC (.int 1000003))) (tCons (tVar 4) (tCons (tVar 3) tNil)))) tNil))))
    (rd__law_text74_t5 K))
def rd__law_text74_t3 (K : PySem.W.Frag) : TS :=
  (tSeq (tAsg (tLst tNil) (gName 5))
    (rd__law_text74_t4 K))
def rd__law_text74_t1 (K : PySem.W.Frag) : TS :=
  (tSeq (tAsg (tOp cAdd (tC (.int 1)) (tOp cMod (tOp cDiv (tVar 0) (tC (.int 8))) (tC (.int 6)))) (gName 3))
    (tSeq (tAsg (tOp cMul (tVar 1) (tVar 2)) (gName 4))
    (rd__law_text74_t3 K)))
def rd__law_text74 (K : PySem.W.Frag) : TS :=
  (tSeq (tAsg (tOp cIx (tLst (tCons (tTup (tCons (tC (.int 1)) (tCons (tC (.int 1)) tNil))) (tCons (tTup (tCons (tC (.int 1)) (tCons (tC (.int 2)) tNil))) (tCons (tTup (tCons (tC (.int 2)) (tCons (tC (.int 2)) tNil))) (tCons (tTup (tCons (tC (.int 1)) (tCons (tC (.int 5)) tNil))) (tCons (tTup (tCons (tC (.int 2)) (tCons (tC (.int 3)) tNil))) (tCons (tTup (tCons (tC (.int 3)) (tCons (tC (.int 3)) tNil))) (tCons (tTup (tCons (tC (.int 4)) (tCons (tC (.int 2)) tNil))) (tCons (tTup (tCons (tC (.int 3)) (tCons (tC (.int 1)) tNil))) tNil))))))))) (tOp cMod (tVar 0) (tC (.int 8)))) (gTup K 2 (gCons (gName 1) (gCons (gName 2) gNil))))
    (rd__law_text74_t1 K))
theorem rowTO {h w g : Int} {rows : List RR} (R : RowsO h w g rows) : (catS [59, 32] (rows.map RR.cod)).length ≤ 780 := rowT_len (R.c (c := ⟨fun _ => 0, fun _ => true⟩) fun _ _ => rfl)
theorem strM74 {Q : VK} {H : Hp} {a b : List Nat} (h1 : a.length + b.length ≤ 1000) (q : Q (.str (tx (a ++ b))) H) : cAdd (.str (tx a)) (.str (tx b)) H Q := by
  rw [w_addS, tx_app]
  exact ⟨by rw [tx_len, tx_len]; exact len_le h1, q⟩
theorem rk__law_text74_t7 {K : PySem.W.Frag} {H : Hp} {Q : VK} {L R : Addr} {h w g : Int} {rows : List RR} {rs : List (List Int)} {v0 v4 v6 v8 v9 v10 : Option V} (RO : RowsO h w g rows) (rl : (rs.length : Int) = h) (rw_ : ∀ r ∈ rs, (r.length : Int) = w) (ro : ∀ r ∈ rs, ∀ x ∈ r, 0 ≤ x ∧ x ≤ g) (eL : H L = some (.lst ((rows.map RR.txt).map V.str))) (eR : H R = some (.lst (((rs.map (·.map figc)).map tx).map V.str)))
    (q : ∀ (cl : List Int), CluesOk h w g cl → Q (.str (tx (pzT h w g rows cl))) H) :
    rd__law_text74_t7 K { nx := fun _ H' => Q .non H', rt := Q } [v0, some (.int h), some (.int w), some (.int g), v4, some (.ref L), v6, some (.ref R), v8, v9, v10, none] H := by
  obtain ⟨h0, h1, w0, w1, m16, g0, g1⟩ := id RO.F
  have sz : ∀ x y : List Nat, x.length + y.length ≤ 1000 → (tx x).length + (tx y).length ≤ sizeLine := fun x y h => by rw [tx_len, tx_len]; exact len_le h
  have a1 := num_len (n := h.toNat)
  have a2 := num_len (n := w.toNat)
  have a3 := num_len (n := g.toNat)
  have rl2 := rowTO RO
  have hn := RO.n
  have fl := flT_len h w g
  have sok : ∀ t ∈ rows.map RR.cod, t.length ≤ 63 := fun t ht => by obtain ⟨r, hr, rfl⟩ := List.mem_map.mp ht; exact RR.cod_len (RO.ok r hr)
  have hw : ∀ r ∈ rs, r.length = w.toNat := fun r hr => by have := rw_ r hr; omega
  have C : CluesOk h w g rs.flatten := by
    refine ⟨?_, fun x hx => ?_⟩
    · have : ∀ l : List (List Int), (∀ r ∈ l, r.length = w.toNat) → l.flatten.length = l.length * w.toNat := fun l => by
        induction l with
        | nil => intro _; simp
        | cons a l ih => intro hh; rw [List.flatten_cons, List.length_append, ih fun r hr => hh r (List.mem_cons_of_mem _ hr), hh a List.mem_cons_self, List.length_cons, Nat.succ_mul, Nat.add_comm]
      rw [this rs hw]
      have e : (rs.length : Int) * (w.toNat : Int) = h * w := by rw [rl, Int.toNat_of_nonneg (by omega)]
      rw [← e, ← Int.natCast_mul, Int.toNat_natCast]
    · obtain ⟨r, hr, hx⟩ := List.mem_flatten.mp hx
      exact ro r hr x hx
  have es : showL h.toNat w.toNat rs.flatten = catL 47 (rs.map (·.map figc)) := by
    unfold showL
    rw [show h.toNat = rs.length by omega, rows_flat74 rs hw]
  have q := q _ C
  rw [RR.txts] at eL
  unfold rd__law_text74_t7
  walk_at "w"
  have eh : h = ((h.toNat : Nat) : Int) := by omega
  have ew : w = ((w.toNat : Nat) : Int) := by omega
  have eg : g = ((g.toNat : Nat) : Int) := by omega
  have nh : Str.ofString (toString h) = tx (numC h.toNat) := by rw [eh, num_str (show h.toNat < 100 by omega)]; rfl
  have nw : Str.ofString (toString w) = tx (numC w.toNat) := by rw [ew, num_str (show w.toNat < 100 by omega)]; rfl
  have ng : Str.ofString (toString g) = tx (numC g.toNat) := by rw [eg, num_str (show g.toNat < 100 by omega)]; rfl
  rw [nh, nw, ng]
  simp only [tx_app]
  refine ⟨by rw [eh]; exact num_log (by omega), sz _ _ (by simp; omega), by rw [ew]; exact num_log (by omega), sz _ _ (by simp; omega), sz _ _ (by simp; omega), by rw [eg]; exact num_log (by omega), sz _ _ (by simp; omega), sz _ _ (by simp; omega), w_tyS, ?_⟩
  refine w_joinL eL (joinOk_small (by simp; omega) (fun t ht => by
    obtain ⟨z, hz, rfl⟩ := List.mem_map.mp ht
    rw [tx_len]; exact Nat.le_trans (sok z hz) (by decide)) (by rw [tx_len]; decide)) ?_
  rw [Txt_join, joinS_tx]
  have efl : numC h.toNat ++ [32] ++ numC w.toNat ++ [32] ++ numC g.toNat = flT h w g := by
    show _ = numC h.toNat ++ 32 :: (numC w.toNat ++ 32 :: numC g.toNat)
    simp
  rw [efl]
  walk_at "w"
  simp only [tx_app]
  refine ⟨sz _ _ (by simp; omega), sz _ _ (by simp; omega), w_tyS, ?_⟩
  have hrl : ∀ r ∈ rs.map (·.map figc), r.length ≤ 6 := fun r hr => by
    obtain ⟨y, hy, rfl⟩ := List.mem_map.mp hr
    rw [List.length_map, hw y hy]
    omega
  refine w_joinL eR (joinOk_small (by simp; omega) (fun t ht => by obtain ⟨x, hx, rfl⟩ := List.mem_map.mp ht; rw [tx_len]; have := hrl x hx; omega) (by rw [tx_len]; decide)) ?_
  rw [Txt_join, join_tx, ← es]
  have shl : (showL h.toNat w.toNat rs.flatten).length ≤ 100 := showL_len (by omega) (by omega)
  refine strM74 (a := flT h w g ++ [32, 124, 32] ++ catS [59, 32] (rows.map RR.cod) ++ [32, 124, 32]) (b := showL h.toNat w.toNat rs.flatten) ?_ ?_
  · simp; omega
  · have e : flT h w g ++ [32, 124, 32] ++ catS [59, 32] (rows.map RR.cod) ++ [32, 124, 32] ++ showL h.toNat w.toNat rs.flatten = pzT h w g rows rs.flatten := by
      show _ = flT h w g ++ ([32, 124, 32] ++ (rowT rows ++ ([32, 124, 32] ++ showL h.toNat w.toNat rs.flatten)))
      simp [rowT]
    rw [e]
    exact q
def tg74 (g y : Int) : List V := [V.str (tx [46]), V.str (tx [46]), V.str (tx [figc (1 + y % g)])]
theorem pick_tg {g y j : Int} (g0 : 1 ≤ g) (j0 : 0 ≤ j) (j3 : j < 3) : ∃ x : Int, 0 ≤ x ∧ x ≤ g ∧ atI (tg74 g y) j = some (V.str (tx [figc x])) := by
  have a := Int.emod_nonneg y (show g ≠ 0 by omega)
  have b := Int.emod_lt_of_pos y (show 0 < g by omega)
  have : j = 0 ∨ j = 1 ∨ j = 2 := by omega
  rcases this with rfl | rfl | rfl
  · exact ⟨0, by omega, by omega, rfl⟩
  · exact ⟨0, by omega, by omega, rfl⟩
  · exact ⟨1 + y % g, by omega, by omega, rfl⟩
theorem rk__law_text74_t6 {K : PySem.W.Frag} {H0 H : Hp} {Q : VK} {L R : Addr} {y h w g : Int} {rows : List RR} {v4 v6 : Option V} (hR : H0 R = none) (s0 : Same H0 H) (RO : RowsO h w g rows) (eL : H0 L = some (.lst ((rows.map RR.txt).map V.str))) (eR : H R = some (.lst []))
    (q : ∀ (cl : List Int) (H' : Hp), Same H0 H' → CluesOk h w g cl → Q (.str (tx (pzT h w g rows cl))) H') :
    rd__law_text74_t6 K { nx := fun _ H' => Q .non H', rt := Q } [some (.int y), some (.int h), some (.int w), some (.int g), v4, some (.ref L), v6, some (.ref R), none, none, none, none] H := by
  obtain ⟨h0, h1, w0, w1, m16, g0, g1⟩ := id RO.F
  unfold rd__law_text74_t6
  walk_at "w"
  refine ⟨h, rfl, by omega, by omega, ?_⟩
  refine for_range (fun i σ H' => ∃ (rs : List (List Int)) (v6 v8 v9 v10 : Option V), σ = [some (.int y), some (.int h), some (.int w), some (.int g), v4, some (.ref L), v6, some (.ref R), v8, v9, v10, none] ∧ Same H0 H' ∧ rs.length = i ∧ (∀ r ∈ rs, (r.length : Int) = w) ∧ (∀ r ∈ rs, ∀ x ∈ r, 0 ≤ x ∧ x ≤ g) ∧ H' R = some (.lst (((rs.map (·.map figc)).map tx).map V.str)))
    ⟨[], _, _, _, _, rfl, s0, rfl, fun _ z => (nomatch z), fun _ z => (nomatch z), eR⟩ ?_ ?_
  · rintro i σ H1 hi ⟨rs, v6, v8, v9, v10, rfl, s1, rl, rw_, ro, eR⟩
    have hi' : i < h.toNat := hi
    rw [Int.zero_add]
    walk_at "w"
    refine ⟨w, rfl, by omega, by omega, ?_⟩
    refine for_range (fun j σ H' => ∃ (r : List Int) (v9 v10 : Option V), σ = [some (.int y), some (.int h), some (.int w), some (.int g), v4, some (.ref L), some (.int (i : Int)), some (.ref R), some (.str (tx (r.map figc))), v9, v10, none] ∧ Same H1 H' ∧ r.length = j ∧ (∀ x ∈ r, 0 ≤ x ∧ x ≤ g))
      ⟨[], _, _, rfl, Same.refl H1, rfl, fun _ z => (nomatch z)⟩ ?_ ?_
    · rintro j σ H2 hj ⟨r, v9, v10, rfl, s2, rl2, ro2⟩
      have hj' : j < w.toNat := hj
      rw [Int.zero_add]
      walk_at "w"
      refine ⟨.inl ⟨by decide, by decide⟩, .inl ⟨by decide, by decide⟩, .inr ⟨by decide, by decide⟩, by decide, ⟨by decide, by decide⟩, by omega, ?_⟩
      generalize (y + 7 * (i : Int) + 167 * (j : Int)) * 30011 % 50021 = z at *
      have a := Int.emod_nonneg (z / 3) (show g ≠ 0 by omega)
      have b := Int.emod_lt_of_pos (z / 3) (show 0 < g by omega)
      obtain ⟨m, hm⟩ := Int.eq_ofNat_of_zero_le (show 0 ≤ 1 + z / 3 % g by omega)
      obtain ⟨x, x0, x1, ex⟩ := pick_tg (y := z / 3) g0 (Int.emod_nonneg z (show (3 : Int) ≠ 0 by decide)) (Int.emod_lt_of_pos z (show (0 : Int) < 3 by decide))
      unfold tg74 at ex
      rw [hm] at ex ⊢
      rw [num_str (show m < 100 by omega), num_fig (by omega) (by omega)]
      refine ⟨num_log (by omega), len_le (by show (3 : Nat) ≤ 1000; decide), fun p hp => ⟨by decide, ?_⟩⟩
      refine ixL upd_same ex ?_
      refine strM74 (a := r.map figc) (b := [figc x]) (by simp; omega) ?_
      refine ⟨r ++ [x], some (.int (j : Int)), some (.int z), by simp, s2.trans ((Same.refl H2).laid hp), by simp [rl2], ?_⟩
      intro t ht
      rcases List.mem_append.mp ht with ht | ht
      · exact ro2 t ht
      · rw [List.mem_singleton.mp ht]; exact ⟨x0, x1⟩
    · rintro σ H2 ⟨r, v9, v10, rfl, s2, rl2, ro2⟩
      walk_at "w"
      have eR2 := s2 _ _ eR
      refine ⟨tyV_list eR2, ?_⟩
      rw [w_append eR2]
      refine ⟨by simp; exact small1000 (by omega), rs ++ [r], _, _, _, _, rfl, (s1.trans s2).own hR, by simp [rl], ?_, ?_, ?_⟩
      · intro x hx
        rcases List.mem_append.mp hx with hx | hx
        · exact rw_ x hx
        · rw [List.mem_singleton.mp hx]; omega
      · intro x hx
        rcases List.mem_append.mp hx with hx | hx
        · exact ro x hx
        · rw [List.mem_singleton.mp hx]; exact ro2
      · rw [upd_same]
        simp
  · rintro σ H1 ⟨rs, v6, v8, v9, v10, rfl, s1, rl, rw_, ro, eR⟩
    exact rk__law_text74_t7 RO (by omega) rw_ ro (s1 _ _ eL) eR fun cl C => q cl H1 s1 C
theorem rk__law_text74_t4 {K : PySem.W.Frag} {H0 H : Hp} {Q : VK} {L : Addr} {y h w g : Int} (F : FlOk h w g) (hL : H0 L = none) (s0 : Same H0 H) (eL : H L = some (.lst []))
    (q : ∀ (rows : List RR) (cl : List Int) (H' : Hp), Same H0 H' → RowsO h w g rows → CluesOk h w g cl → Q (.str (tx (pzT h w g rows cl))) H') :
    rd__law_text74_t4 K { nx := fun _ H' => Q .non H', rt := Q } [some (.int y), some (.int h), some (.int w), some (.int g), some (.int (h * w)), some (.ref L), none, none, none, none, none, none] H := by
  unfold rd__law_text74_t4
  walk_at "w"
  have a := Int.emod_nonneg (y / 48) (show (4 : Int) ≠ 0 by decide)
  have b := Int.emod_lt_of_pos (y / 48) (show (0 : Int) < 4 by decide)
  refine ⟨⟨by decide, by decide⟩, by decide, _, rfl, by omega, by omega, ?_⟩
  refine for_range (fun i σ H' => ∃ (rows : List RR) (v6 : Option V), σ = [some (.int y), some (.int h), some (.int w), some (.int g), some (.int (h * w)), some (.ref L), v6, none, none, none, none, none] ∧ Same H0 H' ∧ rows.length = i ∧ (∀ r ∈ rows, r.Ok h w g) ∧ H' L = some (.lst ((rows.map RR.txt).map V.str)))
    ⟨[], _, rfl, s0, rfl, fun _ z => (nomatch z), eL⟩ ?_ ?_
  · rintro i σ H1 hi ⟨rows, v6, rfl, s1, rl, ok, eL⟩
    have hi' : i < (y / 48 % 4).toNat := hi
    rw [Int.zero_add]
    walk_at "w"
    refine ⟨tyV_list eL, .inl ⟨by decide, by decide⟩, .inr ⟨by decide, by decide⟩, by decide, ?_⟩
    refine ⟨_, h, w, g, rfl, F, fun r H2 s2 hr => ?_⟩
    have eL2 := s2 _ _ eL
    walk_at "w"
    rw [w_append eL2]
    refine ⟨by simp; exact small1000 (by omega), rows ++ [r], _, rfl, (s1.trans s2).own hL, by simp [rl], ?_, ?_⟩
    · intro x hx
      rcases List.mem_append.mp hx with hx | hx
      · exact ok x hx
      · rw [List.mem_singleton.mp hx]; exact hr
    · rw [upd_same]; simp
  · rintro σ H1 ⟨rows, v6, rfl, s1, rl, ok, eL⟩
    unfold rd__law_text74_t5
    walk_at "w"
    refine ⟨len_le (by decide), fun R hR => ?_⟩
    have s2 : Same H1 (upd H1 R (.lst [])) := (Same.refl H1).laid hR
    exact rk__law_text74_t6 (H0 := H1) hR s2 ⟨F, by omega, ok⟩ eL upd_same fun cl H' s3 C => q rows cl H' (s1.trans s3) ⟨F, by omega, ok⟩ C
theorem rk__law_text74 {K : PySem.W.Frag} {vs : List V} {H : Hp} {Q : VK} {E : XK} (h : sp__law_text74 K vs H Q E) : rd__law_text74 K { nx := fun _ H' => Q .non H', rt := Q } (start ["_law_cell", "_law_high", "_law_wide", "_law_signs", "_law_many", "_law_lines", "_law_k", "_law_rows", "_law_row", "_law_j", "_law_more", "_law_head"] vs) H := by
  obtain ⟨y, rfl, q⟩ := h
  show rd__law_text74 K _ [some (.int y), none, none, none, none, none, none, none, none, none, none, none] H
  unfold rd__law_text74
  rw [w_seq, w_asg, w_op, w_lst]
  refine pr74_run fl74 H _ fun as H1 s1 hl ha => ?_
  have hl8 : as.length = 8 := hl
  refine ⟨by rw [List.length_map]; exact len_le (by omega), fun U hU => ?_⟩
  have s2 : Same H1 (upd H1 U (.lst (as.map V.ref))) := (Same.refl H1).laid hU
  have eU : (upd H1 U (.lst (as.map V.ref))) U = some (.lst (as.map V.ref)) := upd_same
  generalize upd H1 U (.lst (as.map V.ref)) = H2 at *
  have s12 := s1.trans s2
  walk_at "w"
  refine ⟨by decide, ?_⟩
  have j0 := Int.emod_nonneg y (show (8 : Int) ≠ 0 by decide)
  have j1 := Int.emod_lt_of_pos y (show (0 : Int) < 8 by decide)
  have ej : y % 8 = (((y % 8).toNat : Nat) : Int) := by omega
  have hj : (y % 8).toNat < fl74.length := by show _ < 8; omega
  rw [ej]
  generalize (y % 8).toNat = j at *
  have ea : as[j]? = some (as[j]'(by omega)) := List.getElem?_eq_getElem (by omega)
  have ep : fl74[j]? = some fl74[j] := List.getElem?_eq_getElem hj
  have et := ha j _ _ ea ep
  have ok2 := fl74_ok _ (List.getElem_mem hj)
  generalize fl74[j] = pr at *
  refine ixL eU (v := V.ref (as[j]'(by omega))) (atI_nat (by rw [List.getElem?_map, ea]; rfl)) ?_
  refine w_gtup (s2 _ _ et) rfl ?_
  rw [w_gcons2]
  unfold rd__law_text74_t1
  walk_at "w"
  have g0 := Int.emod_nonneg (y / 8) (show (6 : Int) ≠ 0 by decide)
  have g1 := Int.emod_lt_of_pos (y / 8) (show (0 : Int) < 6 by decide)
  obtain ⟨h, w⟩ := pr
  obtain ⟨h0, h1, w0, w1, m9⟩ := ok2
  have m9 : h * w ≤ 9 := m9
  refine ⟨⟨by decide, by decide⟩, by decide, mul_small h0 h1, ?_⟩
  unfold rd__law_text74_t3
  walk_at "w"
  refine ⟨len_le (by decide), fun L hL => ?_⟩
  have s3 : Same H2 (upd H2 L (.lst [])) := (Same.refl H2).laid hL
  exact rk__law_text74_t4 (H0 := H2) (g := 1 + y / 8 % 6) ⟨h0, h1, w0, w1, by show h * w ≤ 16; omega, by omega, by omega⟩ hL s3 upd_same fun rows cl H' s4 RO C => q h w _ rows cl H' (s12.trans s4) RO C
def NmOk (w : List Nat) : Prop := 1 ≤ w.length ∧ w.length ≤ 8 ∧ ∀ c ∈ w, 97 ≤ c ∧ c ≤ 122
theorem NmOk.free {w : List Nat} (x : NmOk w) : 32 ∉ w := fun h => by have := x.2.2 32 h; omega
def abc : List Nat := [97, 98, 99, 100, 101, 102, 103, 104, 105, 106, 107, 108, 109, 110, 111, 112, 113, 114, 115, 116, 117, 118, 119, 120, 121, 122]
theorem abc_at {i : Int} (h0 : 0 ≤ i) (h1 : i < 26) : atI abc i = some (97 + i.toNat) := by
  have : ∀ n : Fin 26, atI abc ((n.val : Nat) : Int) = some (97 + n.val) := by decide
  have e : i = ((i.toNat : Nat) : Int) := by omega
  rw [e]
  exact this ⟨i.toNat, by omega⟩
theorem let_in {c : Nat} (h0 : 97 ≤ c) (h1 : c ≤ 122) : (!(Builtin.Str.occurrences (tx abc) ⟨#[c]⟩ 0 (tx abc).length 1).isEmpty) = true := by
  have t : ((List.range 123).all fun c => !decide (97 ≤ c) || !(Builtin.Str.occurrences (tx abc) ⟨#[c]⟩ 0 (tx abc).length 1).isEmpty) = true := by decide +kernel
  have := List.all_eq_true.mp t c (List.mem_range.mpr (by omega))
  simpa [h0] using this
def sp_is_name (K : PySem.W.Frag) : Sp := fun vs H Q _ => ∃ w, vs = [.str (tx w)] ∧ NmOk w ∧ ∀ H', Same H H' → Q (.bl true) H'
theorem sl_is_name {K : PySem.W.Frag} {vs : List V} {H : Hp} {Q : VK} {E : XK} (h : sp_is_name K vs H Q E) : vs.length = 1 := by
  obtain ⟨_, rfl, _⟩ := h; rfl
def rd_is_name (K : PySem.W.Frag) : TS :=
  (tRet (tAndV (tOp (cCmp fun i j => decide (i ≤ j)) (tC (.int 1)) (tCB kLen (tCons (tVar 0) tNil))) (tAndV (tOp (cCmp fun i j => decide (i ≤ j)) (tCB kLen (tCons (tVar 0) tNil)) (tC (.int 8))) (tCB kAll (tCons (tComp [none, none] (iStr (tVar 0)) (gName 1) tTrue (tOp (cIn K false) (tVar 1) (tC (.str (tx [97, 98, 99, 100, 101, 102, 103, 104, 105, 106, 107, 108, 109, 110, 111, 112, 113, 114, 115, 116, 117, 118, 119, 120, 121, 122]))))) tNil)))))
theorem rk_is_name {K : PySem.W.Frag} {vs : List V} {H : Hp} {Q : VK} {E : XK} (h : sp_is_name K vs H Q E) : rd_is_name K { nx := fun _ H' => Q .non H', rt := Q } (start ["word"] vs) H := by
  obtain ⟨w, rfl, ⟨w0, w1, wl⟩, q⟩ := h
  show rd_is_name K _ [some (.str (tx w))] H
  unfold rd_is_name
  walk_at "w"
  rw [tx_len, decide_eq_true (show (1 : Int) ≤ ((w.length : Nat) : Int) by omega), decide_eq_true (show ((w.length : Nat) : Int) ≤ 8 by omega)]
  refine ⟨len_le (by omega), iteT ⟨len_le (by omega), iteT ?_⟩⟩
  refine compV_str (cs := w) (fun _ => true) (fun _ => .bl true) (by omega) ?_ ?_ ?_
  · intro i c H1 R hc s1 k1
    exact k1 _ (Same.refl _)
  · intro i c H1 Q1 hc hb s1 k1
    have hd := wl c (List.mem_of_getElem? hc)
    show tOp (cIn K false) _ _ [none, some (.str (tx [c]))] H1 Q1
    walk_at "w"
    have q1 := k1 _ (Same.refl H1)
    show Q1 (.bl (if false = true then _ else !(Builtin.Str.occurrences (tx abc) (tx [c]) 0 (tx abc).length 1).isEmpty)) H1
    rw [if_neg Bool.false_ne_true, show tx [c] = ⟨#[c]⟩ from rfl, let_in hd.1 hd.2]
    exact q1
  · intro l H1 hl1 s1 el
    have eb : ((List.range w.length).filter fun _ => true).map (fun _ => V.bl true) = (List.replicate w.length true).map V.bl := by
      rw [filter_tt, List.map_const', List.length_range, List.map_replicate]
    rw [eb] at el
    refine w_all el ?_
    have ea : (List.replicate w.length true).all id = true := by
      rw [List.all_eq_true]
      intro b hb
      exact (List.mem_replicate.mp hb).2
    rw [ea]
    exact q _ s1
def sp__law_names74 (K : PySem.W.Frag) : Sp := fun vs H Q _ => ∃ (a : Addr) (ns : List Int), vs = [.ref a] ∧ SqL K H a (ns.map V.int) ∧ ns.length ≤ 63 ∧ ∀ (l : Addr) (ws : List (List Nat)) (H' : Hp), Same H H' → H l = none → ws.length = 4 → (∀ w ∈ ws, NmOk w) → H' l = some (.lst ((ws.map tx).map V.str)) → Q (.ref l) H'
theorem sl__law_names74 {K : PySem.W.Frag} {vs : List V} {H : Hp} {Q : VK} {E : XK} (h : sp__law_names74 K vs H Q E) : vs.length = 1 := by
  obtain ⟨_, _, rfl, _⟩ := h; rfl
def rd__law_names74_t5 (K : PySem.W.Frag) : TS :=
  (tSeq (tFor (iRng1 (tCons (tC (.int 4)) tNil)) (gName 6)
    (tSeq (tAsg (tC (.str (tx []))) (gName 7))
    (tSeq (tFor (iRng1 (tCons (tVar 3) tNil)) (gName 8)
    (tSeq (tAsg (tOp cAdd (tOp cDiv (tVar 2) (tOp cAdd (tVar 8) (tC (.int 3)))) (tOp cMul (tOp cMul (tC (.int 6)) (tVar 6)) (tCB kInt2 (tCons (tOp (cEq K) (tVar 8) (tVar 4)) tNil)))) (gName 9))
    (tAsg (tOp cAdd (tVar 7) (tOp cIx (tVar 1) (tOp cMod (tVar 9) (tC (.int 26))))) (gName 7))))
    (tDrop (tBM K "list" kAppend (tVar 5) (tCons (tVar 7) tNil))))))
    (tRet (tVar 5)))
def rd__law_names74 (K : PySem.W.Frag) : TS :=
  (tSeq (tAsg (tC (.str (tx [97, 98, 99, 100, 101, 102, 103, 104, 105, 106, 107, 108, 109, 110, 111, 112, 113, 114, 115, 116, 117, 118, 119, 120, 121, 122]))) (gName 1))
    (tSeq (tAsg (tOp cMod (tOp cMul (tCall (sp__law_cell_at74 K) [] E0 (tCons (tVar 0) (tCons (tC (.int 0)) tNil))) (tC (.int 48271))) (tC (.int 65537))) (gName 2))
    (tSeq (tAsg (tOp cAdd (tC (.int 1)) (tOp cMod (tVar 2) (tC (.int 8)))) (gName 3))
    (tSeq (tAsg (tOp cMod (tOp cDiv (tVar 2) (tC (.int 8))) (tVar 3)) (gName 4))
    (tSeq (tAsg (tLst tNil) (gName 5))
    (rd__law_names74_t5 K))))))
theorem rk__law_names74_t5 {K : PySem.W.Frag} {H0 H : Hp} {Q : VK} {L : Addr} {y n p : Int} {v0 : Option V} (n0 : 1 ≤ n) (n8 : n ≤ 8) (hL : H0 L = none) (s0 : Same H0 H) (eL : H L = some (.lst []))
    (q : ∀ (ws : List (List Nat)) (H' : Hp), Same H0 H' → ws.length = 4 → (∀ w ∈ ws, NmOk w) → H' L = some (.lst ((ws.map tx).map V.str)) → Q (.ref L) H') :
    rd__law_names74_t5 K { nx := fun _ H' => Q .non H', rt := Q } [v0, some (.str (tx abc)), some (.int y), some (.int n), some (.int p), some (.ref L), none, none, none, none] H := by
  unfold rd__law_names74_t5
  walk_at "w"
  refine ⟨4, rfl, by decide, by decide, ?_⟩
  refine for_range (fun i σ H' => ∃ (ws : List (List Nat)) (v6 v7 v8 v9 : Option V), σ = [v0, some (.str (tx abc)), some (.int y), some (.int n), some (.int p), some (.ref L), v6, v7, v8, v9] ∧ Same H0 H' ∧ ws.length = i ∧ (∀ w ∈ ws, NmOk w) ∧ H' L = some (.lst ((ws.map tx).map V.str)))
    ⟨[], _, _, _, _, rfl, s0, rfl, fun _ z => (nomatch z), eL⟩ ?_ ?_
  · rintro i σ H1 hi ⟨ws, v6, v7, v8, v9, rfl, s1, wl, wo, eL⟩
    have hi' : i < 4 := hi
    rw [Int.zero_add]
    walk_at "w"
    refine ⟨n, rfl, by omega, by omega, ?_⟩
    refine for_range (fun j σ H' => ∃ (w : List Nat) (v8 v9 : Option V), σ = [v0, some (.str (tx abc)), some (.int y), some (.int n), some (.int p), some (.ref L), some (.int (i : Int)), some (.str (tx w)), v8, v9] ∧ H' = H1 ∧ w.length = j ∧ ∀ c ∈ w, 97 ≤ c ∧ c ≤ 122)
      ⟨[], _, _, rfl, rfl, rfl, fun _ z => (nomatch z)⟩ ?_ ?_
    · rintro j σ H2 hj ⟨w, v8, v9, rfl, rfl, wl2, wo2⟩
      have hj' : j < n.toNat := hj
      rw [Int.zero_add]
      walk_at "w"
      generalize hz : y / ((j : Int) + 3) + 6 * (i : Int) * (if decide ((j : Int) = p) = true then 1 else 0) = z at *
      refine ⟨⟨by omega, by omega⟩, .inl ⟨by decide, by decide⟩, .inl ⟨by omega, by omega⟩, by decide, ?_⟩
      have c0 := Int.emod_nonneg z (show (26 : Int) ≠ 0 by decide)
      have c1 := Int.emod_lt_of_pos z (show (0 : Int) < 26 by decide)
      rw [w_ixS]
      refine ⟨by rw [tx_len]; exact len_le (by decide), bnd_of (abc_at c0 c1) ?_⟩
      refine strM74 (a := w) (b := [97 + (z % 26).toNat]) (by simp; omega) ?_
      refine ⟨w ++ [97 + (z % 26).toNat], some (.int (j : Int)), some (.int z), rfl, rfl, by simp [wl2], ?_⟩
      intro t ht
      rcases List.mem_append.mp ht with ht | ht
      · exact wo2 t ht
      · rw [List.mem_singleton.mp ht]; omega
    · rintro σ H2 ⟨w, v8, v9, rfl, rfl, wl2, wo2⟩
      walk_at "w"
      refine ⟨tyV_list eL, ?_⟩
      rw [w_append eL]
      refine ⟨by simp; exact small1000 (by omega), ws ++ [w], _, _, _, _, rfl, s1.own hL, by simp [wl], ?_, ?_⟩
      · intro x hx
        rcases List.mem_append.mp hx with hx | hx
        · exact wo x hx
        · rw [List.mem_singleton.mp hx]; exact ⟨by omega, by omega, wo2⟩
      · rw [upd_same]; simp
  · rintro σ H1 ⟨ws, v6, v7, v8, v9, rfl, s1, wl, wo, eL⟩
    walk_at "w"
    exact q ws H1 s1 wl wo eL
theorem rk__law_names74 {K : PySem.W.Frag} {vs : List V} {H : Hp} {Q : VK} {E : XK} (h : sp__law_names74 K vs H Q E) : rd__law_names74 K { nx := fun _ H' => Q .non H', rt := Q } (start ["_law_script", "_law_letters", "_law_cell", "_law_size", "_law_at", "_law_names_here", "_law_k", "_law_word", "_law_j", "_law_turn"] vs) H := by
  obtain ⟨a, ns, rfl, hS, hn, q⟩ := h
  show rd__law_names74 K _ [some (.ref a), none, none, none, none, none, none, none, none, none] H
  unfold rd__law_names74
  walk_at "w"
  refine ⟨a, ns, 0, rfl, hS, hn, by decide, fun x => ?_⟩
  walk_at "w"
  have a0 := Int.emod_nonneg (x * 48271 % 65537) (show (8 : Int) ≠ 0 by decide)
  have a1 := Int.emod_lt_of_pos (x * 48271 % 65537) (show (0 : Int) < 8 by decide)
  generalize x * 48271 % 65537 = y at *
  refine ⟨.inr ⟨by decide, by decide⟩, by decide, by decide, ⟨by decide, by decide⟩, by omega, len_le (by decide), fun L hL => ?_⟩
  have s0 : Same H (upd H L (.lst [])) := (Same.refl H).laid hL
  exact rk__law_names74_t5 (by omega) (by omega) hL s0 upd_same fun ws H' s1 h4 ho e => q L ws H' s1 hL h4 ho e
theorem words_ex : ∀ t : List Nat, ∃ ps : List (List Nat), ps ≠ [] ∧ (∀ p ∈ ps, 32 ∉ p) ∧ catL 32 ps = t ∧ ps.length ≤ t.length + 1 ∧ ∀ p ∈ ps, p.length ≤ t.length
  | [] => ⟨[[]], by simp, by simp, rfl, by simp, by simp⟩
  | c :: t => by
    obtain ⟨ps, h1, h2, h3, h4, h5⟩ := words_ex t
    obtain ⟨p, r, rfl⟩ : ∃ p r, ps = p :: r := by
      cases ps with
      | nil => exact absurd rfl h1
      | cons p r => exact ⟨p, r, rfl⟩
    by_cases e : c = 32
    · subst e
      refine ⟨[] :: p :: r, by simp, ?_, ?_, by simp at h4 ⊢; omega, ?_⟩
      · intro x hx
        rcases List.mem_cons.mp hx with rfl | hx
        · simp
        · exact h2 x hx
      · rw [cat_cons (by simp), h3]; rfl
      · intro x hx
        rcases List.mem_cons.mp hx with rfl | hx
        · simp
        · have := h5 x hx
          simp; omega
    · refine ⟨(c :: p) :: r, by simp, ?_, ?_, by simpa using Nat.le_succ_of_le h4, ?_⟩
      · intro x hx
        rcases List.mem_cons.mp hx with rfl | hx
        · have := h2 p List.mem_cons_self
          simp
          exact ⟨fun z => e z.symm, this⟩
        · exact h2 x (List.mem_cons_of_mem _ hx)
      · cases r with
        | nil =>
          rw [show catL 32 [c :: p] = c :: p from rfl]
          rw [show catL 32 [p] = p from rfl] at h3
          rw [h3]
        | cons a b => rw [cat_cons (by simp)] at h3 ⊢; rw [← h3]; rfl
      · intro x hx
        rcases List.mem_cons.mp hx with rfl | hx
        · have := h5 p List.mem_cons_self
          simp; omega
        · have := h5 x (List.mem_cons_of_mem _ hx)
          simp; omega
def gt_WITH_TEXT : List Str := [tx [112, 117, 122, 122, 108, 101], tx [99, 104, 101, 99, 107], tx [104, 105, 110, 116], tx [119, 114, 111, 110, 103]]
def gt_WITH_NAME : List Str := [tx [100, 114, 111, 112], tx [115, 104, 111, 119], tx [115, 111, 108, 118, 101], tx [98, 111, 111, 107], tx [110, 101, 101, 100, 115], tx [108, 101, 97, 115, 116]]
def gt_WITH_TWO_NAMES : List Str := [tx [97, 108, 105, 107, 101]]
def puzC : List Nat := [112, 117, 122, 122, 108, 101]
def droC : List Nat := [100, 114, 111, 112]
def shoC : List Nat := [115, 104, 111, 119]
inductive Row74 : List Nat → List (List Nat) → Prop where
  | put {w t : List Nat} : 32 ∉ w → w.length ≤ 8 → t.length ≤ 900 → Row74 (puzC ++ [32] ++ w ++ [32] ++ t) [puzC, w, t]
  | drop {w : List Nat} : 32 ∉ w → w.length ≤ 8 → Row74 (droC ++ [32] ++ w) [droC, w]
  | tell {w : List Nat} : 32 ∉ w → w.length ≤ 8 → Row74 (shoC ++ [32] ++ w) [shoC, w]
theorem cut_from74 (xs : List V) (k : Nat) : cutV xs (some (k : Int)) none = xs.drop k := by
  have h1 : HT.sIx xs.length 0 (some (k : Int)) = min k xs.length := by rw [HT.sIx_nat]
  have h2 : HT.sIx xs.length xs.length none = xs.length := rfl
  unfold cutV
  rw [h1, h2]
  by_cases hk : k ≤ xs.length
  · rw [Nat.min_eq_left hk, List.take_of_length_le (by simp)]
  · rw [Nat.min_eq_right (by omega), List.drop_length, List.drop_eq_nil_of_le (by omega)]; simp
def sp_words_of (K : PySem.W.Frag) : Sp := fun vs H Q _ => ∃ (r : List Nat) (ws : List (List Nat)), vs = [.str (tx r)] ∧ Row74 r ws ∧ ∀ (l : Addr) (H' : Hp), Same H H' → H' l = some (.lst ((ws.map tx).map V.str)) → Q (.ref l) H'
theorem sl_words_of {K : PySem.W.Frag} {vs : List V} {H : Hp} {Q : VK} {E : XK} (h : sp_words_of K vs H Q E) : vs.length = 1 := by
  obtain ⟨_, _, rfl, _⟩ := h; rfl
def rd_words_of_t2 (K : PySem.W.Frag) : TS :=
  (tSeq (tIfS (tAnd (tB (tInG gt_WITH_TEXT false (tOp cIx (tVar 1) (tC (.int 0))))) (tTest (tOp (cCmp fun i j => decide (j ≤ i)) (tCB kLen (tCons (tVar 1) tNil)) (tC (.int 3))))) (tRet (tLst (tCons (tOp cIx (tVar 1) (tC (.int 0))) (tCons (tOp cIx (tVar 1) (tC (.int 1))) (tCons (tBM K "str" kJoin2 (tC (.str (tx [32]))) (tCons (tSl cSl2 (tVar 1) (tPart (tC (.int 2))) tNoPart) tNil)) tNil))))) tNext)
    (tSeq (tIfS (tAnd (tB (tInG gt_WITH_NAME false (tOp cIx (tVar 1) (tC (.int 0))))) (tTest (tOp (cEq K) (tCB kLen (tCons (tVar 1) tNil)) (tC (.int 2))))) (tRet (tVar 1)) tNext)
    (tSeq (tIfS (tAnd (tB (tInG gt_WITH_TWO_NAMES false (tOp cIx (tVar 1) (tC (.int 0))))) (tTest (tOp (cEq K) (tCB kLen (tCons (tVar 1) tNil)) (tC (.int 3))))) (tRet (tVar 1)) tNext)
    tNever)))
def rd_words_of (K : PySem.W.Frag) : TS :=
  (tSeq (tIfS (tNot (tB (tCB kIsi (tCons (tVar 0) (tCons (tC (.ty "str")) tNil))))) tNever tNext)
    (tSeq (tAsg (tBM K "str" kSplit (tVar 0) (tCons (tC (.str (tx [32]))) tNil)) (gName 1))
    (rd_words_of_t2 K)))
theorem rk_words_of {K : PySem.W.Frag} {vs : List V} {H : Hp} {Q : VK} {E : XK} (h : sp_words_of K vs H Q E) : rd_words_of K { nx := fun _ H' => Q .non H', rt := Q } (start ["row", "words"] vs) H := by
  obtain ⟨r, ws, rfl, R, q⟩ := h
  show rd_words_of K _ [some (.str (tx r)), none] H
  have two : ∀ w nm : List Nat, 32 ∉ w → w.length ≤ 8 → (nm = droC ∨ nm = shoC) → r = nm ++ [32] ++ w → ws = [nm, w] → rd_words_of K { nx := fun _ H' => Q .non H', rt := Q } [some (.str (tx r)), none] H := by
    intro w nm hw w8 hnm er ews
    have nm4 : nm.length = 4 := by rcases hnm with rfl | rfl <;> rfl
    have nmf : 32 ∉ nm := by rcases hnm with rfl | rfl <;> decide
    have ec : r = catL 32 [nm, w] := by rw [er, cat_cons (by simp)]; simp [catL]
    have hsp : Txt.split (tx r) (tx [32]) = [nm, w].map tx := by rw [ec]; exact split_tx (by simp) (fun x hx => by rcases List.mem_cons.mp hx with rfl | hx; exact nmf; rw [List.mem_singleton.mp hx]; exact hw)
    unfold rd_words_of
    rw [w_seq, w_if]
    walk_at "w"
    refine ⟨w_tyS, ?_⟩
    rw [w_split, hsp]
    refine ⟨by rw [tx_len]; decide, by rw [tx_len, er]; exact len_le (by simp; omega), len_le (by show (2 : Nat) ≤ 1000; decide), fun W hW => ?_⟩
    have s1 : Same H (upd H W (.lst (([nm, w].map tx).map V.str))) := (Same.refl H).laid hW
    have eW : (upd H W (.lst (([nm, w].map tx).map V.str))) W = some (.lst (([nm, w].map tx).map V.str)) := upd_same
    generalize upd H W (.lst (([nm, w].map tx).map V.str)) = H1 at *
    have q := q W H1 s1 (by rw [ews]; exact eW)
    unfold rd_words_of_t2
    rw [w_seq, w_if]
    walk_at "w"
    have e0 : atI (([nm, w].map tx).map V.str) 0 = some (V.str (tx nm)) := rfl
    have n1 : (decide (tx nm ∈ gt_WITH_TEXT)) = false := by rcases hnm with rfl | rfl <;> decide
    have n2 : (decide (tx nm ∈ gt_WITH_NAME)) = true := by rcases hnm with rfl | rfl <;> decide
    refine ixL eW e0 ⟨_, rfl, ?_⟩
    rw [n1]
    refine iteF ?_
    rw [w_if]
    walk_at "w"
    refine ixL eW e0 ⟨_, rfl, ?_⟩
    rw [n2]
    refine iteT ?_
    rw [w_len eW]
    walk_at "w"
    exact q
  cases R with
  | @put w t hw w8 t9 =>
    obtain ⟨ps, p1, p2, p3, p4, p5⟩ := words_ex t
    have ec : puzC ++ [32] ++ w ++ [32] ++ t = catL 32 (puzC :: w :: ps) := by
      rw [cat_cons (by simp), cat_cons p1, p3]; simp
    have hsp : Txt.split (tx (puzC ++ [32] ++ w ++ [32] ++ t)) (tx [32]) = (puzC :: w :: ps).map tx := by
      rw [ec]
      refine split_tx (by simp) fun x hx => ?_
      rcases List.mem_cons.mp hx with rfl | hx
      · decide
      · rcases List.mem_cons.mp hx with rfl | hx
        · exact hw
        · exact p2 x hx
    unfold rd_words_of
    rw [w_seq, w_if]
    walk_at "w"
    refine ⟨w_tyS, ?_⟩
    rw [w_split, hsp]
    refine ⟨by rw [tx_len]; decide, by rw [tx_len]; exact len_le (by simp [puzC]; omega), len_le (by simp; omega), fun W hW => ?_⟩
    have s1 : Same H (upd H W (.lst (((puzC :: w :: ps).map tx).map V.str))) := (Same.refl H).laid hW
    have eW : (upd H W (.lst (((puzC :: w :: ps).map tx).map V.str))) W = some (.lst (((puzC :: w :: ps).map tx).map V.str)) := upd_same
    generalize upd H W (.lst (((puzC :: w :: ps).map tx).map V.str)) = H1 at *
    unfold rd_words_of_t2
    rw [w_seq, w_if]
    walk_at "w"
    have e0 : atI (((puzC :: w :: ps).map tx).map V.str) 0 = some (V.str (tx puzC)) := atI_nat (j := 0) rfl
    have e1 : atI (((puzC :: w :: ps).map tx).map V.str) 1 = some (V.str (tx w)) := atI_nat (j := 1) rfl
    have n1 : (decide (tx puzC ∈ gt_WITH_TEXT)) = true := by decide
    refine ixL eW e0 ⟨_, rfl, ?_⟩
    rw [n1]
    refine iteT ?_
    rw [w_len eW]
    walk_at "w"
    have pl : 1 ≤ ps.length := by cases ps with | nil => exact absurd rfl p1 | cons _ _ => simp
    rw [if_pos (decide_eq_true (by simp; omega))]
    refine ixL eW e0 (ixL eW e1 ⟨w_tyS, ?_⟩)
    refine w_slL eW fun S hS => ?_
    rw [show (some 2 : Option Int) = some ((2 : Nat) : Int) from rfl, cut_from74 _ 2]
    have eS : ∀ o, (upd H1 S o) S = some o := fun o => upd_same
    have s2 : Same H1 (upd H1 S (.lst ((((puzC :: w :: ps).map tx).map V.str).drop 2))) := (Same.refl H1).laid hS
    have eS2 : (upd H1 S (.lst ((((puzC :: w :: ps).map tx).map V.str).drop 2))) S = some (.lst ((ps.map tx).map V.str)) := upd_same
    generalize upd H1 S (.lst ((((puzC :: w :: ps).map tx).map V.str).drop 2)) = H2 at *
    refine w_joinL eS2 (joinOk_small (by simp; omega) (fun x hx => by obtain ⟨z, hz, rfl⟩ := List.mem_map.mp hx; rw [tx_len]; have := p5 z hz; omega) (by rw [tx_len]; decide)) ?_
    rw [Txt_join, join_tx, p3]
    refine ⟨len_le (by show (3 : Nat) ≤ 1000; decide), fun Z hZ => ?_⟩
    exact q Z _ ((s1.trans s2).trans ((Same.refl H2).laid hZ)) upd_same
  | @drop w hw w8 => exact two w droC hw w8 (.inl rfl) rfl rfl
  | @tell w hw w8 => exact two w shoC hw w8 (.inr rfl) rfl rfl
abbrev os74 (_ : EA) : List Addr := []
def Fr74 (H H' : Hp) (kd : Addr) : Prop := ∀ b o, H b = some o → b ≠ kd → H' b = some o
theorem Same.fr74 {H H' : Hp} (s : Same H H') (kd : Addr) : Fr74 H H' kd := fun b o e _ => s b o e
theorem Fr74.trans {H H1 H2 : Hp} {kd : Addr} (a : Fr74 H H1 kd) (b : Fr74 H1 H2 kd) : Fr74 H H2 kd := fun x o e n => b x o (a x o e n) n
theorem Fr74.upd {H : Hp} {kd : Addr} {o : HO} : Fr74 H (upd H kd o) kd := fun b x e n => by rw [upd_ne n]; exact e
theorem IsPz.fr {H H' : Hp} {c : RCl RK} {d : RCl PzK} {P L G kd : Addr} {h w g : Int} {rows : List RR} {cl : List Int} {kvs : List (Key × V)} (x : IsPz H c d P L G h w g rows cl) (hk : H kd = some (.dK kvs)) (f : Fr74 H H' kd) : IsPz H' c d P L G h w g rows cl := by
  have nf : ∀ b o, H b = some o → (∀ k, o ≠ .dK k) → H' b = some o := fun b o e n => f b o e fun z => by rw [z, hk] at e; exact n kvs (Option.some.inj e).symm
  obtain ⟨dx, p, rs, h1, h2, h3⟩ := x.ex
  refine ⟨x.ok, x.R, x.C, nf _ _ x.gv nofun, dx, p, rs, nf _ _ h1 nofun, nf _ _ h2 nofun, ⟨nf _ _ h3.top nofun, h3.len, fun i r y e1 e2 => ?_⟩⟩
  have y1 := h3.at_ i r y e1 e2
  obtain ⟨dx, W, C, a1, a2, a3⟩ := y1.ex
  exact ⟨y1.ok, dx, W, C, nf _ _ a1 nofun, nf _ _ a2 nofun, nf _ _ a3 nofun⟩
structure En where
  w : List Nat
  P : Addr
  L : Addr
  G : Addr
  h : Int
  wd : Int
  g : Int
  rows : List RR
  cl : List Int
def En.txt (x : En) : List Nat := pzT x.h x.wd x.g x.rows x.cl
abbrev kyS (w : List Nat) : Key := .inr (tx w)
def En.kept (x : En) : Key × V := (kyS x.w, .ref x.P)
def En.stood (x : En) : Key × V := (kyS x.w, .str (tx x.txt))
def lookE (L : List En) (w : List Nat) : Option En := L.find? fun x => decide (x.w = w)
def putE (L : List En) (x : En) : List En := if (L.any fun y => decide (y.w = x.w)) = true then L.map fun y => if y.w = x.w then x else y else L ++ [x]
def dropE (L : List En) (w : List Nat) : List En := L.filter fun x => decide (x.w ≠ w)
theorem ky_dec (a b : List Nat) : decide (kyS a = kyS b) = decide (a = b) := by
  by_cases h : a = b
  · subst h; simp
  · rw [decide_eq_false h, decide_eq_false]
    intro e
    exact h (tx_inj (Sum.inr.inj e))
theorem ky_iff {a b : List Nat} : kyS a = kyS b ↔ a = b := ⟨fun e => tx_inj (Sum.inr.inj e), fun e => by rw [e]⟩
theorem val_map {f : En → Key × V} (hf : ∀ x, (f x).1 = kyS x.w) (w : List Nat) : ∀ L : List En, valV (L.map f) (kyS w) = (lookE L w).map fun x => (f x).2
  | [] => rfl
  | x :: L => by
    have ih := val_map hf w L
    by_cases e : x.w = w
    · rw [List.map_cons, valV_pos (by rw [hf, e])]
      unfold lookE
      rw [List.find?_cons_of_pos (by simpa using e)]
      rfl
    · rw [List.map_cons, valV_neg (by rw [hf, ky_iff]; exact e), ih]
      unfold lookE
      rw [List.find?_cons_of_neg (by simpa using e)]
theorem put_map {f : En → Key × V} (hf : ∀ x, (f x).1 = kyS x.w) (L : List En) (x : En) : putK (L.map f) (kyS x.w) (f x).2 = (putE L x).map f := by
  have ha : (L.map f).any (fun kv => decide (kv.1 = kyS x.w)) = L.any fun y => decide (y.w = x.w) := by
    rw [List.any_map]
    congr 1
    funext y
    show decide ((f y).1 = kyS x.w) = _
    rw [hf, ky_dec]
  unfold putK putE
  rw [ha]
  by_cases h : (L.any fun y => decide (y.w = x.w)) = true
  · rw [if_pos h, if_pos h, List.map_map, List.map_map]
    refine List.map_congr_left fun y _ => ?_
    show (if (f y).1 = kyS x.w then ((f y).1, (f x).2) else f y) = f (if y.w = x.w then x else y)
    by_cases e : y.w = x.w
    · rw [if_pos (by rw [hf, e]), if_pos e, hf, e, ← hf x]
    · rw [if_neg (by rw [hf, ky_iff]; exact e), if_neg e]
  · rw [if_neg h, if_neg h, List.map_append]
    show _ ++ [(kyS x.w, (f x).2)] = _ ++ [f x]
    rw [← hf x]
theorem drop_map {f : En → Key × V} (hf : ∀ x, (f x).1 = kyS x.w) (L : List En) (w : List Nat) : dropK (L.map f) (kyS w) = (dropE L w).map f := by
  unfold dropK dropE
  rw [List.filter_map]
  congr 1
  refine List.filter_congr fun x _ => ?_
  show decide ((f x).1 ≠ kyS w) = decide (x.w ≠ w)
  rw [hf]
  by_cases e : x.w = w
  · subst e; simp
  · rw [decide_eq_true (show x.w ≠ w from e), decide_eq_true (show kyS x.w ≠ kyS w from fun z => e (ky_iff.mp z))]
theorem putE_len (L : List En) (x : En) : (putE L x).length ≤ L.length + 1 := by
  unfold putE
  split
  · rw [List.length_map]; omega
  · simp
theorem dropE_len (L : List En) (w : List Nat) : (dropE L w).length ≤ L.length := List.length_filter_le _ _
theorem putE_mem {L : List En} {x y : En} (h : y ∈ putE L x) : y = x ∨ y ∈ L := by
  unfold putE at h
  split at h
  · obtain ⟨z, hz, rfl⟩ := List.mem_map.mp h
    split
    · exact .inl rfl
    · exact .inr hz
  · rcases List.mem_append.mp h with h | h
    · exact .inr h
    · exact .inl (List.mem_singleton.mp h)
theorem lookE_mem {L : List En} {w : List Nat} {x : En} (h : lookE L w = some x) : x ∈ L ∧ x.w = w := by
  refine ⟨List.mem_of_find?_eq_some h, ?_⟩
  have := List.find?_some h
  simpa using this
structure IsDk (H : Hp) (c : RCl RK) (d : RCl PzK) (e : RCl DkK) (D kd : Addr) (L : List En) : Prop where
  ok : e.ok .Desk = true
  ex : ∃ dx, H D = some (.ins (e.A .Desk) dx [("kept", .ref kd)])
  kd : H kd = some (.dK (L.map En.kept))
  at_ : ∀ x ∈ L, IsPz H c d x.P x.L x.G x.h x.wd x.g x.rows x.cl
  len : L.length ≤ 100
theorem IsDk.same {H H' : Hp} {c : RCl RK} {d : RCl PzK} {e : RCl DkK} {D kd : Addr} {L : List En} (x : IsDk H c d e D kd L) (s : Same H H') : IsDk H' c d e D kd L := by
  obtain ⟨dx, h1⟩ := x.ex
  exact ⟨x.ok, ⟨dx, s _ _ h1⟩, s _ _ x.kd, fun y hy => (x.at_ y hy).same s, x.len⟩
theorem IsDk.fr {H H' : Hp} {c : RCl RK} {d : RCl PzK} {e : RCl DkK} {D kd k2 : Addr} {L : List En} {kvs : List (Key × V)} (x : IsDk H c d e D kd L) (hk : H k2 = some (.dK kvs)) (n : kd ≠ k2) (f : Fr74 H H' k2) : IsDk H' c d e D kd L := by
  obtain ⟨dx, h1⟩ := x.ex
  exact ⟨x.ok, ⟨dx, f _ _ h1 fun z => by rw [z, hk] at h1; cases h1⟩, f _ _ x.kd n, fun y hy => (x.at_ y hy).fr hk f, x.len⟩
theorem IsDk.set {H : Hp} {c : RCl RK} {d : RCl PzK} {e : RCl DkK} {D kd : Addr} {L L2 : List En} (x : IsDk H c d e D kd L) (m : ∀ y ∈ L2, IsPz H c d y.P y.L y.G y.h y.wd y.g y.rows y.cl) (l : L2.length ≤ 100) : IsDk (upd H kd (.dK (L2.map En.kept))) c d e D kd L2 := by
  obtain ⟨dx, h1⟩ := x.ex
  exact ⟨x.ok, ⟨dx, Fr74.upd _ _ h1 fun z => by rw [z, x.kd] at h1; cases h1⟩, upd_same, fun y hy => (m y hy).fr x.kd Fr74.upd, l⟩
abbrev PE74 (K : PySem.W.Frag) (H : Hp) (E : XK) : Prop := ∀ C, Glb K "NoName" C → ∀ H', Same H H' → E (.ref C) none H'
def sp_Desk___init__ (K : PySem.W.Frag) (c : RCl RK) (d : RCl PzK) (e : RCl DkK) : Sp := fun vs H Q _ => ∃ (D dx : Addr), vs = [.ref D] ∧ e.ok .Desk = true ∧ H D = some (.ins (e.A .Desk) dx []) ∧ ∀ kd, H kd = none → Q .non (upd (upd H kd (.dK [])) D (.ins (e.A .Desk) dx [("kept", .ref kd)]))
theorem sl_Desk___init__ {K : PySem.W.Frag} {c : RCl RK} {d : RCl PzK} {e : RCl DkK} {vs : List V} {H : Hp} {Q : VK} {E : XK} (h : sp_Desk___init__ K c d e vs H Q E) : vs.length = 1 := by
  obtain ⟨_, _, rfl, _⟩ := h; rfl
def rd_Desk___init__ (K : PySem.W.Frag) (c : RCl RK) (d : RCl PzK) (e : RCl DkK) : TS :=
  (sFldK e (tVar 0) tDNewK "kept")
theorem rk_Desk___init__ {K : PySem.W.Frag} {c : RCl RK} {d : RCl PzK} {e : RCl DkK} {vs : List V} {H : Hp} {Q : VK} {E : XK} (h : sp_Desk___init__ K c d e vs H Q E) : rd_Desk___init__ K c d e { nx := fun _ H' => Q .non H', rt := Q } (start ["self"] vs) H := by
  obtain ⟨D, dx, rfl, ok, h1, q⟩ := h
  show rd_Desk___init__ K c d e _ [some (.ref D)] H
  unfold rd_Desk___init__
  rw [w_sfldK]
  walk_at "w"
  intro p hp
  refine ⟨D, .Desk, dx, [], rfl, ok, ?_, by decide, q p hp⟩
  rw [upd_ne (fun z => by rw [z, hp] at h1; cases h1)]
  exact h1
def sp_named (K : PySem.W.Frag) (c : RCl RK) (d : RCl PzK) (e : RCl DkK) (_ : DkK) : Sp := fun vs H Q E => ∃ (D kd : Addr) (L : List En) (w : List Nat), vs = [.ref D, .str (tx w)] ∧ IsDk H c d e D kd L ∧ (lookE L w = none → PE74 K H E) ∧ ∀ x, lookE L w = some x → Q (.ref x.P) H
def sp_Desk_named (K : PySem.W.Frag) (c : RCl RK) (d : RCl PzK) (e : RCl DkK) : Sp := sp_named K c d e .Desk
theorem sl_Desk_named {K : PySem.W.Frag} {c : RCl RK} {d : RCl PzK} {e : RCl DkK} {vs : List V} {H : Hp} {Q : VK} {E : XK} (h : sp_Desk_named K c d e vs H Q E) : vs.length = 2 := by
  obtain ⟨_, _, _, _, rfl, _⟩ := h; rfl
def rd_Desk_named (K : PySem.W.Frag) (c : RCl RK) (d : RCl PzK) (e : RCl DkK) (a : EA) (E : XK) : TS :=
  (tSeq (tIfS (tB (tDNotIn (tVar 1) (tFldK e (tVar 0) "kept"))) (tRaise E a.NoName (tCons (tC (.str (tx [110, 111, 32, 112, 117, 122, 122, 108, 101, 32, 115, 116, 97, 110, 100, 115, 32, 98, 121, 32, 116, 104, 105, 115, 32, 110, 97, 109, 101]))) tNil)) tNext)
    (tRet (tDGet (tFldK e (tVar 0) "kept") (tVar 1))))
theorem dk_get {H : Hp} {c : RCl RK} {d : RCl PzK} {e : RCl DkK} {D kd : Addr} {L : List En} (x : IsDk H c d e D kd L) (w : List Nat) : DGet H kd (.str (tx w)) ((lookE L w).map fun y => .ref y.P) := by
  have := DGet.k (k := kyS w) x.kd
  rw [val_map (fun _ => rfl)] at this
  exact this
theorem dk_notin {c : RCl RK} {d : RCl PzK} {e : RCl DkK} {D kd : Addr} {L : List En} {w : List Nat} {i j : Nat} {σ : St} {H : Hp} {Q : VK} (X : IsDk H c d e D kd L) (hi : σ[i]? = some (some (.ref D))) (hj : σ[j]? = some (some (.str (tx w)))) (q : Q (.bl (!(lookE L w).isSome)) H) : tDNotIn (tVar j) (tFldK e (tVar i) "kept") σ H Q := by
  obtain ⟨dx, h1⟩ := X.ex
  refine vB_of hj (fldE hi X.ok h1 (by rfl) ⟨kd, _, rfl, dk_get X w, ?_⟩)
  rw [Option.isSome_map]
  exact q
theorem dk_at {c : RCl RK} {d : RCl PzK} {e : RCl DkK} {D kd : Addr} {L : List En} {w : List Nat} {x : En} {i j : Nat} {σ : St} {H : Hp} {Q : VK} (X : IsDk H c d e D kd L) (hx : lookE L w = some x) (hi : σ[i]? = some (some (.ref D))) (hj : σ[j]? = some (some (.str (tx w)))) (q : Q (.ref x.P) H) : tDGet (tFldK e (tVar i) "kept") (tVar j) σ H Q := by
  obtain ⟨dx, h1⟩ := X.ex
  have g := dk_get X w
  rw [hx] at g
  exact fldE hi X.ok h1 (by rfl) (vB_of hj ⟨kd, _, rfl, g, q⟩)
theorem rk_Desk_named {K : PySem.W.Frag} {c : RCl RK} {d : RCl PzK} {e : RCl DkK} {a : EA} {vs : List V} {H : Hp} {Q : VK} {E : XK} (R : Ref1 K a "NoName" a.NoName (os74 a)) (h : sp_Desk_named K c d e vs H Q E) : rd_Desk_named K c d e a E { nx := fun _ H' => Q .non H', rt := Q } (start ["self", "name"] vs) H := by
  obtain ⟨D, kd, L, w, rfl, X, k1, k2⟩ := h
  show rd_Desk_named K c d e a E _ [some (.ref D), some (.str (tx w))] H
  unfold rd_Desk_named
  rw [w_seq, w_if]
  walk_at "w"
  refine dk_notin X rfl rfl ⟨_, rfl, ?_⟩
  cases hx : lookE L w with
  | none =>
    refine iteT ?_
    rw [w_raise]
    walk_at "w"
    exact ⟨len_le (by show (1 : Nat) ≤ 1000; decide), k1 hx _ R.g H (Same.refl H)⟩
  | some x =>
    refine iteF ?_
    exact dk_at X hx rfl rfl (k2 x hx)
def okC : List Nat := [111, 107]
def sp_put (K : PySem.W.Frag) (c : RCl RK) (d : RCl PzK) (e : RCl DkK) (_ : DkK) : Sp := fun vs H Q _ => ∃ (D kd : Addr) (L : List En) (w : List Nat) (h wd g : Int) (rows : List RR) (cl : List Int), vs = [.ref D, .str (tx w), .str (tx (pzT h wd g rows cl))] ∧ IsDk H c d e D kd L ∧ L.length ≤ 50 ∧ NmOk w ∧ RowsOk c h wd g rows ∧ CluesOk h wd g cl ∧ d.ok .Puzzle = true ∧
  ∀ P Lr G H', Fr74 H H' kd → IsDk H' c d e D kd (putE L ⟨w, P, Lr, G, h, wd, g, rows, cl⟩) → Q (.str (tx okC)) H'
def sp_Desk_put (K : PySem.W.Frag) (c : RCl RK) (d : RCl PzK) (e : RCl DkK) : Sp := sp_put K c d e .Desk
theorem sl_Desk_put {K : PySem.W.Frag} {c : RCl RK} {d : RCl PzK} {e : RCl DkK} {vs : List V} {H : Hp} {Q : VK} {E : XK} (h : sp_Desk_put K c d e vs H Q E) : vs.length = 3 := by
  obtain ⟨_, _, _, _, _, _, _, _, _, rfl, _⟩ := h; rfl
def rd_Desk_put (K : PySem.W.Frag) (c : RCl RK) (d : RCl PzK) (e : RCl DkK) : TS :=
  (tSeq (tIfS (tNot (tB (tCall (sp_is_name K) [] E0 (tCons (tVar 1) tNil)))) tNever tNext)
    (tSeq (sDPut (tFldK e (tVar 0) "kept") (tVar 1) (tCall (sp_read_puzzle K c d) [] E0 (tCons (tVar 2) tNil)))
    (tRet (tC (.str (tx [111, 107]))))))
theorem rk_Desk_put {K : PySem.W.Frag} {c : RCl RK} {d : RCl PzK} {e : RCl DkK} {vs : List V} {H : Hp} {Q : VK} {E : XK} (h : sp_Desk_put K c d e vs H Q E) : rd_Desk_put K c d e { nx := fun _ H' => Q .non H', rt := Q } (start ["self", "name", "text"] vs) H := by
  obtain ⟨D, kd, L, w, h, wd, g, rows, cl, rfl, X, ll, nw, RO, CO, ok, q⟩ := h
  show rd_Desk_put K c d e _ [some (.ref D), some (.str (tx w)), some (.str (tx (pzT h wd g rows cl)))] H
  unfold rd_Desk_put
  rw [w_seq, w_if]
  walk_at "w"
  refine ⟨w, rfl, nw, fun H1 s1 => ⟨true, rfl, iteF ?_⟩⟩
  walk_at "w"
  refine ⟨h, wd, g, rows, cl, rfl, RO, CO, ok, fun P Lr G H2 s2 _ _ _ Y => ?_⟩
  have X2 := X.same (s1.trans s2)
  obtain ⟨dx, h1⟩ := X2.ex
  refine fldE rfl X2.ok h1 (by rfl) ?_
  walk_at "w"
  have pm := put_map (f := En.kept) (fun _ => rfl) L ⟨w, P, Lr, G, h, wd, g, rows, cl⟩
  have X3 := X2.set (L2 := putE L ⟨w, P, Lr, G, h, wd, g, rows, cl⟩) (fun y hy => by
    rcases putE_mem hy with rfl | hy
    · exact Y
    · exact X2.at_ y hy) (by have := putE_len L ⟨w, P, Lr, G, h, wd, g, rows, cl⟩; omega)
  refine ⟨kd, _, rfl, DPut.k (k := kyS w) X2.kd (by rw [List.length_map]; exact small1000 (by omega)), ?_⟩
  have pm : putK (L.map En.kept) (kyS w) (.ref P) = _ := pm
  rw [pm]
  exact q P Lr G _ (((s1.trans s2).fr74 kd).trans Fr74.upd) X3
def sp_drop (K : PySem.W.Frag) (c : RCl RK) (d : RCl PzK) (e : RCl DkK) (_ : DkK) : Sp := fun vs H Q _ => ∃ (D kd : Addr) (L : List En) (w : List Nat) (x : En), vs = [.ref D, .str (tx w)] ∧ IsDk H c d e D kd L ∧ lookE L w = some x ∧
  ∀ H', Fr74 H H' kd → IsDk H' c d e D kd (dropE L w) → Q (.str (tx okC)) H'
def sp_Desk_drop (K : PySem.W.Frag) (c : RCl RK) (d : RCl PzK) (e : RCl DkK) : Sp := sp_drop K c d e .Desk
theorem sl_Desk_drop {K : PySem.W.Frag} {c : RCl RK} {d : RCl PzK} {e : RCl DkK} {vs : List V} {H : Hp} {Q : VK} {E : XK} (h : sp_Desk_drop K c d e vs H Q E) : vs.length = 2 := by
  obtain ⟨_, _, _, _, _, rfl, _⟩ := h; rfl
def rd_Desk_drop (K : PySem.W.Frag) (c : RCl RK) (d : RCl PzK) (e : RCl DkK) : TS :=
  (tSeq (tDrop (tDPop1 (tFldK e (tVar 0) "kept") (tVar 1)))
    (tRet (tC (.str (tx [111, 107])))))
theorem rk_Desk_drop {K : PySem.W.Frag} {c : RCl RK} {d : RCl PzK} {e : RCl DkK} {vs : List V} {H : Hp} {Q : VK} {E : XK} (h : sp_Desk_drop K c d e vs H Q E) : rd_Desk_drop K c d e { nx := fun _ H' => Q .non H', rt := Q } (start ["self", "name"] vs) H := by
  obtain ⟨D, kd, L, w, x, rfl, X, hx, q⟩ := h
  obtain ⟨dx, h1⟩ := X.ex
  show rd_Desk_drop K c d e _ [some (.ref D), some (.str (tx w))] H
  unfold rd_Desk_drop
  walk_at "w"
  have v := val_map (f := En.kept) (fun _ => rfl) w L
  rw [hx] at v
  refine fldE rfl X.ok h1 (by rfl) ⟨kd, rfl, ?_, vB_of rfl ⟨_, kyS w, _, X.kd, rfl, v, ?_⟩⟩
  · exact .inl ⟨_, .inl X.kd⟩
  · rw [drop_map (fun _ => rfl)]
    exact q _ Fr74.upd (X.set (fun y hy => X.at_ y (List.mem_filter.mp hy).1) (by have := dropE_len L w; have := X.len; omega))
def sp_tell_of (K : PySem.W.Frag) (c : RCl RK) (d : RCl PzK) : Sp := fun vs H Q _ => ∃ (P L G : Addr) (h w g : Int) (rows : List RR) (cl : List Int), vs = [.ref P, .str (tx shoC)] ∧ IsPz H c d P L G h w g rows cl ∧ ∀ H', Same H H' → Q (.str (tx (pzT h w g rows cl))) H'
theorem sl_tell_of {K : PySem.W.Frag} {c : RCl RK} {d : RCl PzK} {vs : List V} {H : Hp} {Q : VK} {E : XK} (h : sp_tell_of K c d vs H Q E) : vs.length = 2 := by
  obtain ⟨_, _, _, _, _, _, _, _, rfl, _⟩ := h; rfl
def rd_tell_of_t1 (K : PySem.W.Frag) (c : RCl RK) (d : RCl PzK) : TS :=
  (tSeq (tIfS (tTest (tOp (cEq K) (tVar 1) (tC (.str (tx [115, 111, 108, 118, 101]))))) (tRet tNeverE) tNext)
    (tSeq (tIfS (tTest (tOp (cEq K) (tVar 1) (tC (.str (tx [98, 111, 111, 107]))))) (tRet tNeverE) tNext)
    (tSeq (tIfS (tTest (tOp (cEq K) (tVar 1) (tC (.str (tx [110, 101, 101, 100, 115]))))) (tRet tNeverE) tNext)
    (tRet tNeverE))))
def rd_tell_of (K : PySem.W.Frag) (c : RCl RK) (d : RCl PzK) : TS :=
  (tSeq (tIfS (tTest (tOp (cEq K) (tVar 1) (tC (.str (tx [115, 104, 111, 119]))))) (tRet (tCall (sp_show_puzzle K c d) [] E0 (tCons (tVar 0) tNil))) tNext)
    (rd_tell_of_t1 K c d))
theorem rk_tell_of {K : PySem.W.Frag} {c : RCl RK} {d : RCl PzK} {vs : List V} {H : Hp} {Q : VK} {E : XK} (h : sp_tell_of K c d vs H Q E) : rd_tell_of K c d { nx := fun _ H' => Q .non H', rt := Q } (start ["puzzle", "word"] vs) H := by
  obtain ⟨P, L, G, h, w, g, rows, cl, rfl, X, q⟩ := h
  show rd_tell_of K c d _ [some (.ref P), some (.str (tx shoC))] H
  unfold rd_tell_of
  generalize rd_tell_of_t1 K c d = V1
  rw [w_seq, w_if]
  walk_at "w"
  rw [show decide (tx shoC = tx [115, 104, 111, 119]) = true from rfl]
  refine iteT ?_
  exact ⟨P, L, G, h, w, g, rows, cl, rfl, X, q⟩
theorem pz_len74 {c : RCl RK} {h w g : Int} {rows : List RR} {cl : List Int} (R : RowsOk c h w g rows) : (pzT h w g rows cl).length ≤ 900 := by
  have a := rowT_len R
  have b := flT_len h w g
  obtain ⟨h0, h1, w0, w1, m16, g0, g1⟩ := id R.F
  have d := showL_len (h := h.toNat) (w := w.toNat) (xs := cl) (by omega) (by omega)
  show (flT h w g ++ ([32, 124, 32] ++ (rowT rows ++ ([32, 124, 32] ++ showL h.toNat w.toNat cl)))).length ≤ 900
  simp
  omega
def sp_say (K : PySem.W.Frag) (c : RCl RK) (d : RCl PzK) (e : RCl DkK) (_ : DkK) : Sp := fun vs H Q E => ∃ (D kd : Addr) (L : List En) (w : List Nat), IsDk H c d e D kd L ∧ NmOk w ∧
  ((∃ (h wd g : Int) (rows : List RR) (cl : List Int), vs = [.ref D, .str (tx (puzC ++ [32] ++ w ++ [32] ++ pzT h wd g rows cl))] ∧ L.length ≤ 50 ∧ RowsOk c h wd g rows ∧ CluesOk h wd g cl ∧ d.ok .Puzzle = true ∧
      ∀ P Lr G H', Fr74 H H' kd → IsDk H' c d e D kd (putE L ⟨w, P, Lr, G, h, wd, g, rows, cl⟩) → Q (.str (tx okC)) H') ∨
   (vs = [.ref D, .str (tx (droC ++ [32] ++ w))] ∧ (lookE L w = none → PE74 K H E) ∧ ∀ x, lookE L w = some x → ∀ H', Fr74 H H' kd → IsDk H' c d e D kd (dropE L w) → Q (.str (tx okC)) H') ∨
   (vs = [.ref D, .str (tx (shoC ++ [32] ++ w))] ∧ (lookE L w = none → PE74 K H E) ∧ ∀ x, lookE L w = some x → ∀ H', Same H H' → Q (.str (tx x.txt)) H'))
def sp_Desk_say (K : PySem.W.Frag) (c : RCl RK) (d : RCl PzK) (e : RCl DkK) : Sp := sp_say K c d e .Desk
theorem sl_Desk_say {K : PySem.W.Frag} {c : RCl RK} {d : RCl PzK} {e : RCl DkK} {vs : List V} {H : Hp} {Q : VK} {E : XK} (h : sp_Desk_say K c d e vs H Q E) : vs.length = 2 := by
  obtain ⟨_, _, _, _, _, _, ⟨_, _, _, _, _, rfl, _⟩ | ⟨rfl, _⟩ | ⟨rfl, _⟩⟩ := h <;> rfl
def rd_Desk_say_t4 (K : PySem.W.Frag) (c : RCl RK) (d : RCl PzK) (e : RCl DkK) (E : XK) : TS :=
  (tSeq (tIfS (tB (tInG gt_WITH_NAME false (tOp cIx (tVar 2) (tC (.int 0))))) (tRet (tCall (sp_tell_of K c d) [] E0 (tCons (tVar 3) (tCons (tOp cIx (tVar 2) (tC (.int 0))) tNil)))) tNext)
    (tSeq (tIfS (tB (tInG gt_WITH_TEXT false (tOp cIx (tVar 2) (tC (.int 0))))) (tRet tNeverE) tNext)
    (tRet tNeverE)))
def rd_Desk_say_t3 (K : PySem.W.Frag) (c : RCl RK) (d : RCl PzK) (e : RCl DkK) (E : XK) : TS :=
  (tSeq (tIfS (tTest (tOp (cEq K) (tOp cIx (tVar 2) (tC (.int 0))) (tC (.str (tx [100, 114, 111, 112]))))) (tRet (tMethK e e.ok "drop" (sp_drop K c d e) (tVar 0) (tCons (tOp cIx (tVar 2) (tC (.int 1))) tNil))) tNext)
    (rd_Desk_say_t4 K c d e E))
def rd_Desk_say_t2 (K : PySem.W.Frag) (c : RCl RK) (d : RCl PzK) (e : RCl DkK) (E : XK) : TS :=
  (tSeq (tAsg (tMethE e e.ok "named" (sp_named K c d e) E (tVar 0) (tCons (tOp cIx (tVar 2) (tC (.int 1))) tNil)) (gName 3))
    (rd_Desk_say_t3 K c d e E))
def rd_Desk_say_t1 (K : PySem.W.Frag) (c : RCl RK) (d : RCl PzK) (e : RCl DkK) (E : XK) : TS :=
  (tSeq (tIfS (tTest (tOp (cEq K) (tOp cIx (tVar 2) (tC (.int 0))) (tC (.str (tx [112, 117, 122, 122, 108, 101]))))) (tRet (tMethK e e.ok "put" (sp_put K c d e) (tVar 0) (tCons (tOp cIx (tVar 2) (tC (.int 1))) (tCons (tOp cIx (tVar 2) (tC (.int 2))) tNil)))) tNext)
    (rd_Desk_say_t2 K c d e E))
def rd_Desk_say (K : PySem.W.Frag) (c : RCl RK) (d : RCl PzK) (e : RCl DkK) (E : XK) : TS :=
  (tSeq (tAsg (tCall (sp_words_of K) [] E0 (tCons (tVar 1) tNil)) (gName 2))
    (rd_Desk_say_t1 K c d e E))
theorem rk_Desk_say_t2 {K : PySem.W.Frag} {c : RCl RK} {d : RCl PzK} {e : RCl DkK} {H0 H : Hp} {Q : VK} {E : XK} {D kd W : Addr} {L : List En} {w nm : List Nat} {v1 : Option V} (s0 : Same H0 H) (X : IsDk H c d e D kd L) (eW : H W = some (.lst (([nm, w].map tx).map V.str)))
    (k1 : lookE L w = none → PE74 K H0 E) (k2 : ∀ x, lookE L w = some x → (nm = droC ∧ ∀ H', Fr74 H0 H' kd → IsDk H' c d e D kd (dropE L w) → Q (.str (tx okC)) H') ∨ (nm = shoC ∧ ∀ H', Same H0 H' → Q (.str (tx x.txt)) H')) :
    rd_Desk_say_t2 K c d e E { nx := fun _ H' => Q .non H', rt := Q } [some (.ref D), v1, some (.ref W), none] H := by
  obtain ⟨dx, h1⟩ := X.ex
  have e0 : atI (([nm, w].map tx).map V.str) 0 = some (V.str (tx nm)) := rfl
  have e1 : atI (([nm, w].map tx).map V.str) 1 = some (V.str (tx w)) := atI_nat (j := 1) rfl
  unfold rd_Desk_say_t2
  generalize hV3 : rd_Desk_say_t3 K c d e E = V3
  walk_at "w"
  refine ⟨D, .Desk, dx, _, rfl, X.ok, h1, by rfl, ?_⟩
  refine ixL eW e1 ?_
  refine ⟨D, kd, L, w, rfl, X, fun z C hC H' s' => k1 z C hC H' (s0.trans s'), fun x hx => ?_⟩
  subst hV3
  unfold rd_Desk_say_t3
  generalize hV4 : rd_Desk_say_t4 K c d e E = V4
  rw [w_seq, w_if]
  walk_at "w"
  refine ixL eW e0 ?_
  walk_at "w"
  rcases k2 x hx with ⟨rfl, k⟩ | ⟨rfl, k⟩
  · rw [show decide (tx droC = tx [100, 114, 111, 112]) = true from rfl]
    refine iteT ?_
    refine methE (k := .Desk) rfl X.ok h1 (by rfl) ?_
    walk_at "w"
    refine ixL eW e1 ?_
    exact ⟨D, kd, L, w, x, rfl, X, hx, fun H' f Y => k H' ((s0.fr74 kd).trans f) Y⟩
  · rw [show decide (tx shoC = tx [100, 114, 111, 112]) = false from rfl]
    refine iteF ?_
    subst hV4
    unfold rd_Desk_say_t4
    rw [w_seq, w_if]
    walk_at "w"
    refine ixL eW e0 ⟨_, rfl, ?_⟩
    rw [show decide (tx shoC ∈ gt_WITH_NAME) = true from by decide]
    refine iteT ?_
    walk_at "w"
    refine ixL eW e0 ?_
    have Y := X.at_ x (lookE_mem hx).1
    exact ⟨x.P, x.L, x.G, x.h, x.wd, x.g, x.rows, x.cl, rfl, Y, fun H' s' => k H' (s0.trans s')⟩
theorem rk_Desk_say {K : PySem.W.Frag} {c : RCl RK} {d : RCl PzK} {e : RCl DkK} {vs : List V} {H : Hp} {Q : VK} {E : XK} (h : sp_Desk_say K c d e vs H Q E) : rd_Desk_say K c d e E { nx := fun _ H' => Q .non H', rt := Q } (start ["self", "row", "words", "puzzle"] vs) H := by
  obtain ⟨D, kd, L, w, X, nw, h⟩ := h
  obtain ⟨dx, h1⟩ := X.ex
  have two : ∀ nm : List Nat, (nm = droC ∨ nm = shoC) → (lookE L w = none → PE74 K H E) → (∀ x, lookE L w = some x → (nm = droC ∧ ∀ H', Fr74 H H' kd → IsDk H' c d e D kd (dropE L w) → Q (.str (tx okC)) H') ∨ (nm = shoC ∧ ∀ H', Same H H' → Q (.str (tx x.txt)) H')) →
      rd_Desk_say K c d e E { nx := fun _ H' => Q .non H', rt := Q } [some (.ref D), some (.str (tx (nm ++ [32] ++ w))), none, none] H := by
    intro nm hnm k1 k2
    unfold rd_Desk_say
    generalize hV1 : rd_Desk_say_t1 K c d e E = V1
    walk_at "w"
    have hr : Row74 (nm ++ [32] ++ w) [nm, w] := by
      rcases hnm with rfl | rfl
      · exact .drop nw.free nw.2.1
      · exact .tell nw.free nw.2.1
    refine ⟨_, _, rfl, hr, fun W H1 s1 eW => ?_⟩
    subst hV1
    unfold rd_Desk_say_t1
    generalize hV2 : rd_Desk_say_t2 K c d e E = V2
    rw [w_seq, w_if]
    walk_at "w"
    refine ixL eW (v := V.str (tx nm)) rfl ?_
    walk_at "w"
    have n0 : decide (tx nm = tx [112, 117, 122, 122, 108, 101]) = false := by rcases hnm with rfl | rfl <;> rfl
    rw [n0]
    refine iteF ?_
    subst hV2
    exact rk_Desk_say_t2 s1 (X.same s1) eW k1 k2
  rcases h with ⟨h, wd, g, rows, cl, rfl, ll, RO, CO, ok, q⟩ | ⟨rfl, k1, k2⟩ | ⟨rfl, k1, k2⟩
  · show rd_Desk_say K c d e E _ [some (.ref D), some (.str (tx (puzC ++ [32] ++ w ++ [32] ++ pzT h wd g rows cl))), none, none] H
    have pl := pz_len74 (cl := cl) RO
    unfold rd_Desk_say
    generalize hV1 : rd_Desk_say_t1 K c d e E = V1
    walk_at "w"
    refine ⟨_, _, rfl, .put nw.free nw.2.1 pl, fun W H1 s1 eW => ?_⟩
    subst hV1
    unfold rd_Desk_say_t1
    generalize rd_Desk_say_t2 K c d e E = V2
    rw [w_seq, w_if]
    walk_at "w"
    refine ixL eW (v := V.str (tx puzC)) rfl ?_
    walk_at "w"
    rw [show decide (tx puzC = tx [112, 117, 122, 122, 108, 101]) = true from rfl]
    refine iteT ?_
    refine methE (k := .Desk) rfl X.ok (s1 _ _ h1) (by rfl) ?_
    walk_at "w"
    refine ixL eW (v := V.str (tx w)) (atI_nat (j := 1) rfl) ?_
    refine ixL eW (v := V.str (tx (pzT h wd g rows cl))) (atI_nat (j := 2) rfl) ?_
    exact ⟨D, kd, L, w, h, wd, g, rows, cl, rfl, X.same s1, ll, nw, RO, CO, ok, fun P Lr G H' f Y => q P Lr G H' ((s1.fr74 kd).trans f) Y⟩
  · exact two droC (.inl rfl) k1 fun x hx => .inl ⟨rfl, k2 x hx⟩
  · exact two shoC (.inr rfl) k1 fun x hx => .inr ⟨rfl, k2 x hx⟩
def sp__law_nobody (K : PySem.W.Frag) (c : RCl RK) (d : RCl PzK) (e : RCl DkK) : Sp := fun vs H Q _ => ∃ (D kd : Addr) (L : List En) (w nm : List Nat), vs = [.ref D, .str (tx (nm ++ [32] ++ w))] ∧ (nm = droC ∨ nm = shoC) ∧ IsDk H c d e D kd L ∧ NmOk w ∧ lookE L w = none ∧ ∀ H', Same H H' → Q (.bl true) H'
theorem sl__law_nobody {K : PySem.W.Frag} {c : RCl RK} {d : RCl PzK} {e : RCl DkK} {vs : List V} {H : Hp} {Q : VK} {E : XK} (h : sp__law_nobody K c d e vs H Q E) : vs.length = 2 := by
  obtain ⟨_, _, _, _, _, rfl, _⟩ := h; rfl
def rd__law_nobody (K : PySem.W.Frag) (c : RCl RK) (d : RCl PzK) (e : RCl DkK) (a : EA) : TS :=
  (tSeq (tAsg (tC .non) (gName 2))
    (tSeq (tTryM K e e.ok "say" (sp_say K c d e) (tVar 0) (tCons (tVar 1) tNil) (.ref a.NoName) 3 (tAsg (tCB (kIsX K) (tCons (tVar 3) (tCons (tC (.ty "ValueError")) tNil))) (gName 2)))
    (tRet (tOp rIsB (tVar 2) (tC (.bl true))))))
theorem rk__law_nobody {K : PySem.W.Frag} {c : RCl RK} {d : RCl PzK} {e : RCl DkK} {a : EA} {vs : List V} {H : Hp} {Q : VK} {E : XK} (R : Ref1 K a "NoName" a.NoName (os74 a)) (XS : PySem.W.exmOne K (.ref a.NoName) (.ref a.NoName) = some true) (h : sp__law_nobody K c d e vs H Q E) : rd__law_nobody K c d e a { nx := fun _ H' => Q .non H', rt := Q } (start ["_law_desk", "_law_row", "_law_found", "e"] vs) H := by
  obtain ⟨D, kd, L, w, nm, rfl, hnm, X, nw, hx, q⟩ := h
  obtain ⟨dx, h1⟩ := X.ex
  show rd__law_nobody K c d e a _ [some (.ref D), some (.str (tx (nm ++ [32] ++ w))), none, none] H
  unfold rd__law_nobody
  walk_at "w"
  refine ⟨fun v _ H' => ∃ C, v = .ref C ∧ Glb K "NoName" C ∧ Same H H', ?_, ?_⟩
  · walk_at "w"
    refine ⟨D, .Desk, dx, _, rfl, X.ok, h1, by rfl, ?_⟩
    refine ⟨D, kd, L, w, X, nw, ?_⟩
    rcases hnm with rfl | rfl
    · exact .inr (.inl ⟨rfl, fun _ C gC H' s' => ⟨C, rfl, gC, s'⟩, fun x hx' => by rw [hx] at hx'; cases hx'⟩)
    · exact .inr (.inr ⟨rfl, fun _ C gC H' s' => ⟨C, rfl, gC, s'⟩, fun x hx' => by rw [hx] at hx'; cases hx'⟩)
  · rintro C H2 ⟨C', e1, gC, s⟩
    cases e1
    obtain rfl : C = a.NoName := Glb.eq gC R.g
    refine ⟨XS, fun y hy => ?_⟩
    have s2 : Same H2 (upd H2 y (.ext (XO y a.NoName))) := (Same.refl H2).laid hy
    have e2 : (upd H2 y (.ext (XO y a.NoName))) y = some (.ext (XO y a.NoName)) := upd_same
    generalize upd H2 y (.ext (XO y a.NoName)) = H3 at *
    walk_at "w"
    refine w_isXt R.xis e2 R.ve ?_
    rw [w_isB]
    exact q _ (s.trans s2)
structure Dk2 (H : Hp) (c : RCl RK) (d : RCl PzK) (e : RCl DkK) (D kd S : Addr) (L : List En) : Prop where
  X : IsDk H c d e D kd L
  st : H S = some (.dK (L.map En.stood))
  ne : kd ≠ S
theorem Dk2.same {H H' : Hp} {c : RCl RK} {d : RCl PzK} {e : RCl DkK} {D kd S : Addr} {L : List En} (x : Dk2 H c d e D kd S L) (s : Same H H') : Dk2 H' c d e D kd S L := ⟨x.X.same s, s _ _ x.st, x.ne⟩
theorem Dk2.get {H : Hp} {c : RCl RK} {d : RCl PzK} {e : RCl DkK} {D kd S : Addr} {L : List En} (x : Dk2 H c d e D kd S L) (w : List Nat) : DGet H S (.str (tx w)) ((lookE L w).map fun y => .str (tx y.txt)) := by
  have := DGet.k (k := kyS w) x.st
  rw [val_map (fun _ => rfl)] at this
  exact this
def Fr2 (H H' : Hp) (a b : Addr) : Prop := ∀ x o, H x = some o → x ≠ a → x ≠ b → H' x = some o
theorem Same.fr2 {H H' : Hp} (s : Same H H') (a b : Addr) : Fr2 H H' a b := fun x o e _ _ => s x o e
theorem Fr2.trans {H H1 H2 : Hp} {a b : Addr} (x : Fr2 H H1 a b) (y : Fr2 H1 H2 a b) : Fr2 H H2 a b := fun z o e n m => y z o (x z o e n m) n m
theorem Fr74.l2 {H H' : Hp} {a b : Addr} (x : Fr74 H H' a) : Fr2 H H' a b := fun z o e n _ => x z o e n
theorem Fr74.r2 {H H' : Hp} {a b : Addr} (x : Fr74 H H' b) : Fr2 H H' a b := fun z o e _ m => x z o e m
def sp__law_told74 (K : PySem.W.Frag) (c : RCl RK) (d : RCl PzK) (e : RCl DkK) : Sp := fun vs H Q _ => ∃ (D kd S N : Addr) (L : List En) (ws : List (List Nat)) (y : Int), vs = [.ref D, .ref S, .ref N, .int y] ∧ Dk2 H c d e D kd S L ∧ L.length ≤ 40 ∧ H N = some (.lst ((ws.map tx).map V.str)) ∧ ws.length = 4 ∧ (∀ w ∈ ws, NmOk w) ∧ (∀ k, k ≠ .Rule → c.ok k = true) ∧ d.ok .Puzzle = true ∧
  ∀ (L' : List En) (H' : Hp), Fr2 H H' kd S → Dk2 H' c d e D kd S L' → L'.length ≤ L.length + 1 → Q (.bl true) H'
theorem sl__law_told74 {K : PySem.W.Frag} {c : RCl RK} {d : RCl PzK} {e : RCl DkK} {vs : List V} {H : Hp} {Q : VK} {E : XK} (h : sp__law_told74 K c d e vs H Q E) : vs.length = 4 := by
  obtain ⟨_, _, _, _, _, _, _, rfl, _⟩ := h; rfl
def rd__law_told74_t5 (K : PySem.W.Frag) (c : RCl RK) (d : RCl PzK) (e : RCl DkK) : TS :=
  (tRet (tOp (cEq K) (tMethE e e.ok "say" (sp_say K c d e) E0 (tVar 0) (tCons (tOp cAdd (tC (.str (tx [115, 104, 111, 119, 32]))) (tVar 4)) tNil)) (tDGet (tVar 1) (tVar 4))))
def rd__law_told74_t4 (K : PySem.W.Frag) (c : RCl RK) (d : RCl PzK) (e : RCl DkK) : TS :=
  (tSeq (tIfS (tTest (tOp (cEq K) (tVar 5) (tC (.int 3)))) (tSeq (tDrop (tDPop1 (tVar 1) (tVar 4)))
    (tRet (tOp (cEq K) (tMethE e e.ok "say" (sp_say K c d e) E0 (tVar 0) (tCons (tOp cAdd (tC (.str (tx [100, 114, 111, 112, 32]))) (tVar 4)) tNil)) (tC (.str (tx [111, 107])))))) tNext)
    (rd__law_told74_t5 K c d e))
def rd__law_told74_t3 (K : PySem.W.Frag) (c : RCl RK) (d : RCl PzK) (e : RCl DkK) : TS :=
  (tSeq (tIfS (tB (tDNotIn (tVar 4) (tVar 1))) (tRet (tCall (sp__law_nobody K c d e) [] E0 (tCons (tVar 0) (tCons (tOp cAdd (tOp cIx (tLst (tCons (tC (.str (tx [100, 114, 111, 112, 32]))) (tCons (tC (.str (tx [115, 104, 111, 119, 32]))) tNil))) (tOp cSub (tVar 5) (tC (.int 3)))) (tVar 4)) tNil)))) tNext)
    (rd__law_told74_t4 K c d e))
def rd__law_told74_t2 (K : PySem.W.Frag) (c : RCl RK) (d : RCl PzK) (e : RCl DkK) : TS :=
  (tSeq (tIfS (tTest (tOp (cCmp fun i j => decide (i < j)) (tVar 5) (tC (.int 3)))) (tSeq (sDPut (tVar 1) (tVar 4) (tCall (sp__law_text74 K) [] E0 (tCons (tOp cDiv (tVar 3) (tC (.int 20))) tNil)))
    (tRet (tOp (cEq K) (tMethE e e.ok "say" (sp_say K c d e) E0 (tVar 0) (tCons (tOp cAdd (tOp cAdd (tOp cAdd (tC (.str (tx [112, 117, 122, 122, 108, 101, 32]))) (tVar 4)) (tC (.str (tx [32])))) (tDGet (tVar 1) (tVar 4))) tNil)) (tC (.str (tx [111, 107])))))) tNext)
    (rd__law_told74_t3 K c d e))
def rd__law_told74 (K : PySem.W.Frag) (c : RCl RK) (d : RCl PzK) (e : RCl DkK) : TS :=
  (tSeq (tAsg (tOp cIx (tVar 2) (tOp cMod (tVar 3) (tC (.int 4)))) (gName 4))
    (tSeq (tAsg (tOp cMod (tOp cDiv (tVar 3) (tC (.int 4))) (tC (.int 5))) (gName 5))
    (rd__law_told74_t2 K c d e)))
theorem st_notin {c : RCl RK} {d : RCl PzK} {e : RCl DkK} {D kd S : Addr} {L : List En} {w : List Nat} {i j : Nat} {σ : St} {H : Hp} {Q : VK} (X : Dk2 H c d e D kd S L) (hi : σ[i]? = some (some (.ref S))) (hj : σ[j]? = some (some (.str (tx w)))) (q : Q (.bl (!(lookE L w).isSome)) H) : tDNotIn (tVar j) (tVar i) σ H Q := by
  refine vB_of hj (vB_of hi ⟨S, _, rfl, X.get w, ?_⟩)
  rw [Option.isSome_map]
  exact q
theorem st_at {c : RCl RK} {d : RCl PzK} {e : RCl DkK} {D kd S : Addr} {L : List En} {w : List Nat} {x : En} {i j : Nat} {σ : St} {H : Hp} {Q : VK} (X : Dk2 H c d e D kd S L) (hx : lookE L w = some x) (hi : σ[i]? = some (some (.ref S))) (hj : σ[j]? = some (some (.str (tx w)))) (q : Q (.str (tx x.txt)) H) : tDGet (tVar i) (tVar j) σ H Q := by
  have g := X.get w
  rw [hx] at g
  exact vB_of hi (vB_of hj ⟨S, _, rfl, g, q⟩)
theorem rk__law_told74_t4 {K : PySem.W.Frag} {c : RCl RK} {d : RCl PzK} {e : RCl DkK} {H : Hp} {Q : VK} {D kd S : Addr} {L : List En} {w : List Nat} {y : Int} {x : En} {v2 v3 : Option V} (X : Dk2 H c d e D kd S L) (nw : NmOk w) (hx : lookE L w = some x)
    (q : ∀ (L' : List En) (H' : Hp), Fr2 H H' kd S → Dk2 H' c d e D kd S L' → L'.length ≤ L.length + 1 → Q (.bl true) H') :
    rd__law_told74_t4 K c d e { nx := fun _ H' => Q .non H', rt := Q } [some (.ref D), some (.ref S), v2, v3, some (.str (tx w)), some (.int y)] H := by
  unfold rd__law_told74_t4
  generalize hV5 : rd__law_told74_t5 K c d e = V5
  rw [w_seq, w_if]
  walk_at "w"
  cases decide (y = 3) with
  | true =>
    refine iteT ?_
    walk_at "w"
    have v := val_map (f := En.stood) (fun _ => rfl) w L
    rw [hx] at v
    show tVar 1 _ H _
    refine vB_of rfl ⟨S, rfl, .inl ⟨_, .inl X.st⟩, ?_⟩
    refine vB_of rfl ⟨_, kyS w, _, X.st, rfl, v, ?_⟩
    rw [drop_map (fun _ => rfl)]
    have X1 := X.X.fr X.st X.ne (Fr74.upd (o := .dK ((dropE L w).map En.stood)))
    have e1 : (upd H S (.dK ((dropE L w).map En.stood))) S = some (.dK ((dropE L w).map En.stood)) := upd_same
    have f1 : Fr74 H (upd H S (.dK ((dropE L w).map En.stood))) S := Fr74.upd
    generalize upd H S (.dK ((dropE L w).map En.stood)) = H1 at *
    obtain ⟨dx, h1⟩ := X1.ex
    refine ⟨D, .Desk, dx, _, rfl, X1.ok, h1, by rfl, ?_⟩
    rw [tx_app]
    refine ⟨by rw [tx_len, tx_len]; exact len_le (by have := nw.2.1; simp; omega), ?_⟩
    refine ⟨D, kd, L, w, X1, nw, .inr (.inl ⟨rfl, (fun z => by rw [hx] at z; cases z), fun x' hx' H2 f2 X2 => ?_⟩)⟩
    walk_at "w"
    rw [show decide (tx okC = tx [111, 107]) = true from rfl]
    exact q (dropE L w) H2 (f1.r2.trans f2.l2) ⟨X2, f2 _ _ e1 X.ne.symm, X.ne⟩ (by have := dropE_len L w; omega)
  | false =>
    refine iteF ?_
    subst hV5
    unfold rd__law_told74_t5
    obtain ⟨dx, h1⟩ := X.X.ex
    walk_at "w"
    refine ⟨D, .Desk, dx, _, rfl, X.X.ok, h1, by rfl, ?_⟩
    rw [tx_app]
    refine ⟨by rw [tx_len, tx_len]; exact len_le (by have := nw.2.1; simp; omega), ?_⟩
    refine ⟨D, kd, L, w, X.X, nw, .inr (.inr ⟨rfl, (fun z => by rw [hx] at z; cases z), fun x' hx' H2 s2 => ?_⟩)⟩
    rw [hx] at hx'
    cases hx'
    have X2 := X.same s2
    refine st_at X2 hx rfl rfl ?_
    walk_at "w"
    exact q L H2 (s2.fr2 _ _) X2 (by omega)
theorem rk__law_told74_t3 {K : PySem.W.Frag} {c : RCl RK} {d : RCl PzK} {e : RCl DkK} {H : Hp} {Q : VK} {D kd S : Addr} {L : List En} {w : List Nat} {y : Int} {v2 v3 : Option V} (X : Dk2 H c d e D kd S L) (nw : NmOk w) (y3 : 3 ≤ y) (y5 : y < 5)
    (q : ∀ (L' : List En) (H' : Hp), Fr2 H H' kd S → Dk2 H' c d e D kd S L' → L'.length ≤ L.length + 1 → Q (.bl true) H') :
    rd__law_told74_t3 K c d e { nx := fun _ H' => Q .non H', rt := Q } [some (.ref D), some (.ref S), v2, v3, some (.str (tx w)), some (.int y)] H := by
  unfold rd__law_told74_t3
  generalize hV4 : rd__law_told74_t4 K c d e = V4
  rw [w_seq, w_if]
  walk_at "w"
  refine st_notin X rfl rfl ⟨_, rfl, ?_⟩
  cases hx : lookE L w with
  | none =>
    refine iteT ⟨len_le (by show (2 : Nat) ≤ 1000; decide), fun p hp => ?_⟩
    have s1 : Same H (upd H p (.lst [V.str (tx [100, 114, 111, 112, 32]), V.str (tx [115, 104, 111, 119, 32])])) := (Same.refl H).laid hp
    have e1 : (upd H p (.lst [V.str (tx [100, 114, 111, 112, 32]), V.str (tx [115, 104, 111, 119, 32])])) p = some (.lst [V.str (tx [100, 114, 111, 112, 32]), V.str (tx [115, 104, 111, 119, 32])]) := upd_same
    generalize upd H p (.lst [V.str (tx [100, 114, 111, 112, 32]), V.str (tx [115, 104, 111, 119, 32])]) = H1 at *
    have X1 := X.same s1
    have nl := nw.2.1
    have : y = 3 ∨ y = 4 := by omega
    rcases this with rfl | rfl
    · refine ixL e1 (v := V.str (tx [100, 114, 111, 112, 32])) (atI_nat (j := 0) rfl) ?_
      refine strM74 (a := [100, 114, 111, 112, 32]) (b := w) (by simp; omega) ?_
      exact ⟨D, kd, L, w, droC, rfl, .inl rfl, X1.X, nw, hx, fun H2 s2 => q L H2 ((s1.trans s2).fr2 _ _) (X1.same s2) (by omega)⟩
    · refine ixL e1 (v := V.str (tx [115, 104, 111, 119, 32])) (atI_nat (j := 1) rfl) ?_
      refine strM74 (a := [115, 104, 111, 119, 32]) (b := w) (by simp; omega) ?_
      exact ⟨D, kd, L, w, shoC, rfl, .inr rfl, X1.X, nw, hx, fun H2 s2 => q L H2 ((s1.trans s2).fr2 _ _) (X1.same s2) (by omega)⟩
  | some x =>
    refine iteF ?_
    subst hV4
    exact rk__law_told74_t4 X nw hx q
theorem rk__law_told74 {K : PySem.W.Frag} {c : RCl RK} {d : RCl PzK} {e : RCl DkK} {vs : List V} {H : Hp} {Q : VK} {E : XK} (h : sp__law_told74 K c d e vs H Q E) : rd__law_told74 K c d e { nx := fun _ H' => Q .non H', rt := Q } (start ["_law_desk", "_law_stood", "_law_names_here", "_law_cell", "_law_name", "_law_kind"] vs) H := by
  obtain ⟨D, kd, S, N, L, ws, y, rfl, X, ll, hN, w4, wo, hc, ok, q⟩ := h
  show rd__law_told74 K c d e _ [some (.ref D), some (.ref S), some (.ref N), some (.int y), none, none] H
  unfold rd__law_told74
  generalize hV2 : rd__law_told74_t2 K c d e = V2
  walk_at "w"
  refine ⟨by decide, ?_⟩
  have a0 := Int.emod_nonneg y (show (4 : Int) ≠ 0 by decide)
  have a1 := Int.emod_lt_of_pos y (show (0 : Int) < 4 by decide)
  have ej : y % 4 = (((y % 4).toNat : Nat) : Int) := by omega
  rw [ej]
  have hj : (y % 4).toNat < ws.length := by omega
  generalize (y % 4).toNat = j at *
  have nw := wo _ (List.getElem_mem hj)
  have eat : atI ((ws.map tx).map V.str) (j : Int) = some (V.str (tx ws[j])) := atI_nat (by rw [List.getElem?_map, List.getElem?_map, List.getElem?_eq_getElem hj]; rfl)
  generalize ws[j] = w at *
  refine ixL hN eat ?_
  walk_at "w"
  refine ⟨⟨by decide, by decide⟩, by decide, ?_⟩
  have b0 := Int.emod_nonneg (y / 4) (show (5 : Int) ≠ 0 by decide)
  have b1 := Int.emod_lt_of_pos (y / 4) (show (0 : Int) < 5 by decide)
  generalize y / 4 % 5 = z at *
  subst hV2
  unfold rd__law_told74_t2
  generalize hV3 : rd__law_told74_t3 K c d e = V3
  rw [w_seq, w_if]
  walk_at "w"
  by_cases hz : z < 3
  · rw [decide_eq_true hz]
    refine iteT ?_
    walk_at "w"
    refine ⟨⟨by decide, by decide⟩, _, rfl, fun h wd g rows cl H1 s1 RO CO => ?_⟩
    have X1 := X.same s1
    refine ⟨S, _, rfl, DPut.k (k := kyS w) X1.st (by rw [List.length_map]; exact small1000 (by omega)), ?_⟩
    have pm := fun P Lr G => put_map (f := En.stood) (fun _ => rfl) L ⟨w, P, Lr, G, h, wd, g, rows, cl⟩
    have pm0 : putK (L.map En.stood) (kyS w) (.str (tx (pzT h wd g rows cl))) = _ := pm 0 0 0
    have pm : ∀ P Lr G, putK (L.map En.stood) (kyS w) (.str (tx (pzT h wd g rows cl))) = (putE L ⟨w, P, Lr, G, h, wd, g, rows, cl⟩).map En.stood := fun P Lr G => pm P Lr G
    have vp := valV_put (L.map En.stood) (kyS w) (kyS w) (.str (tx (pzT h wd g rows cl)))
    rw [if_pos rfl] at vp
    generalize putK (L.map En.stood) (kyS w) (.str (tx (pzT h wd g rows cl))) = KV at *
    have Y := X1.X.fr X1.st X1.ne (Fr74.upd (o := .dK KV))
    have e1 : (upd H1 S (.dK KV)) S = some (.dK KV) := upd_same
    have f1 : Fr74 H1 (upd H1 S (.dK KV)) S := Fr74.upd
    generalize upd H1 S (.dK KV) = H2 at *
    obtain ⟨dx, h1⟩ := Y.ex
    have nl := nw.2.1
    have RO2 := RO.c hc
    have pl := pz_len74 (cl := cl) RO2
    refine ⟨D, .Desk, dx, _, rfl, Y.ok, h1, by rfl, ?_⟩
    rw [tx_app, tx_app]
    refine ⟨by rw [tx_len, tx_len]; exact len_le (by simp; omega), by rw [tx_len, tx_len]; exact len_le (by simp; omega), ?_⟩
    show tVar 1 _ H2 _
    refine vB_of rfl (vB_of rfl ⟨S, .str (tx (pzT h wd g rows cl)), rfl, ?g, ?_⟩)
    case g =>
      have := DGet.k (k := kyS w) e1
      rw [vp] at this
      exact this
    refine strM74 (a := [112, 117, 122, 122, 108, 101, 32] ++ w ++ [32]) (b := pzT h wd g rows cl) (by simp; omega) ?_
    refine ⟨D, kd, L, w, Y, nw, .inl ⟨h, wd, g, rows, cl, by rw [show [112, 117, 122, 122, 108, 101, 32] = puzC ++ [32] from rfl], by omega, RO2, CO, ok, fun P Lr G H3 f3 X3 => ?_⟩⟩
    walk_at "w"
    rw [show decide (tx okC = tx [111, 107]) = true from rfl]
    exact q _ H3 ((s1.fr2 _ _).trans (f1.r2.trans f3.l2)) ⟨X3, by rw [← pm]; exact f3 _ _ e1 X1.ne.symm, X1.ne⟩ (putE_len _ _)
  · rw [decide_eq_false hz]
    refine iteF ?_
    subst hV3
    exact rk__law_told74_t3 X nw (by omega) (by omega) q
def sp_law (K : PySem.W.Frag) (c : RCl RK) (d : RCl PzK) (e : RCl DkK) : Sp := fun vs H Q _ => ∃ (a : Addr) (ns : List Int), vs = [.ref a] ∧ SqL K H a (ns.map V.int) ∧ ns.length ≤ 63 ∧ (∀ k, k ≠ .Rule → c.ok k = true) ∧ d.ok .Puzzle = true ∧ e.ok .Desk = true ∧ ∀ H', Q (.bl true) H'
def sp_law0 (K : PySem.W.Frag) : Sp := fun vs H Q _ => ∃ (a : Addr) (ns : List Int), vs = [.ref a] ∧ SqL K H a (ns.map V.int) ∧ ns.length ≤ 63 ∧ ∀ H', Q (.bl true) H'
theorem sl_law {K : PySem.W.Frag} {c : RCl RK} {d : RCl PzK} {e : RCl DkK} {vs : List V} {H : Hp} {Q : VK} {E : XK} (h : sp_law K c d e vs H Q E) : vs.length = 1 := by
  obtain ⟨_, _, rfl, _⟩ := h; rfl
def rd_law_t5 (K : PySem.W.Frag) (c : RCl RK) (d : RCl PzK) (e : RCl DkK) : TS :=
  (tSeq (tFor (iList K (tOp cAdd (tVar 3) (tVar 3))) (gName 7)
    (tSeq (tIfS (tNot (tB (tCall (sp__law_nobody K c d e) [] E0 (tCons (tVar 2) (tCons (tOp cAdd (tC (.str (tx [115, 104, 111, 119, 32]))) (tVar 7)) tNil))))) (tRet (tC (.bl false))) tNext)
    (tIfS (tB (tDNotIn (tVar 7) (tVar 4))) (tIfS (tNot (tB (tCall (sp__law_nobody K c d e) [] E0 (tCons (tVar 1) (tCons (tOp cAdd (tC (.str (tx [115, 104, 111, 119, 32]))) (tVar 7)) tNil))))) (tRet (tC (.bl false))) tNext) (tSeq (tAsg (tMethE e e.ok "say" (sp_say K c d e) E0 (tVar 1) (tCons (tOp cAdd (tC (.str (tx [115, 104, 111, 119, 32]))) (tVar 7)) tNil)) (gName 8))
    (tIfS (tOr (tNot (tB (tCB kIsi (tCons (tVar 8) (tCons (tC (.ty "str")) tNil))))) (tTest (tOp (cNe K) (tVar 8) (tDGet (tVar 4) (tVar 7))))) (tRet (tC (.bl false))) tNext)))))
    (tRet (tC (.bl true))))
def rd_law_t4 (K : PySem.W.Frag) (c : RCl RK) (d : RCl PzK) (e : RCl DkK) : TS :=
  (tSeq (tFor (iRng1 (tCons (tC (.int 10)) tNil)) (gName 5)
    (tSeq (tAsg (tOp cMod (tOp cMul (tOp cAdd (tCall (sp__law_cell_at74 K) [] E0 (tCons (tVar 0) (tCons (tOp cAdd (tC (.int 1)) (tVar 5)) tNil))) (tOp cMul (tOp cMul (tC (.int 11)) (tVar 5)) (tVar 5))) (tC (.int 69621))) (tC (.int 1000003))) (gName 6))
    (tIfS (tNot (tB (tCall (sp__law_told74 K c d e) [] E0 (tCons (tVar 1) (tCons (tVar 4) (tCons (tVar 3) (tCons (tVar 6) tNil))))))) (tRet (tC (.bl false))) tNext)))
    (rd_law_t5 K c d e))
def rd_law_t3 (K : PySem.W.Frag) (c : RCl RK) (d : RCl PzK) (e : RCl DkK) : TS :=
  (tSeq (tAsg tDNewK (gName 4))
    (rd_law_t4 K c d e))
def rd_law_t2 (K : PySem.W.Frag) (c : RCl RK) (d : RCl PzK) (e : RCl DkK) : TS :=
  (tSeq (tAsg (tCall (sp__law_names74 K) [] E0 (tCons (tVar 0) tNil)) (gName 3))
    (rd_law_t3 K c d e))
def rd_law_t1 (K : PySem.W.Frag) (c : RCl RK) (d : RCl PzK) (e : RCl DkK) : TS :=
  (tSeq (tAsg (tMake (e.A .Desk) (sp_Desk___init__ K c d e) [] E0 tNil) (gName 2))
    (rd_law_t2 K c d e))
def rd_law (K : PySem.W.Frag) (c : RCl RK) (d : RCl PzK) (e : RCl DkK) : TS :=
  (tSeq (tAsg (tMake (e.A .Desk) (sp_Desk___init__ K c d e) [] E0 tNil) (gName 1))
    (rd_law_t1 K c d e))
structure B74 (K : PySem.W.Frag) (H : Hp) (c : RCl RK) (d : RCl PzK) (e : RCl DkK) (a D kd O ko S N : Addr) (ns : List Int) (L : List En) (ws : List (List Nat)) : Prop where
  X : Dk2 H c d e D kd S L
  Y : IsDk H c d e O ko []
  n1 : ko ≠ kd
  n2 : ko ≠ S
  nl : H N = some (.lst ((ws.map tx).map V.str))
  w4 : ws.length = 4
  wo : ∀ w ∈ ws, NmOk w
  sc : SqL K H a (ns.map V.int)
theorem B74.same {K : PySem.W.Frag} {H H' : Hp} {c : RCl RK} {d : RCl PzK} {e : RCl DkK} {a D kd O ko S N : Addr} {ns : List Int} {L : List En} {ws : List (List Nat)} (x : B74 K H c d e a D kd O ko S N ns L ws) (s : Same H H') : B74 K H' c d e a D kd O ko S N ns L ws :=
  ⟨x.X.same s, x.Y.same s, x.n1, x.n2, s _ _ x.nl, x.w4, x.wo, s.seq x.sc⟩
theorem rk_law_t5 {K : PySem.W.Frag} {c : RCl RK} {d : RCl PzK} {e : RCl DkK} {H : Hp} {Q : VK} {a D kd O ko S N : Addr} {ns : List Int} {L : List En} {ws : List (List Nat)} {v0 v5 v6 : Option V} (B : B74 K H c d e a D kd O ko S N ns L ws) (q : ∀ H', Q (.bl true) H') :
    rd_law_t5 K c d e { nx := fun _ H' => Q .non H', rt := Q } [v0, some (.ref D), some (.ref O), some (.ref N), some (.ref S), v5, v6, none, none] H := by
  unfold rd_law_t5
  walk_at "w"
  refine w_addL B.nl B.nl (by have := B.w4; simp; omega) fun M hM => ?_
  have s1 : Same H (upd H M (.lst ((ws.map tx).map V.str ++ (ws.map tx).map V.str))) := (Same.refl H).laid hM
  have eM : (upd H M (.lst ((ws.map tx).map V.str ++ (ws.map tx).map V.str))) M = some (.lst (((ws ++ ws).map tx).map V.str)) := by rw [upd_same]; simp
  generalize upd H M (.lst ((ws.map tx).map V.str ++ (ws.map tx).map V.str)) = H1 at *
  have B1 := B.same s1
  refine ⟨M, rfl, ⟨_, SqL.of eM⟩, ?_⟩
  refine for_list (K := K) (xs := ((ws ++ ws).map tx).map V.str) (fun j σ H' => ∃ (v7 v8 : Option V), σ = [v0, some (.ref D), some (.ref O), some (.ref N), some (.ref S), v5, v6, v7, v8] ∧ Same H1 H') ⟨_, _, rfl, Same.refl H1⟩ (fun j σ' H' _ ⟨_, _, _, s⟩ => SqL.of (s _ _ eM)) ?_ ?_
  · rintro j x σ H2 hx ⟨v7, v8, rfl, s2⟩
    have B2 := B1.same s2
    obtain ⟨w, hw, rfl⟩ : ∃ w, w ∈ ws ++ ws ∧ x = V.str (tx w) := by
      rw [List.getElem?_map, List.getElem?_map] at hx
      cases ew : (ws ++ ws)[j]? with
      | none => rw [ew] at hx; cases hx
      | some w => rw [ew] at hx; cases hx; exact ⟨w, List.mem_of_getElem? ew, rfl⟩
    have nw : NmOk w := by
      rcases List.mem_append.mp hw with hw | hw <;> exact B.wo w hw
    have nl := nw.2.1
    walk_at "w"
    rw [w_if]
    walk_at "w"
    rw [tx_app]
    refine ⟨by rw [tx_len, tx_len]; exact len_le (by simp; omega), ?_⟩
    refine ⟨O, ko, [], w, shoC, rfl, .inr rfl, B2.Y, nw, rfl, fun H3 s3 => ⟨true, rfl, iteF ?_⟩⟩
    have B3 := B2.same s3
    rw [w_if]
    walk_at "w"
    refine st_notin B3.X rfl rfl ⟨_, rfl, ?_⟩
    cases hx : lookE L w with
    | none =>
      refine iteT ?_
      rw [w_if]
      walk_at "w"
      rw [tx_app]
      refine ⟨by rw [tx_len, tx_len]; exact len_le (by simp; omega), ?_⟩
      exact ⟨D, kd, L, w, shoC, rfl, .inr rfl, B3.X.X, nw, hx, fun H4 s4 => ⟨true, rfl, iteF ⟨_, _, rfl, s2.trans (s3.trans s4)⟩⟩⟩
    | some x =>
      refine iteF ?_
      obtain ⟨dx, h1⟩ := B3.X.X.ex
      walk_at "w"
      refine ⟨D, .Desk, dx, _, rfl, B3.X.X.ok, h1, by rfl, ?_⟩
      rw [tx_app]
      refine ⟨by rw [tx_len, tx_len]; exact len_le (by simp; omega), ?_⟩
      refine ⟨D, kd, L, w, B3.X.X, nw, .inr (.inr ⟨rfl, (fun z => by rw [hx] at z; cases z), fun x' hx' H4 s4 => ?_⟩)⟩
      rw [hx] at hx'
      cases hx'
      have B4 := B3.same s4
      rw [w_if]
      walk_at "w"
      refine st_at B4.X hx rfl rfl ?_
      walk_at "w"
      exact ⟨_, _, rfl, s2.trans (s3.trans s4)⟩
  · rintro σ H2 ⟨v7, v8, rfl, s2⟩
    walk_at "w"
    exact q H2
theorem mk_dk {H : Hp} {c : RCl RK} {d : RCl PzK} {e : RCl DkK} {D dx kd : Addr} (ok : e.ok .Desk = true) (hD : H D = none) (hx : H dx = none) (ne : dx ≠ D) (hk : (upd (upd H dx (.own D)) D (.ins (e.A .Desk) dx [])) kd = none) :
    Same H (upd (upd (upd (upd H dx (.own D)) D (.ins (e.A .Desk) dx [])) kd (.dK [])) D (.ins (e.A .Desk) dx [("kept", .ref kd)])) ∧ IsDk (upd (upd (upd (upd H dx (.own D)) D (.ins (e.A .Desk) dx [])) kd (.dK [])) D (.ins (e.A .Desk) dx [("kept", .ref kd)])) c d e D kd [] ∧ H kd = none := by
  have nD : kd ≠ D := fun z => by rw [z, upd_same] at hk; cases hk
  have nx : kd ≠ dx := fun z => by rw [z, upd_ne ne, upd_same] at hk; cases hk
  have hk0 : H kd = none := by rw [upd_ne nD, upd_ne nx] at hk; exact hk
  refine ⟨fun b o eb => ?_, ⟨ok, ⟨dx, upd_same⟩, ?_, fun y hy => (nomatch hy), by simp⟩, hk0⟩
  · have b1 : b ≠ D := fun z => by rw [z, hD] at eb; cases eb
    have b2 : b ≠ dx := fun z => by rw [z, hx] at eb; cases eb
    have b3 : b ≠ kd := fun z => by rw [z, hk0] at eb; cases eb
    rw [upd_ne b1, upd_ne b3, upd_ne b1, upd_ne b2]
    exact eb
  · rw [upd_ne nD, upd_same]; rfl
theorem seq_fr {K : PySem.W.Frag} {H H' : Hp} {a kd S : Addr} {xs : List V} {k1 k2 : List (Key × V)} (x : SqL K H a xs) (h1 : H kd = some (.dK k1)) (h2 : H S = some (.dK k2)) (f : Fr2 H H' kd S) : SqL K H' a xs := by
  rcases x with (x | ⟨o, x⟩) | x
  · exact .inl (.inl (f _ _ x (fun z => by rw [z, h1] at x; cases x) (fun z => by rw [z, h2] at x; cases x)))
  · exact .inl (.inr ⟨o, f _ _ x (fun z => by rw [z, h1] at x; cases x) (fun z => by rw [z, h2] at x; cases x)⟩)
  · exact .inr x
theorem rk_law_t4 {K : PySem.W.Frag} {c : RCl RK} {d : RCl PzK} {e : RCl DkK} {H : Hp} {Q : VK} {a D kd O ko S N : Addr} {ns : List Int} {ws : List (List Nat)} (B : B74 K H c d e a D kd O ko S N ns [] ws) (hn : ns.length ≤ 63) (hc : ∀ k, k ≠ .Rule → c.ok k = true) (ok : d.ok .Puzzle = true) (q : ∀ H', Q (.bl true) H') :
    rd_law_t4 K c d e { nx := fun _ H' => Q .non H', rt := Q } [some (.ref a), some (.ref D), some (.ref O), some (.ref N), some (.ref S), none, none, none, none] H := by
  unfold rd_law_t4
  generalize hV5 : rd_law_t5 K c d e = V5
  walk_at "w"
  refine ⟨10, rfl, by decide, by decide, ?_⟩
  refine for_range (fun i σ H' => ∃ (L : List En) (v5 v6 : Option V), σ = [some (.ref a), some (.ref D), some (.ref O), some (.ref N), some (.ref S), v5, v6, none, none] ∧ B74 K H' c d e a D kd O ko S N ns L ws ∧ L.length ≤ i) ⟨[], _, _, rfl, B, by simp⟩ ?_ ?_
  · rintro i σ H1 hi ⟨L, v5, v6, rfl, B1, ll⟩
    have hi' : i < 10 := hi
    rw [Int.zero_add]
    walk_at "w"
    refine ⟨a, ns, _, rfl, B1.sc, hn, by omega, fun y => ?_⟩
    walk_at "w"
    refine ⟨.inl ⟨by decide, by decide⟩, .inl ⟨by omega, by omega⟩, .inr ⟨by decide, by decide⟩, by decide, ?_⟩
    rw [w_if]
    walk_at "w"
    refine ⟨D, kd, S, N, L, ws, _, rfl, B1.X, by omega, B1.nl, B1.w4, B1.wo, hc, ok, fun L' H2 f2 X2 l2 => ⟨true, rfl, iteF ?_⟩⟩
    have Y2 : IsDk H2 c d e O ko [] := by
      obtain ⟨dx, h1⟩ := B1.Y.ex
      refine ⟨B1.Y.ok, ⟨dx, f2 _ _ h1 (fun z => by rw [z, B1.X.X.kd] at h1; cases h1) (fun z => by rw [z, B1.X.st] at h1; cases h1)⟩, f2 _ _ B1.Y.kd B1.n1 B1.n2, fun y hy => (nomatch hy), by simp⟩
    refine ⟨L', _, _, rfl, ⟨X2, Y2, B1.n1, B1.n2, f2 _ _ B1.nl (fun z => by have := B1.nl; rw [z, B1.X.X.kd] at this; cases this) (fun z => by have := B1.nl; rw [z, B1.X.st] at this; cases this), B1.w4, B1.wo, ?_⟩, by omega⟩
    exact seq_fr B1.sc B1.X.X.kd B1.X.st f2
  · rintro σ H1 ⟨L, v5, v6, rfl, B1, ll⟩
    subst hV5
    exact rk_law_t5 B1 q
theorem rk_law {K : PySem.W.Frag} {c : RCl RK} {d : RCl PzK} {e : RCl DkK} {vs : List V} {H : Hp} {Q : VK} {E : XK} (h : sp_law K c d e vs H Q E) : rd_law K c d e { nx := fun _ H' => Q .non H', rt := Q } (start ["_law_script", "_law_desk", "_law_other", "_law_names_here", "_law_stood", "_law_k", "_law_cell", "_law_name", "_law_found"] vs) H := by
  obtain ⟨a, ns, rfl, hS, hn, hc, ok, ok2, q⟩ := h
  show rd_law K c d e _ [some (.ref a), none, none, none, none, none, none, none, none] H
  unfold rd_law
  generalize hV1 : rd_law_t1 K c d e = V1
  walk_at "w"
  intro D dx hD hx ne
  refine ⟨D, dx, rfl, ok2, upd_same, fun kd hk => ⟨rfl, ?_⟩⟩
  obtain ⟨s1, X1, k0⟩ := mk_dk (c := c) (d := d) ok2 hD hx ne hk
  generalize upd (upd (upd (upd H dx (.own D)) D (.ins (e.A .Desk) dx [])) kd (.dK [])) D (.ins (e.A .Desk) dx [("kept", .ref kd)]) = H1 at *
  subst hV1
  unfold rd_law_t1
  generalize hV2 : rd_law_t2 K c d e = V2
  walk_at "w"
  intro O dy hO hy neO
  refine ⟨O, dy, rfl, ok2, upd_same, fun ko hko => ⟨rfl, ?_⟩⟩
  obtain ⟨s2, X2, k2⟩ := mk_dk (c := c) (d := d) ok2 hO hy neO hko
  generalize upd (upd (upd (upd H1 dy (.own O)) O (.ins (e.A .Desk) dy [])) ko (.dK [])) O (.ins (e.A .Desk) dy [("kept", .ref ko)]) = H2 at *
  have n1 : ko ≠ kd := fun z => by rw [z, X1.kd] at k2; cases k2
  subst hV2
  unfold rd_law_t2
  generalize hV3 : rd_law_t3 K c d e = V3
  walk_at "w"
  refine ⟨a, ns, rfl, (s1.trans s2).seq hS, hn, fun N ws H3 s3 hN w4 wo eN => ?_⟩
  subst hV3
  unfold rd_law_t3
  generalize hV4 : rd_law_t4 K c d e = V4
  walk_at "w"
  intro S hSn
  have s4 : Same H3 (upd H3 S (.dK [])) := (Same.refl H3).laid hSn
  have eS : (upd H3 S (.dK [])) S = some (.dK []) := upd_same
  generalize upd H3 S (.dK []) = H4 at *
  subst hV4
  have X3 := X1.same (s2.trans s3)
  have Y3 := X2.same s3
  have nS : ∀ b o, H3 b = some o → b ≠ S := fun b o eb z => by rw [z, hSn] at eb; cases eb
  exact rk_law_t4 ⟨⟨X3.same s4, eS, nS _ _ X3.kd⟩, Y3.same s4, n1, nS _ _ Y3.kd, s4 _ _ eN, w4, wo, (s1.trans (s2.trans (s3.trans s4))).seq hS⟩ hn hc ok q
end L2
set_option Elab.async false
set_option linter.all false
set_option maxRecDepth 100000
namespace L2
open PySem PySem.Spec PyProof.Rows
end L2
set_option Elab.async false
set_option linter.all false
set_option maxRecDepth 100000
namespace L2
open PySem PySem.Spec PyProof.Rows
end L2
set_option Elab.async false
set_option linter.all false
set_option maxRecDepth 100000
namespace L2
open PySem PySem.Spec PyProof.Rows
end L2
set_option Elab.async false
set_option linter.all false
set_option maxRecDepth 100000
namespace L2
open PySem PySem.Spec PyProof.Rows
structure ErrMx (mg : Str → Option Value) (a : EA) : Prop where
  ClueError : mg "ClueError" = some (.ref a.ClueError)
  NoName : mg "NoName" = some (.ref a.NoName)
def top (i : Nat) : Stmt := PySem.Challenge.pw_cluemaker_k74_a_desk_keeps_puzzles.main.body.getD i (.Pass ⟨0, 0, 0, 0⟩)
def mtop (i j : Nat) : Stmt := match top i with
  | .ClassDef _ _ _ body _ _ _ _ _ _ _ => body.getD j (.Pass ⟨0, 0, 0, 0⟩)
  | s => s
abbrev s_is_whole : Stmt := top 17
theorem sc_is_whole : FnScope ["value"] ["value"] (defScope s_is_whole) := ⟨rfl, rfl, rfl, by decide +kernel, rfl, by decide +kernel, by decide +kernel⟩
set_option maxHeartbeats 4000000 in
theorem fn_is_whole {P : Program} {w : World} {K : PySem.W.Frag} {mg : Str → Option Value} {base : Heap} (B : Bt2 mg)  {f : Addr} {fd : FuncData} (F : Fun K "is_whole" "is_whole" s_is_whole f fd) : FnOk P w K mg base CX0 1 f fd ["value"] (sp_is_whole K) := by
  refine F.ok sc_is_whole (fun vs H Q E h => sl_is_whole h) (fun cdv A outer s H vs Q E hr h => ?_)
  have hu := hr.units
  have nd := sc_is_whole.nd
  refine ⟨rd_is_whole K, ?_, rk_is_whole h⟩
  exact (pss_one (ps_ret (pe_and (pe_callB call_kIsi rfl B.isinstance_ bt_isinstance (pa_cons (pv 0) (pa_cons (pe_bltn (v := .ty "int") rfl B.int_ bt_int rfl) pa_nil))) (pe_one (pe_not (pe_callB call_kIsi rfl B.isinstance_ bt_isinstance (pa_cons (pv 0) (pa_cons (pe_bltn (v := .ty "bool") rfl B.bool_ bt_bool rfl) pa_nil))))))))
abbrev s_many_cells : Stmt := top 20
theorem sc_many_cells : FnScope ["floor"] ["floor"] (defScope s_many_cells) := ⟨rfl, rfl, rfl, by decide +kernel, rfl, by decide +kernel, by decide +kernel⟩
set_option maxHeartbeats 4000000 in
theorem fn_many_cells {P : Program} {w : World} {K : PySem.W.Frag} {mg : Str → Option Value} {base : Heap} (B : Bt2 mg)  {f : Addr} {fd : FuncData} (F : Fun K "many_cells" "many_cells" s_many_cells f fd) : FnOk P w K mg base CX0 1 f fd ["floor"] (sp_many_cells K) := by
  refine F.ok sc_many_cells (fun vs H Q E h => sl_many_cells h) (fun cdv A outer s H vs Q E hr h => ?_)
  have hu := hr.units
  have nd := sc_many_cells.nd
  refine ⟨rd_many_cells K, ?_, rk_many_cells h⟩
  exact (pss_one (ps_ret (pe_op op_cMul (pe_ix (ix_c hu) (pv 0) pe_int (fun _ _ => rfl)) (pe_ix (ix_c hu) (pv 0) pe_int (fun _ _ => rfl)))))
abbrev s_Rule___init__ : Stmt := mtop 29 0
theorem sc_Rule___init__ : FnScope ["self", "floor", "words", "cells", "amount", "mark"] ["self", "floor", "words", "cells", "amount", "mark"] (defScope s_Rule___init__) := ⟨rfl, rfl, rfl, by decide +kernel, rfl, by decide +kernel, by decide +kernel⟩
set_option maxHeartbeats 4000000 in
theorem fn_Rule___init__ {P : Program} {w : World} {K : PySem.W.Frag} {mg : Str → Option Value} {base : Heap} (B : Bt2 mg) {c : RCl RK}  (FK_c_amount : FldK K c "amount") (FK_c_cells : FldK K c "cells") (FK_c_floor : FldK K c "floor") (FK_c_mark : FldK K c "mark") (FK_c_words : FldK K c "words") {f : Addr} {fd : FuncData} (F : Fun K "__init__" "Rule.__init__" s_Rule___init__ f fd) : FnOk P w K mg base CX0 1 f fd ["self", "floor", "words", "cells", "amount", "mark"] (sp_Rule___init__ K c) := by
  refine F.ok sc_Rule___init__ (fun vs H Q E h => sl_Rule___init__ h) (fun cdv A outer s H vs Q E hr h => ?_)
  have hu := hr.units
  have nd := sc_Rule___init__.nd
  refine ⟨rd_Rule___init__ K c, ?_, rk_Rule___init__ h⟩
  exact (pss_cons (ps_fldK (pv 0) (pv 1) FK_c_floor)
      (pss_cons (ps_fldK (pv 0) (pe_callTy call_kTuple rfl B.tuple_ bt_tuple (pa_cons (pv 2) pa_nil)) FK_c_words)
      (pss_cons (ps_fldK (pv 0) (pe_callTy call_kTuple rfl B.tuple_ bt_tuple (pa_cons (pv 3) pa_nil)) FK_c_cells)
      (pss_cons (ps_fldK (pv 0) (pv 4) FK_c_amount)
      (pss_one (ps_fldK (pv 0) (pv 5) FK_c_mark))))))
abbrev s_Rule_line : Stmt := mtop 29 5
theorem sc_Rule_line : FnScope ["self"] ["self"] (defScope s_Rule_line) := ⟨rfl, rfl, rfl, by decide +kernel, rfl, by decide +kernel, by decide +kernel⟩
set_option maxHeartbeats 4000000 in
theorem fn_Rule_line {P : Program} {w : World} {K : PySem.W.Frag} {mg : Str → Option Value} {base : Heap} (B : Bt2 mg) {c : RCl RK}  (FK_c_words : FldK K c "words") {f : Addr} {fd : FuncData} (F : Fun K "line" "Rule.line" s_Rule_line f fd) : FnOk P w K mg base CX0 1 f fd ["self"] (sp_Rule_line K c) := by
  refine F.ok sc_Rule_line (fun vs H Q E h => sl_Rule_line h) (fun cdv A outer s H vs Q E hr h => ?_)
  have hu := hr.units
  have nd := sc_Rule_line.nd
  refine ⟨rd_Rule_line K c, ?_, rk_Rule_line h⟩
  exact (pss_one (ps_ret (pe_bm PySem.F.plainAttrs_str PySem.F.slot_str_join PySem.F.type_str_join mt_kJoin2 pe_str (pa_cons (pe_fldK (pv 0) FK_c_words) pa_nil))))
abbrev s_number_in : Stmt := top 46
theorem sc_number_in : FnScope ["word"] ["word"] (defScope s_number_in) := ⟨rfl, rfl, rfl, by decide +kernel, rfl, by decide +kernel, by decide +kernel⟩
set_option maxHeartbeats 4000000 in
theorem fn_number_in {P : Program} {w : World} {K : PySem.W.Frag} {mg : Str → Option Value} {base : Heap} (B : Bt2 mg)  {t_FIGURES_rows : Tok} (C_FIGURES_rows : mg "FIGURES_rows" = some (.str (tx [48, 49, 50, 51, 52, 53, 54, 55, 56, 57]) t_FIGURES_rows)) {t_MOST_FIGURES : Tok} (C_MOST_FIGURES : mg "MOST_FIGURES" = some (.int 9 t_MOST_FIGURES)) {f : Addr} {fd : FuncData} (F : Fun K "number_in" "number_in" s_number_in f fd) : FnOk P w K mg base CX0 1 f fd ["word"] (sp_number_in K) := by
  refine F.ok sc_number_in (fun vs H Q E h => sl_number_in h) (fun cdv A outer s H vs Q E hr h => ?_)
  have hu := hr.units
  have nd := sc_number_in.nd
  refine ⟨rd_number_in K, ?_, rk_number_in h⟩
  exact (pss_cons (ps_if (PW.pt (pw_or (pt_cmpR (op_cEq hu) (pv 0) pe_str (nomark _)) (pw_or (pt_cmpR op_cGt (pe_callB call_kLen rfl B.len_ bt_len (pa_cons (pv 0) pa_nil)) (pe_glob rfl C_MOST_FIGURES ⟨t_MOST_FIGURES, rfl⟩) (nomark _)) (pw_or1 (PW.pt (pw_and (pt_cmpR (op_cEq hu) (pe_ix (ix_c hu) (pv 0) pe_int (fun _ _ => rfl)) pe_str (nomark _)) (pw_and1 (pt_cmpR (op_cNe hu) (pv 0) pe_str (nomark _))))))))) (pss_one (ps_ret pe_non)) pss_nil)
      (pss_cons (ps_if (pt_not (pt_val (pe_callB (call_kAll rfl) rfl B.all_ bt_all (pa_cons (pe_comp (ix := [none, none]) [".0", "figure"] (blk_ok2 rfl (by decide +kernel) rfl rfl rfl) rfl (pi_str (pv 0)) (fun cl s H fp => (pg_name (i := 1) (show ([".0", "figure"] : List Str).Nodup by decide +kernel) rfl (Or.inl rfl))) (fun cl s H fp => pts_nil) (fun cl s H fp => (pe_cmpR (op_cIn hu) (pv 1) (pe_glob rfl C_FIGURES_rows ⟨t_FIGURES_rows, rfl⟩) (by with_unfolding_all rfl)))) pa_nil)))) (pss_one (ps_ret pe_non)) pss_nil)
      (pss_one (ps_ret (pe_callTy call_kInt2 rfl B.int_ bt_int (pa_cons (pv 0) pa_nil))))))
abbrev s_Puzzle_place : Stmt := mtop 60 1
theorem sc_Puzzle_place : FnScope ["self"] ["self"] (defScope s_Puzzle_place) := ⟨rfl, rfl, rfl, by decide +kernel, rfl, by decide +kernel, by decide +kernel⟩
set_option maxHeartbeats 4000000 in
theorem fn_Puzzle_place {P : Program} {w : World} {K : PySem.W.Frag} {mg : Str → Option Value} {base : Heap} (B : Bt2 mg) {c : RCl RK} {d : RCl PzK}  (FK_d_floor : FldK K d "floor") {f : Addr} {fd : FuncData} (F : Fun K "place" "Puzzle.place" s_Puzzle_place f fd) : FnOk P w K mg base CX0 1 f fd ["self"] (sp_Puzzle_place K c d) := by
  refine F.ok sc_Puzzle_place (fun vs H Q E h => sl_Puzzle_place h) (fun cdv A outer s H vs Q E hr h => ?_)
  have hu := hr.units
  have nd := sc_Puzzle_place.nd
  refine ⟨rd_Puzzle_place K c d, ?_, rk_Puzzle_place h⟩
  exact (pss_one (ps_ret (pe_fldK (pv 0) FK_d_floor)))
abbrev s_Puzzle_clues : Stmt := mtop 60 3
theorem sc_Puzzle_clues : FnScope ["self"] ["self"] (defScope s_Puzzle_clues) := ⟨rfl, rfl, rfl, by decide +kernel, rfl, by decide +kernel, by decide +kernel⟩
set_option maxHeartbeats 4000000 in
theorem fn_Puzzle_clues {P : Program} {w : World} {K : PySem.W.Frag} {mg : Str → Option Value} {base : Heap} (B : Bt2 mg) {c : RCl RK} {d : RCl PzK}  (FK_d_given : FldK K d "given") {f : Addr} {fd : FuncData} (F : Fun K "clues" "Puzzle.clues" s_Puzzle_clues f fd) : FnOk P w K mg base CX0 1 f fd ["self"] (sp_Puzzle_clues K c d) := by
  refine F.ok sc_Puzzle_clues (fun vs H Q E h => sl_Puzzle_clues h) (fun cdv A outer s H vs Q E hr h => ?_)
  have hu := hr.units
  have nd := sc_Puzzle_clues.nd
  refine ⟨rd_Puzzle_clues K c d, ?_, rk_Puzzle_clues h⟩
  exact (pss_one (ps_ret (pe_callTy call_kList rfl B.list_ bt_list (pa_cons (pe_fldK (pv 0) FK_d_given) pa_nil))))
abbrev s_show_row : Stmt := top 166
theorem sc_show_row : FnScope ["signs"] ["signs"] (defScope s_show_row) := ⟨rfl, rfl, rfl, by decide +kernel, rfl, by decide +kernel, by decide +kernel⟩
set_option maxHeartbeats 4000000 in
theorem fn_show_row {P : Program} {w : World} {K : PySem.W.Frag} {mg : Str → Option Value} {base : Heap} (B : Bt2 mg)  {t_FIGURES_fillings : Tok} (C_FIGURES_fillings : mg "FIGURES_fillings" = some (.str (tx [46, 49, 50, 51, 52, 53, 54]) t_FIGURES_fillings)) {f : Addr} {fd : FuncData} (F : Fun K "show_row" "show_row" s_show_row f fd) : FnOk P w K mg base CX0 1 f fd ["signs"] (sp_show_row K) := by
  refine F.ok sc_show_row (fun vs H Q E h => sl_show_row h) (fun cdv A outer s H vs Q E hr h => ?_)
  have hu := hr.units
  have nd := sc_show_row.nd
  refine ⟨rd_show_row K, ?_, rk_show_row h⟩
  exact (pss_one (ps_ret (pe_bm PySem.F.plainAttrs_str PySem.F.slot_str_join PySem.F.type_str_join mt_kJoin pe_str (pa_cons (pe_comp (ix := [none, none]) [".0", "sign"] (blk_ok2 rfl (by decide +kernel) rfl rfl rfl) rfl (pi_list (pv 0)) (fun cl s H fp => (pg_name (i := 1) (show ([".0", "sign"] : List Str).Nodup by decide +kernel) rfl (Or.inl rfl))) (fun cl s H fp => pts_nil) (fun cl s H fp => (pe_ix (ix_c hu) (pe_glob rfl C_FIGURES_fillings ⟨t_FIGURES_fillings, rfl⟩) (pv 1) (fun _ _ => rfl)))) pa_nil))))
abbrev s_read_figure : Stmt := top 168
theorem sc_read_figure : FnScope ["floor", "figure", "sign"] ["floor", "figure"] (defScope s_read_figure) := ⟨rfl, rfl, rfl, by decide +kernel, rfl, by decide +kernel, by decide +kernel⟩
set_option maxHeartbeats 4000000 in
theorem fn_read_figure {P : Program} {w : World} {K : PySem.W.Frag} {mg : Str → Option Value} {base : Heap} (B : Bt2 mg)  {t_FIGURES_fillings : Tok} (C_FIGURES_fillings : mg "FIGURES_fillings" = some (.str (tx [46, 49, 50, 51, 52, 53, 54]) t_FIGURES_fillings)) {f : Addr} {fd : FuncData} (F : Fun K "read_figure" "read_figure" s_read_figure f fd) : FnOk P w K mg base CX0 1 f fd ["floor", "figure"] (sp_read_figure K) := by
  refine F.ok sc_read_figure (fun vs H Q E h => sl_read_figure h) (fun cdv A outer s H vs Q E hr h => ?_)
  have hu := hr.units
  have nd := sc_read_figure.nd
  refine ⟨rd_read_figure K, ?_, rk_read_figure h⟩
  exact (pss_cons (ps_set (i := 2) nd rfl (Or.inl rfl) (pe_bm PySem.F.plainAttrs_str PySem.F.slot_str_find PySem.F.type_str_find mt_kFind (pe_glob rfl C_FIGURES_fillings ⟨t_FIGURES_fillings, rfl⟩) (pa_cons (pv 1) pa_nil)))
      (pss_cons (ps_if (PW.pt (pw_or (pt_cmpR op_cLt (pv 2) pe_int (nomark _)) (pw_or1 (pt_cmpR op_cGt (pv 2) (pe_ix (ix_c hu) (pv 0) pe_int (fun _ _ => rfl)) (nomark _))))) (pss_one ps_never) pss_nil)
      (pss_one (ps_ret (pv 2)))))
abbrev s_show_numbers : Stmt := top 217
theorem sc_show_numbers : FnScope ["numbers"] ["numbers"] (defScope s_show_numbers) := ⟨rfl, rfl, rfl, by decide +kernel, rfl, by decide +kernel, by decide +kernel⟩
set_option maxHeartbeats 4000000 in
theorem fn_show_numbers {P : Program} {w : World} {K : PySem.W.Frag} {mg : Str → Option Value} {base : Heap} (B : Bt2 mg)  {f : Addr} {fd : FuncData} (F : Fun K "show_numbers" "show_numbers" s_show_numbers f fd) : FnOk P w K mg base CX0 1 f fd ["numbers"] (sp_show_numbers K) := by
  refine F.ok sc_show_numbers (fun vs H Q E h => sl_show_numbers h) (fun cdv A outer s H vs Q E hr h => ?_)
  have hu := hr.units
  have nd := sc_show_numbers.nd
  refine ⟨rd_show_numbers K, ?_, rk_show_numbers h⟩
  exact (pss_one (ps_ret (pe_bm PySem.F.plainAttrs_str PySem.F.slot_str_join PySem.F.type_str_join mt_kJoin2 pe_str (pa_cons (pe_comp (ix := [none, none]) [".0", "number"] (blk_ok2 rfl (by decide +kernel) rfl rfl rfl) rfl (pi_tup (pv 0)) (fun cl s H fp => (pg_name (i := 1) (show ([".0", "number"] : List Str).Nodup by decide +kernel) rfl (Or.inl rfl))) (fun cl s H fp => pts_nil) (fun cl s H fp => (pe_callTy call_kStr rfl B.str_ bt_str (pa_cons (pv 1) pa_nil)))) pa_nil))))
abbrev s_refuse_no_text : Stmt := top 219
theorem sc_refuse_no_text : FnScope ["text"] ["text"] (defScope s_refuse_no_text) := ⟨rfl, rfl, rfl, by decide +kernel, rfl, by decide +kernel, by decide +kernel⟩
set_option maxHeartbeats 4000000 in
theorem fn_refuse_no_text {P : Program} {w : World} {K : PySem.W.Frag} {mg : Str → Option Value} {base : Heap} (B : Bt2 mg)  {f : Addr} {fd : FuncData} (F : Fun K "refuse_no_text" "refuse_no_text" s_refuse_no_text f fd) : FnOk P w K mg base CX0 1 f fd ["text"] (sp_refuse_no_text K) := by
  refine F.ok sc_refuse_no_text (fun vs H Q E h => sl_refuse_no_text h) (fun cdv A outer s H vs Q E hr h => ?_)
  have hu := hr.units
  have nd := sc_refuse_no_text.nd
  refine ⟨rd_refuse_no_text K, ?_, rk_refuse_no_text h⟩
  exact (pss_one (ps_if (pt_not (pt_val (pe_callB call_kIsi rfl B.isinstance_ bt_isinstance (pa_cons (pv 0) (pa_cons (pe_bltn (v := .ty "str") rfl B.str_ bt_str rfl) pa_nil))))) (pss_one ps_never) pss_nil))
abbrev s_words_of : Stmt := top 237
theorem sc_words_of : FnScope ["row", "words"] ["row"] (defScope s_words_of) := ⟨rfl, rfl, rfl, by decide +kernel, rfl, by decide +kernel, by decide +kernel⟩
set_option maxHeartbeats 4000000 in
theorem fn_words_of {P : Program} {w : World} {K : PySem.W.Frag} {mg : Str → Option Value} {base : Heap} (B : Bt2 mg)  (G_WITH_NAME : GTup K mg "WITH_NAME" gt_WITH_NAME) (G_WITH_TEXT : GTup K mg "WITH_TEXT" gt_WITH_TEXT) (G_WITH_TWO_NAMES : GTup K mg "WITH_TWO_NAMES" gt_WITH_TWO_NAMES) {f : Addr} {fd : FuncData} (F : Fun K "words_of" "words_of" s_words_of f fd) : FnOk P w K mg base CX0 1 f fd ["row"] (sp_words_of K) := by
  refine F.ok sc_words_of (fun vs H Q E h => sl_words_of h) (fun cdv A outer s H vs Q E hr h => ?_)
  have hu := hr.units
  have nd := sc_words_of.nd
  refine ⟨rd_words_of K, ?_, rk_words_of h⟩
  exact (pss_cons (ps_if (pt_not (pt_val (pe_callB call_kIsi rfl B.isinstance_ bt_isinstance (pa_cons (pv 0) (pa_cons (pe_bltn (v := .ty "str") rfl B.str_ bt_str rfl) pa_nil))))) (pss_one ps_never) pss_nil)
      (pss_cons (ps_set (i := 1) nd rfl (Or.inl rfl) (pe_bm PySem.F.plainAttrs_str PySem.F.slot_str_split PySem.F.type_str_split mt_kSplit (pv 0) (pa_cons pe_str pa_nil)))
      (pss_cons (ps_if (PW.pt (pw_and (pt_inG G_WITH_TEXT (pe_ix (ix_c hu) (pv 1) pe_int (fun _ _ => rfl)) rfl) (pw_and1 (pt_cmpR op_cGe (pe_callB call_kLen rfl B.len_ bt_len (pa_cons (pv 1) pa_nil)) pe_int (nomark _))))) (pss_one (ps_ret (pe_lst (pa_cons (pe_ix (ix_c hu) (pv 1) pe_int (fun _ _ => rfl)) (pa_cons (pe_ix (ix_c hu) (pv 1) pe_int (fun _ _ => rfl)) (pa_cons (pe_bm PySem.F.plainAttrs_str PySem.F.slot_str_join PySem.F.type_str_join mt_kJoin2 pe_str (pa_cons (pe_slice sl_c2 (pv 1) (po_some pe_int) po_none) pa_nil)) pa_nil)))))) pss_nil)
      (pss_cons (ps_if (PW.pt (pw_and (pt_inG G_WITH_NAME (pe_ix (ix_c hu) (pv 1) pe_int (fun _ _ => rfl)) rfl) (pw_and1 (pt_cmpR (op_cEq hu) (pe_callB call_kLen rfl B.len_ bt_len (pa_cons (pv 1) pa_nil)) pe_int (nomark _))))) (pss_one (ps_ret (pv 1))) pss_nil)
      (pss_cons (ps_if (PW.pt (pw_and (pt_inG G_WITH_TWO_NAMES (pe_ix (ix_c hu) (pv 1) pe_int (fun _ _ => rfl)) rfl) (pw_and1 (pt_cmpR (op_cEq hu) (pe_callB call_kLen rfl B.len_ bt_len (pa_cons (pv 1) pa_nil)) pe_int (nomark _))))) (pss_one (ps_ret (pv 1))) pss_nil)
      (pss_one ps_never))))))
abbrev s_is_name : Stmt := top 238
theorem sc_is_name : FnScope ["word"] ["word"] (defScope s_is_name) := ⟨rfl, rfl, rfl, by decide +kernel, rfl, by decide +kernel, by decide +kernel⟩
set_option maxHeartbeats 4000000 in
theorem fn_is_name {P : Program} {w : World} {K : PySem.W.Frag} {mg : Str → Option Value} {base : Heap} (B : Bt2 mg)  {t_LETTERS : Tok} (C_LETTERS : mg "LETTERS" = some (.str (tx [97, 98, 99, 100, 101, 102, 103, 104, 105, 106, 107, 108, 109, 110, 111, 112, 113, 114, 115, 116, 117, 118, 119, 120, 121, 122]) t_LETTERS)) {t_MOST_LETTERS : Tok} (C_MOST_LETTERS : mg "MOST_LETTERS" = some (.int 8 t_MOST_LETTERS)) {f : Addr} {fd : FuncData} (F : Fun K "is_name" "is_name" s_is_name f fd) : FnOk P w K mg base CX0 1 f fd ["word"] (sp_is_name K) := by
  refine F.ok sc_is_name (fun vs H Q E h => sl_is_name h) (fun cdv A outer s H vs Q E hr h => ?_)
  have hu := hr.units
  have nd := sc_is_name.nd
  refine ⟨rd_is_name K, ?_, rk_is_name h⟩
  exact (pss_one (ps_ret (pe_and (pe_cmpR op_cLe pe_int (pe_callB call_kLen rfl B.len_ bt_len (pa_cons (pv 0) pa_nil)) (nomark _)) (pe_and (pe_cmpR op_cLe (pe_callB call_kLen rfl B.len_ bt_len (pa_cons (pv 0) pa_nil)) (pe_glob rfl C_MOST_LETTERS ⟨t_MOST_LETTERS, rfl⟩) (nomark _)) (pe_one (pe_callB (call_kAll rfl) rfl B.all_ bt_all (pa_cons (pe_comp (ix := [none, none]) [".0", "letter"] (blk_ok2 rfl (by decide +kernel) rfl rfl rfl) rfl (pi_str (pv 0)) (fun cl s H fp => (pg_name (i := 1) (show ([".0", "letter"] : List Str).Nodup by decide +kernel) rfl (Or.inl rfl))) (fun cl s H fp => pts_nil) (fun cl s H fp => (pe_cmpR (op_cIn hu) (pv 1) (pe_glob rfl C_LETTERS ⟨t_LETTERS, rfl⟩) (by with_unfolding_all rfl)))) pa_nil)))))))
abbrev s_Desk___init__ : Stmt := mtop 249 0
theorem sc_Desk___init__ : FnScope ["self"] ["self"] (defScope s_Desk___init__) := ⟨rfl, rfl, rfl, by decide +kernel, rfl, by decide +kernel, by decide +kernel⟩
set_option maxHeartbeats 4000000 in
theorem fn_Desk___init__ {P : Program} {w : World} {K : PySem.W.Frag} {mg : Str → Option Value} {base : Heap} (B : Bt2 mg) {c : RCl RK} {d : RCl PzK} {e : RCl DkK}  (FK_e_kept : FldK K e "kept") {f : Addr} {fd : FuncData} (F : Fun K "__init__" "Desk.__init__" s_Desk___init__ f fd) : FnOk P w K mg base CX0 1 f fd ["self"] (sp_Desk___init__ K c d e) := by
  refine F.ok sc_Desk___init__ (fun vs H Q E h => sl_Desk___init__ h) (fun cdv A outer s H vs Q E hr h => ?_)
  have hu := hr.units
  have nd := sc_Desk___init__.nd
  refine ⟨rd_Desk___init__ K c d e, ?_, rk_Desk___init__ h⟩
  exact (pss_one (ps_fldK (pv 0) pe_dnewK FK_e_kept))
abbrev s_Desk_named : Stmt := mtop 249 2
theorem sc_Desk_named : FnScope ["self", "name"] ["self", "name"] (defScope s_Desk_named) := ⟨rfl, rfl, rfl, by decide +kernel, rfl, by decide +kernel, by decide +kernel⟩
set_option maxHeartbeats 4000000 in
theorem fn_Desk_named {P : Program} {w : World} {K : PySem.W.Frag} {mg : Str → Option Value} {base : Heap} (B : Bt2 mg) {c : RCl RK} {d : RCl PzK} {e : RCl DkK}  (FK_e_kept : FldK K e "kept") {a : EA} (EM : ErrMx mg a) (R_NoName : Ref1 K a "NoName" a.NoName (os74 a)) {f : Addr} {fd : FuncData} (F : Fun K "named" "Desk.named" s_Desk_named f fd) : FnOk P w K mg base (CX1 P w) 1 f fd ["self", "name"] (sp_Desk_named K c d e) := by
  refine F.ok1 sc_Desk_named (fun vs H Q E h => sl_Desk_named h) (fun cdv A outer s H vs Q E hr h => ?_)
  have hu := hr.units
  have nd := sc_Desk_named.nd
  refine ⟨rd_Desk_named K c d e a E, ?_, rk_Desk_named R_NoName h⟩
  exact (pss_cons (ps_if (pt_cmp (pc_dnotin (hu1 hu) (pv 1) (pe_fldK (pv 0) FK_e_kept)) (by with_unfolding_all rfl)) (pss_one (ps_raise R_NoName.xc rfl EM.NoName (pa_cons pe_str pa_nil))) pss_nil)
      (pss_one (ps_ret (pe_dget (hu1 hu) (pe_fldK (pv 0) FK_e_kept) (pv 1) (fun _ _ => rfl)))))
abbrev s_Desk_drop : Stmt := mtop 249 4
theorem sc_Desk_drop : FnScope ["self", "name"] ["self", "name"] (defScope s_Desk_drop) := ⟨rfl, rfl, rfl, by decide +kernel, rfl, by decide +kernel, by decide +kernel⟩
set_option maxHeartbeats 4000000 in
theorem fn_Desk_drop {P : Program} {w : World} {K : PySem.W.Frag} {mg : Str → Option Value} {base : Heap} (B : Bt2 mg) {c : RCl RK} {d : RCl PzK} {e : RCl DkK}  (FK_e_kept : FldK K e "kept") {f : Addr} {fd : FuncData} (F : Fun K "drop" "Desk.drop" s_Desk_drop f fd) : FnOk P w K mg base CX0 1 f fd ["self", "name"] (sp_Desk_drop K c d e) := by
  refine F.ok sc_Desk_drop (fun vs H Q E h => sl_Desk_drop h) (fun cdv A outer s H vs Q E hr h => ?_)
  have hu := hr.units
  have nd := sc_Desk_drop.nd
  refine ⟨rd_Desk_drop K c d e, ?_, rk_Desk_drop h⟩
  exact (pss_cons (ps_expr (pe_dpop1 (pe_fldK (pv 0) FK_e_kept) (pv 1) ⟨rfl, rfl, rfl, rfl⟩))
      (pss_one (ps_ret pe_str)))
abbrev s__law_cell_at : Stmt := top 251
theorem sc__law_cell_at : FnScope ["_law_script", "_law_k"] ["_law_script", "_law_k"] (defScope s__law_cell_at) := ⟨rfl, rfl, rfl, by decide +kernel, rfl, by decide +kernel, by decide +kernel⟩
set_option maxHeartbeats 4000000 in
theorem fn__law_cell_at {P : Program} {w : World} {K : PySem.W.Frag} {mg : Str → Option Value} {base : Heap} (B : Bt2 mg)  {f : Addr} {fd : FuncData} (F : Fun K "_law_cell_at" "_law_cell_at" s__law_cell_at f fd) : FnOk P w K mg base CX0 1 f fd ["_law_script", "_law_k"] (sp__law_cell_at74 K) := by
  refine F.ok sc__law_cell_at (fun vs H Q E h => sl__law_cell_at74 h) (fun cdv A outer s H vs Q E hr h => ?_)
  have hu := hr.units
  have nd := sc__law_cell_at.nd
  refine ⟨rd__law_cell_at74 K, ?_, rk__law_cell_at74 h⟩
  exact (pss_cons (ps_if (pt_cmpR op_cLt (pv 1) (pe_callB call_len_seq rfl B.len_ bt_len (pa_cons (pv 0) pa_nil)) (nomark _)) (pss_one (ps_ret (pe_ix ix_list (pv 0) (pv 1) (fun _ _ => rfl)))) pss_nil)
      (pss_one (ps_ret pe_int)))
abbrev s__law_line : Stmt := top 253
theorem sc__law_line : FnScope ["_law_cell", "_law_many", "_law_signs", "_law_sign", "_law_start", "_law_spots", "_law_some"] ["_law_cell", "_law_many", "_law_signs"] (defScope s__law_line) := ⟨rfl, rfl, rfl, by decide +kernel, rfl, by decide +kernel, by decide +kernel⟩
set_option maxHeartbeats 4000000 in
theorem fn__law_line {P : Program} {w : World} {K : PySem.W.Frag} {mg : Str → Option Value} {base : Heap} (B : Bt2 mg)  {f : Addr} {fd : FuncData} (F : Fun K "_law_line" "_law_line" s__law_line f fd) : FnOk P w K mg base CX0 1 f fd ["_law_cell", "_law_many", "_law_signs"] (sp__law_line74 K) := by
  refine F.ok sc__law_line (fun vs H Q E h => sl__law_line74 h) (fun cdv A outer s H vs Q E hr h => ?_)
  have hu := hr.units
  have nd := sc__law_line.nd
  refine ⟨rd__law_line74 K, ?_, rk__law_line74 h⟩
  refine pss_cons ?_ ?_
  · exact (ps_set (i := 3) nd rfl (Or.inl rfl) (pe_callTy call_kStr rfl B.str_ bt_str (pa_cons (pe_op op_cAdd pe_int (pe_op op_cMod (pe_op op_cDiv (pv 0) pe_int) (pv 2))) pa_nil)))
  · refine pss_cons ?_ ?_
    · exact (ps_set (i := 4) nd rfl (Or.inr rfl) (pe_op op_cMod (pe_op op_cDiv (pv 0) pe_int) (pv 1)))
    · refine pss_cons ?_ ?_
      · exact (ps_set (i := 5) nd rfl (Or.inl rfl) (pe_bm PySem.F.plainAttrs_str PySem.F.slot_str_join PySem.F.type_str_join mt_kJoin2 pe_str (pa_cons (pe_comp (ix := [none, none, some 1, some 4]) [".0", "_law_k", "_law_many", "_law_start"] (blk_ok2 rfl (by decide +kernel) rfl rfl rfl) rfl (pi_range1 rfl B.range_ (pa_cons (pe_op op_cAdd pe_int (pe_op op_cMod (pe_op op_cDiv (pv 0) pe_int) (pv 1))) pa_nil)) (fun cl s H fp => (pg_name (i := 1) (show ([".0", "_law_k", "_law_many", "_law_start"] : List Str).Nodup by decide +kernel) rfl (Or.inl rfl))) (fun cl s H fp => pts_nil) (fun cl s H fp => (pe_callTy call_kStr rfl B.str_ bt_str (pa_cons (pe_op op_cMod (pe_op op_cAdd (pv 3) (pv 1)) (pv 2)) pa_nil)))) pa_nil)))
      · refine pss_cons ?_ ?_
        · exact (ps_set (i := 6) nd rfl (Or.inl rfl) (pe_lst (pa_cons (pe_op op_cAdd pe_str (pv 5)) (pa_cons (pe_op op_cAdd (pe_op op_cAdd (pe_op op_cAdd pe_str (pe_callTy call_kStr rfl B.str_ bt_str (pa_cons (pe_op op_cMod (pe_op op_cDiv (pv 0) pe_int) pe_int) pa_nil))) pe_str) (pv 5)) (pa_cons (pe_op op_cAdd pe_str (pv 5)) pa_nil)))))
        · refine pss_cons ?_ ?_
          · exact (ps_expr (pe_bm PySem.F.plainAttrs_list PySem.F.slot_list_append PySem.F.type_list_append mt_kAppend (pv 6) (pa_cons (pe_op op_cAdd (pe_op op_cAdd (pe_op op_cAdd pe_str (pe_callTy call_kStr rfl B.str_ bt_str (pa_cons (pe_op op_cMod (pe_op op_cDiv (pv 0) pe_int) pe_int) pa_nil))) pe_str) (pv 5)) pa_nil)))
          · refine pss_cons ?_ ?_
            · exact (ps_expr (pe_bm PySem.F.plainAttrs_list PySem.F.slot_list_append PySem.F.type_list_append mt_kAppend (pv 6) (pa_cons (pe_op op_cAdd (pe_op op_cAdd (pe_op op_cAdd (pe_op op_cAdd (pe_op op_cAdd pe_str (pe_callTy call_kStr rfl B.str_ bt_str (pa_cons (pe_op op_cMod (pe_op op_cDiv (pv 0) pe_int) pe_int) pa_nil))) pe_str) (pv 3)) pe_str) (pv 5)) pa_nil)))
            · refine pss_one ?_
              · exact (ps_ret (pe_ix (ix_c hu) (pe_op op_cAdd (pv 6) (pe_lst (pa_cons (pe_op op_cAdd pe_str (pv 3)) (pa_cons (pe_op op_cAdd pe_str (pv 3)) (pa_cons (pe_op op_cAdd pe_str (pv 3)) pa_nil))))) (pe_op op_cMod (pv 0) pe_int) (fun _ _ => rfl)))
abbrev s_is_from_one_to : Stmt := top 18
theorem sc_is_from_one_to : FnScope ["value", "most"] ["value", "most"] (defScope s_is_from_one_to) := ⟨rfl, rfl, rfl, by decide +kernel, rfl, by decide +kernel, by decide +kernel⟩
set_option maxHeartbeats 4000000 in
theorem fn_is_from_one_to {P : Program} {w : World} {K : PySem.W.Frag} {mg : Str → Option Value} {base : Heap} (B : Bt2 mg) (C_is_whole : Cal P w K mg base 1 "is_whole" ["value"] (sp_is_whole K)) {f : Addr} {fd : FuncData} (F : Fun K "is_from_one_to" "is_from_one_to" s_is_from_one_to f fd) : FnOk P w K mg base CX0 2 f fd ["value", "most"] (sp_is_from_one_to K) := by
  refine F.ok sc_is_from_one_to (fun vs H Q E h => sl_is_from_one_to h) (fun cdv A outer s H vs Q E hr h => ?_)
  have hu := hr.units
  have nd := sc_is_from_one_to.nd
  refine ⟨rd_is_from_one_to K, ?_, rk_is_from_one_to h⟩
  exact (pss_one (ps_ret (pe_and (pe_cal C_is_whole hr (by decide) rfl (pa_cons (pv 0) pa_nil)) (pe_and (pe_cmpR op_cLe pe_int (pv 0) (nomark _)) (pe_one (pe_cmpR op_cLe (pv 0) (pv 1) (nomark _)))))))
abbrev s_number_within : Stmt := top 47
theorem sc_number_within : FnScope ["word", "least", "most", "number"] ["word", "least", "most"] (defScope s_number_within) := ⟨rfl, rfl, rfl, by decide +kernel, rfl, by decide +kernel, by decide +kernel⟩
set_option maxHeartbeats 4000000 in
theorem fn_number_within {P : Program} {w : World} {K : PySem.W.Frag} {mg : Str → Option Value} {base : Heap} (B : Bt2 mg) (C_number_in : Cal P w K mg base 1 "number_in" ["word"] (sp_number_in K)) {f : Addr} {fd : FuncData} (F : Fun K "number_within" "number_within" s_number_within f fd) : FnOk P w K mg base CX0 2 f fd ["word", "least", "most"] (sp_number_within K) := by
  refine F.ok sc_number_within (fun vs H Q E h => sl_number_within h) (fun cdv A outer s H vs Q E hr h => ?_)
  have hu := hr.units
  have nd := sc_number_within.nd
  refine ⟨rd_number_within K, ?_, rk_number_within h⟩
  exact (pss_cons (ps_set (i := 3) nd rfl (Or.inl rfl) (pe_cal C_number_in hr (by decide) rfl (pa_cons (pv 0) pa_nil)))
      (pss_cons (ps_if (PW.pt (pw_or (pt_cmpR op_isN (pv 3) pe_non (nomark _)) (pw_or (pt_cmpR op_cLt (pv 3) (pv 1) (nomark _)) (pw_or1 (pt_cmpR op_cGt (pv 3) (pv 2) (nomark _)))))) (pss_one ps_never) pss_nil)
      (pss_one (ps_ret (pv 3)))))
abbrev s_is_filling : Stmt := top 58
theorem sc_is_filling : FnScope ["floor", "filling", "least"] ["floor", "filling", "least"] (defScope s_is_filling) := ⟨rfl, rfl, rfl, by decide +kernel, rfl, by decide +kernel, by decide +kernel⟩
set_option maxHeartbeats 4000000 in
theorem fn_is_filling {P : Program} {w : World} {K : PySem.W.Frag} {mg : Str → Option Value} {base : Heap} (B : Bt2 mg) (C_is_whole : Cal P w K mg base 1 "is_whole" ["value"] (sp_is_whole K)) (C_many_cells : Cal P w K mg base 1 "many_cells" ["floor"] (sp_many_cells K)) {f : Addr} {fd : FuncData} (F : Fun K "is_filling" "is_filling" s_is_filling f fd) : FnOk P w K mg base CX0 2 f fd ["floor", "filling", "least"] (sp_is_filling K) := by
  refine F.ok sc_is_filling (fun vs H Q E h => sl_is_filling h) (fun cdv A outer s H vs Q E hr h => ?_)
  have hu := hr.units
  have nd := sc_is_filling.nd
  refine ⟨rd_is_filling K, ?_, rk_is_filling h⟩
  exact (pss_cons (ps_if (PW.pt (pw_or (pt_not (pt_val (pe_callB call_kIsi rfl B.isinstance_ bt_isinstance (pa_cons (pv 1) (pa_cons (pe_bltn (v := .ty "list") rfl B.list_ bt_list rfl) pa_nil))))) (pw_or1 (pt_cmpR (op_cNe hu) (pe_callB call_kLen rfl B.len_ bt_len (pa_cons (pv 1) pa_nil)) (pe_cal C_many_cells hr (by decide) rfl (pa_cons (pv 0) pa_nil)) (nomark _))))) (pss_one (ps_ret pe_bl)) pss_nil)
      (pss_one (ps_ret (pe_callB (call_kAll rfl) rfl B.all_ bt_all (pa_cons (pe_comp (ix := [none, none, some 0, some 2]) [".0", "sign", "floor", "least"] (blk_ok2 rfl (by decide +kernel) rfl rfl rfl) rfl (pi_list (pv 1)) (fun cl s H fp => (pg_name (i := 1) (show ([".0", "sign", "floor", "least"] : List Str).Nodup by decide +kernel) rfl (Or.inl rfl))) (fun cl s H fp => pts_nil) (fun cl s H fp => (pe_and (pe_cal C_is_whole hr (by decide) rfl (pa_cons (pv 1) pa_nil)) (pe_and (pe_cmpR op_cLe (pv 3) (pv 1) (nomark _)) (pe_one (pe_cmpR op_cLe (pv 1) (pe_ix (ix_c hu) (pv 2) pe_int (fun _ _ => rfl)) (nomark _))))))) pa_nil)))))
abbrev s_Puzzle_lines : Stmt := mtop 60 2
theorem sc_Puzzle_lines : FnScope ["self"] ["self"] (defScope s_Puzzle_lines) := ⟨rfl, rfl, rfl, by decide +kernel, rfl, by decide +kernel, by decide +kernel⟩
set_option maxHeartbeats 4000000 in
theorem fn_Puzzle_lines {P : Program} {w : World} {K : PySem.W.Frag} {mg : Str → Option Value} {base : Heap} (B : Bt2 mg) {c : RCl RK} {d : RCl PzK}  (FK_d_laws : FldK K d "laws") (M_line : MCal P w K mg base c c.ok 1 "line" ["self"] (sp_line K c)) {f : Addr} {fd : FuncData} (F : Fun K "lines" "Puzzle.lines" s_Puzzle_lines f fd) : FnOk P w K mg base CX0 2 f fd ["self"] (sp_Puzzle_lines K c d) := by
  refine F.ok sc_Puzzle_lines (fun vs H Q E h => sl_Puzzle_lines h) (fun cdv A outer s H vs Q E hr h => ?_)
  have hu := hr.units
  have nd := sc_Puzzle_lines.nd
  refine ⟨rd_Puzzle_lines K c d, ?_, rk_Puzzle_lines h⟩
  exact (pss_one (ps_ret (pe_comp (ix := [none, none]) [".0", "rule"] (blk_ok2 rfl (by decide +kernel) rfl rfl rfl) rfl (pi_list (pe_fldK (pv 0) FK_d_laws)) (fun cl s H fp => (pg_name (i := 1) (show ([".0", "rule"] : List Str).Nodup by decide +kernel) rfl (Or.inl rfl))) (fun cl s H fp => pts_nil) (fun cl s H fp => (pe_methK0 M_line hr (by decide) (pv 1))))))
abbrev s_show_filling : Stmt := top 167
theorem sc_show_filling : FnScope ["floor", "filling", "wide"] ["floor", "filling"] (defScope s_show_filling) := ⟨rfl, rfl, rfl, by decide +kernel, rfl, by decide +kernel, by decide +kernel⟩
set_option maxHeartbeats 4000000 in
theorem fn_show_filling {P : Program} {w : World} {K : PySem.W.Frag} {mg : Str → Option Value} {base : Heap} (B : Bt2 mg) (C_show_row : Cal P w K mg base 1 "show_row" ["signs"] (sp_show_row K)) {f : Addr} {fd : FuncData} (F : Fun K "show_filling" "show_filling" s_show_filling f fd) : FnOk P w K mg base CX0 2 f fd ["floor", "filling"] (sp_show_filling K) := by
  refine F.ok sc_show_filling (fun vs H Q E h => sl_show_filling h) (fun cdv A outer s H vs Q E hr h => ?_)
  have hu := hr.units
  have nd := sc_show_filling.nd
  refine ⟨rd_show_filling K, ?_, rk_show_filling h⟩
  exact (pss_cons (ps_set (i := 2) nd rfl (Or.inr rfl) (pe_ix (ix_c hu) (pv 0) pe_int (fun _ _ => rfl)))
      (pss_one (ps_ret (pe_bm PySem.F.plainAttrs_str PySem.F.slot_str_join PySem.F.type_str_join mt_kJoin pe_str (pa_cons (pe_comp (ix := [none, none, some 1, some 2]) [".0", "row", "filling", "wide"] (blk_ok2 rfl (by decide +kernel) rfl rfl rfl) rfl (pi_range1 rfl B.range_ (pa_cons (pe_ix (ix_c hu) (pv 0) pe_int (fun _ _ => rfl)) pa_nil)) (fun cl s H fp => (pg_name (i := 1) (show ([".0", "row", "filling", "wide"] : List Str).Nodup by decide +kernel) rfl (Or.inl rfl))) (fun cl s H fp => pts_nil) (fun cl s H fp => (pe_cal C_show_row hr (by decide) rfl (pa_cons (pe_slice sl_c2 (pv 2) (po_some (pe_op op_cMul (pv 1) (pv 3))) (po_some (pe_op op_cAdd (pe_op op_cMul (pv 1) (pv 3)) (pv 3)))) pa_nil)))) pa_nil)))))
abbrev s_read_row : Stmt := top 169
theorem sc_read_row : FnScope ["floor", "row"] ["floor", "row"] (defScope s_read_row) := ⟨rfl, rfl, rfl, by decide +kernel, rfl, by decide +kernel, by decide +kernel⟩
set_option maxHeartbeats 4000000 in
theorem fn_read_row {P : Program} {w : World} {K : PySem.W.Frag} {mg : Str → Option Value} {base : Heap} (B : Bt2 mg) (C_read_figure : Cal P w K mg base 1 "read_figure" ["floor", "figure"] (sp_read_figure K)) {f : Addr} {fd : FuncData} (F : Fun K "read_row" "read_row" s_read_row f fd) : FnOk P w K mg base CX0 2 f fd ["floor", "row"] (sp_read_row K) := by
  refine F.ok sc_read_row (fun vs H Q E h => sl_read_row h) (fun cdv A outer s H vs Q E hr h => ?_)
  have hu := hr.units
  have nd := sc_read_row.nd
  refine ⟨rd_read_row K, ?_, rk_read_row h⟩
  exact (pss_cons (ps_if (pt_cmpR (op_cNe hu) (pe_callB call_kLen rfl B.len_ bt_len (pa_cons (pv 1) pa_nil)) (pe_ix (ix_c hu) (pv 0) pe_int (fun _ _ => rfl)) (nomark _)) (pss_one ps_never) pss_nil)
      (pss_one (ps_ret (pe_comp (ix := [none, none, some 0]) [".0", "figure", "floor"] (blk_ok2 rfl (by decide +kernel) rfl rfl rfl) rfl (pi_str (pv 1)) (fun cl s H fp => (pg_name (i := 1) (show ([".0", "figure", "floor"] : List Str).Nodup by decide +kernel) rfl (Or.inl rfl))) (fun cl s H fp => pts_nil) (fun cl s H fp => (pe_cal C_read_figure hr (by decide) rfl (pa_cons (pv 2) (pa_cons (pv 1) pa_nil))))))))
abbrev s_read_numbers : Stmt := top 220
theorem sc_read_numbers : FnScope ["words", "numbers"] ["words"] (defScope s_read_numbers) := ⟨rfl, rfl, rfl, by decide +kernel, rfl, by decide +kernel, by decide +kernel⟩
set_option maxHeartbeats 4000000 in
theorem fn_read_numbers {P : Program} {w : World} {K : PySem.W.Frag} {mg : Str → Option Value} {base : Heap} (B : Bt2 mg) (C_number_in : Cal P w K mg base 1 "number_in" ["word"] (sp_number_in K)) {f : Addr} {fd : FuncData} (F : Fun K "read_numbers" "read_numbers" s_read_numbers f fd) : FnOk P w K mg base CX0 2 f fd ["words"] (sp_read_numbers K) := by
  refine F.ok sc_read_numbers (fun vs H Q E h => sl_read_numbers h) (fun cdv A outer s H vs Q E hr h => ?_)
  have hu := hr.units
  have nd := sc_read_numbers.nd
  refine ⟨rd_read_numbers K, ?_, rk_read_numbers h⟩
  exact (pss_cons (ps_comp (k := 1) nd rfl (Or.inl rfl) rfl (ix := [none, none]) [".0", "word"] (blk_ok2 rfl (by decide +kernel) rfl rfl rfl) rfl (pi_list (pv 0)) (fun cl s H fp => (pg_name (i := 1) (show ([".0", "word"] : List Str).Nodup by decide +kernel) rfl (Or.inl rfl))) (fun cl s H fp => pts_nil) (fun cl s H fp => (pe_cal C_number_in hr (by decide) rfl (pa_cons (pv 1) pa_nil))))
      (pss_cons (ps_if (pt_cmpR (op_cIn hu) pe_non (pv 1) (by with_unfolding_all rfl)) (pss_one ps_never) pss_nil)
      (pss_one (ps_ret (pv 1)))))
abbrev s__law_names : Stmt := top 252
theorem sc__law_names : FnScope ["_law_script", "_law_letters", "_law_cell", "_law_size", "_law_at", "_law_names_here", "_law_k", "_law_word", "_law_j", "_law_turn"] ["_law_script"] (defScope s__law_names) := ⟨rfl, rfl, rfl, by decide +kernel, rfl, by decide +kernel, by decide +kernel⟩
set_option maxHeartbeats 4000000 in
theorem fn__law_names {P : Program} {w : World} {K : PySem.W.Frag} {mg : Str → Option Value} {base : Heap} (B : Bt2 mg) (C__law_cell_at : Cal P w K mg base 1 "_law_cell_at" ["_law_script", "_law_k"] (sp__law_cell_at74 K)) {f : Addr} {fd : FuncData} (F : Fun K "_law_names" "_law_names" s__law_names f fd) : FnOk P w K mg base CX0 2 f fd ["_law_script"] (sp__law_names74 K) := by
  refine F.ok sc__law_names (fun vs H Q E h => sl__law_names74 h) (fun cdv A outer s H vs Q E hr h => ?_)
  have hu := hr.units
  have nd := sc__law_names.nd
  refine ⟨rd__law_names74 K, ?_, rk__law_names74 h⟩
  exact (pss_cons (ps_set (i := 1) nd rfl (Or.inl rfl) pe_str)
      (pss_cons (ps_set (i := 2) nd rfl (Or.inl rfl) (pe_op op_cMod (pe_op op_cMul (pe_cal C__law_cell_at hr (by decide) rfl (pa_cons (pv 0) (pa_cons pe_int pa_nil))) pe_int) pe_int))
      (pss_cons (ps_set (i := 3) nd rfl (Or.inl rfl) (pe_op op_cAdd pe_int (pe_op op_cMod (pv 2) pe_int)))
      (pss_cons (ps_set (i := 4) nd rfl (Or.inl rfl) (pe_op op_cMod (pe_op op_cDiv (pv 2) pe_int) (pv 3)))
      (pss_cons (ps_set (i := 5) nd rfl (Or.inl rfl) (pe_lst pa_nil))
      (pss_cons (ps_for PassesOwn.never rfl (pi_range1 rfl B.range_ (pa_cons pe_int pa_nil)) (pg_name (i := 6) nd rfl (Or.inl rfl))
      (pss_cons (ps_set (i := 7) nd rfl (Or.inl rfl) pe_str)
      (pss_cons (ps_for PassesOwn.never rfl (pi_range1 rfl B.range_ (pa_cons (pv 3) pa_nil)) (pg_name (i := 8) nd rfl (Or.inl rfl))
      (pss_cons (ps_set (i := 9) nd rfl (Or.inl rfl) (pe_op op_cAdd (pe_op op_cDiv (pv 2) (pe_op op_cAdd (pv 8) pe_int)) (pe_op op_cMul (pe_op op_cMul pe_int (pv 6)) (pe_callTy call_kInt2 rfl B.int_ bt_int (pa_cons (pe_cmpR (op_cEq hu) (pv 8) (pv 4) (nomark _)) pa_nil)))))
      (pss_one (ps_set (i := 7) nd rfl (Or.inl rfl) (pe_op op_cAdd (pv 7) (pe_ix (ix_c hu) (pv 1) (pe_op op_cMod (pv 9) pe_int) (fun _ _ => rfl)))))))
      (pss_one (ps_expr (pe_bm PySem.F.plainAttrs_list PySem.F.slot_list_append PySem.F.type_list_append mt_kAppend (pv 5) (pa_cons (pv 7) pa_nil)))))))
      (pss_one (ps_ret (pv 5)))))))))
abbrev s__law_text : Stmt := top 254
theorem sc__law_text : FnScope ["_law_cell", "_law_high", "_law_wide", "_law_signs", "_law_many", "_law_lines", "_law_k", "_law_rows", "_law_row", "_law_j", "_law_more", "_law_head"] ["_law_cell"] (defScope s__law_text) := ⟨rfl, rfl, rfl, by decide +kernel, rfl, by decide +kernel, by decide +kernel⟩
set_option maxHeartbeats 4000000 in
theorem fn__law_text {P : Program} {w : World} {K : PySem.W.Frag} {mg : Str → Option Value} {base : Heap} (B : Bt2 mg) (C__law_line : Cal P w K mg base 1 "_law_line" ["_law_cell", "_law_many", "_law_signs"] (sp__law_line74 K)) {f : Addr} {fd : FuncData} (F : Fun K "_law_text" "_law_text" s__law_text f fd) : FnOk P w K mg base CX0 2 f fd ["_law_cell"] (sp__law_text74 K) := by
  refine F.ok sc__law_text (fun vs H Q E h => sl__law_text74 h) (fun cdv A outer s H vs Q E hr h => ?_)
  have hu := hr.units
  have nd := sc__law_text.nd
  refine ⟨rd__law_text74 K, ?_, rk__law_text74 h⟩
  refine pss_cons ?_ ?_
  · refine ps_asg ?e ?g
    case g => exact (pg_tup rfl (pgs_cons (pg_name (i := 1) nd rfl (Or.inl rfl)) (pgs_cons (pg_name (i := 2) nd rfl (Or.inl rfl)) pgs_nil)))
    case e =>
      refine pe_ix ?x ?l ?j ?p
      case x => exact (ix_c hu)
      case p => exact (fun _ _ => rfl)
      case j => exact (pe_op op_cMod (pv 0) pe_int)
      case l =>
        refine pe_lst ?_
        · refine pa_cons ?_ ?_
          · exact (pe_tup (pa_cons pe_int (pa_cons pe_int pa_nil)))
          · refine pa_cons ?_ ?_
            · exact (pe_tup (pa_cons pe_int (pa_cons pe_int pa_nil)))
            · refine pa_cons ?_ ?_
              · exact (pe_tup (pa_cons pe_int (pa_cons pe_int pa_nil)))
              · refine pa_cons ?_ ?_
                · exact (pe_tup (pa_cons pe_int (pa_cons pe_int pa_nil)))
                · exact (pa_cons (pe_tup (pa_cons pe_int (pa_cons pe_int pa_nil))) (pa_cons (pe_tup (pa_cons pe_int (pa_cons pe_int pa_nil))) (pa_cons (pe_tup (pa_cons pe_int (pa_cons pe_int pa_nil))) (pa_cons (pe_tup (pa_cons pe_int (pa_cons pe_int pa_nil))) pa_nil))))
  · refine pss_cons ?_ ?_
    · exact (ps_set (i := 3) nd rfl (Or.inl rfl) (pe_op op_cAdd pe_int (pe_op op_cMod (pe_op op_cDiv (pv 0) pe_int) pe_int)))
    · refine pss_cons ?_ ?_
      · exact (ps_set (i := 4) nd rfl (Or.inl rfl) (pe_op op_cMul (pv 1) (pv 2)))
      · refine pss_cons ?_ ?_
        · exact (ps_set (i := 5) nd rfl (Or.inl rfl) (pe_lst pa_nil))
        · refine pss_cons ?_ ?_
          · exact (ps_for PassesOwn.never rfl (pi_range1 rfl B.range_ (pa_cons (pe_op op_cMod (pe_op op_cDiv (pv 0) pe_int) pe_int) pa_nil)) (pg_name (i := 6) nd rfl (Or.inl rfl)) (pss_one (ps_expr (pe_bm PySem.F.plainAttrs_list PySem.F.slot_list_append PySem.F.type_list_append mt_kAppend (pv 5) (pa_cons (pe_cal C__law_line hr (by decide) rfl (pa_cons (pe_op op_cMod (pe_op op_cMul (pe_op op_cAdd (pv 0) (pe_op op_cMul pe_int (pv 6))) pe_int) pe_int) (pa_cons (pv 4) (pa_cons (pv 3) pa_nil)))) pa_nil)))))
          · refine pss_cons ?_ ?_
            · exact (ps_set (i := 7) nd rfl (Or.inl rfl) (pe_lst pa_nil))
            · refine pss_cons ?_ ?_
              · exact (ps_for PassesOwn.never rfl (pi_range1 rfl B.range_ (pa_cons (pv 1) pa_nil)) (pg_name (i := 6) nd rfl (Or.inl rfl)) (pss_cons (ps_set (i := 8) nd rfl (Or.inl rfl) pe_str) (pss_cons (ps_for PassesOwn.never rfl (pi_range1 rfl B.range_ (pa_cons (pv 2) pa_nil)) (pg_name (i := 9) nd rfl (Or.inl rfl)) (pss_cons (ps_set (i := 10) nd rfl (Or.inl rfl) (pe_op op_cMod (pe_op op_cMul (pe_op op_cAdd (pe_op op_cAdd (pv 0) (pe_op op_cMul pe_int (pv 6))) (pe_op op_cMul pe_int (pv 9))) pe_int) pe_int)) (pss_one (ps_set (i := 8) nd rfl (Or.inl rfl) (pe_op op_cAdd (pv 8) (pe_ix (ix_c hu) (pe_lst (pa_cons pe_str (pa_cons pe_str (pa_cons (pe_callTy call_kStr rfl B.str_ bt_str (pa_cons (pe_op op_cAdd pe_int (pe_op op_cMod (pe_op op_cDiv (pv 10) pe_int) (pv 3))) pa_nil)) pa_nil)))) (pe_op op_cMod (pv 10) pe_int) (fun _ _ => rfl))))))) (pss_one (ps_expr (pe_bm PySem.F.plainAttrs_list PySem.F.slot_list_append PySem.F.type_list_append mt_kAppend (pv 7) (pa_cons (pv 8) pa_nil)))))))
              · refine pss_cons ?_ ?_
                · exact (ps_set (i := 11) nd rfl (Or.inl rfl) (pe_op op_cAdd (pe_op op_cAdd (pe_op op_cAdd (pe_op op_cAdd (pe_callTy call_kStr rfl B.str_ bt_str (pa_cons (pv 1) pa_nil)) pe_str) (pe_callTy call_kStr rfl B.str_ bt_str (pa_cons (pv 2) pa_nil))) pe_str) (pe_callTy call_kStr rfl B.str_ bt_str (pa_cons (pv 3) pa_nil))))
                · refine pss_one ?_
                  · refine ps_ret ?_
                    · exact (pe_op op_cAdd (pe_op op_cAdd (pe_op op_cAdd (pe_op op_cAdd (pv 11) pe_str) (pe_bm PySem.F.plainAttrs_str PySem.F.slot_str_join PySem.F.type_str_join mt_kJoin2 pe_str (pa_cons (pv 5) pa_nil))) pe_str) (pe_bm PySem.F.plainAttrs_str PySem.F.slot_str_join PySem.F.type_str_join mt_kJoin2 pe_str (pa_cons (pv 7) pa_nil)))
abbrev s_floor_of : Stmt := top 19
theorem sc_floor_of : FnScope ["high", "wide", "signs"] ["high", "wide", "signs"] (defScope s_floor_of) := ⟨rfl, rfl, rfl, by decide +kernel, rfl, by decide +kernel, by decide +kernel⟩
set_option maxHeartbeats 4000000 in
theorem fn_floor_of {P : Program} {w : World} {K : PySem.W.Frag} {mg : Str → Option Value} {base : Heap} (B : Bt2 mg) (C_is_from_one_to : Cal P w K mg base 2 "is_from_one_to" ["value", "most"] (sp_is_from_one_to K)) {t_MOST_CELLS : Tok} (C_MOST_CELLS : mg "MOST_CELLS" = some (.int 16 t_MOST_CELLS)) {t_MOST_SIDE : Tok} (C_MOST_SIDE : mg "MOST_SIDE" = some (.int 6 t_MOST_SIDE)) {t_MOST_SIGNS_floors : Tok} (C_MOST_SIGNS_floors : mg "MOST_SIGNS_floors" = some (.int 6 t_MOST_SIGNS_floors)) {f : Addr} {fd : FuncData} (F : Fun K "floor_of" "floor_of" s_floor_of f fd) : FnOk P w K mg base CX0 3 f fd ["high", "wide", "signs"] (sp_floor_of K) := by
  refine F.ok sc_floor_of (fun vs H Q E h => sl_floor_of h) (fun cdv A outer s H vs Q E hr h => ?_)
  have hu := hr.units
  have nd := sc_floor_of.nd
  refine ⟨rd_floor_of K, ?_, rk_floor_of h⟩
  exact (pss_cons (ps_if (pt_not (pt_val (pe_cal C_is_from_one_to hr (by decide) rfl (pa_cons (pv 0) (pa_cons (pe_glob rfl C_MOST_SIDE ⟨t_MOST_SIDE, rfl⟩) pa_nil))))) (pss_one ps_never) pss_nil)
      (pss_cons (ps_if (pt_not (pt_val (pe_cal C_is_from_one_to hr (by decide) rfl (pa_cons (pv 1) (pa_cons (pe_glob rfl C_MOST_SIDE ⟨t_MOST_SIDE, rfl⟩) pa_nil))))) (pss_one ps_never) pss_nil)
      (pss_cons (ps_if (pt_cmpR op_cGt (pe_op op_cMul (pv 0) (pv 1)) (pe_glob rfl C_MOST_CELLS ⟨t_MOST_CELLS, rfl⟩) (nomark _)) (pss_one ps_never) pss_nil)
      (pss_cons (ps_if (pt_not (pt_val (pe_cal C_is_from_one_to hr (by decide) rfl (pa_cons (pv 2) (pa_cons (pe_glob rfl C_MOST_SIGNS_floors ⟨t_MOST_SIGNS_floors, rfl⟩) pa_nil))))) (pss_one ps_never) pss_nil)
      (pss_one (ps_ret (pe_tup (pa_cons (pv 0) (pa_cons (pv 1) (pa_cons (pv 2) pa_nil))))))))))
abbrev s_first_within : Stmt := top 48
theorem sc_first_within : FnScope ["words", "least", "most"] ["words", "least", "most"] (defScope s_first_within) := ⟨rfl, rfl, rfl, by decide +kernel, rfl, by decide +kernel, by decide +kernel⟩
set_option maxHeartbeats 4000000 in
theorem fn_first_within {P : Program} {w : World} {K : PySem.W.Frag} {mg : Str → Option Value} {base : Heap} (B : Bt2 mg) (C_number_within : Cal P w K mg base 2 "number_within" ["word", "least", "most"] (sp_number_within K)) {f : Addr} {fd : FuncData} (F : Fun K "first_within" "first_within" s_first_within f fd) : FnOk P w K mg base CX0 3 f fd ["words", "least", "most"] (sp_first_within K) := by
  refine F.ok sc_first_within (fun vs H Q E h => sl_first_within h) (fun cdv A outer s H vs Q E hr h => ?_)
  have hu := hr.units
  have nd := sc_first_within.nd
  refine ⟨rd_first_within K, ?_, rk_first_within h⟩
  exact (pss_cons (ps_if (pt_cmpR (op_cEq hu) (pv 0) (pe_lst pa_nil) (nomark _)) (pss_one ps_never) pss_nil)
      (pss_one (ps_ret (pe_cal C_number_within hr (by decide) rfl (pa_cons (pe_ix (ix_c hu) (pv 0) pe_int (fun _ _ => rfl)) (pa_cons (pv 1) (pa_cons (pv 2) pa_nil)))))))
abbrev s_told_cells : Stmt := top 49
theorem sc_told_cells : FnScope ["floor", "words", "cells"] ["floor", "words"] (defScope s_told_cells) := ⟨rfl, rfl, rfl, by decide +kernel, rfl, by decide +kernel, by decide +kernel⟩
set_option maxHeartbeats 4000000 in
theorem fn_told_cells {P : Program} {w : World} {K : PySem.W.Frag} {mg : Str → Option Value} {base : Heap} (B : Bt2 mg) (C_many_cells : Cal P w K mg base 1 "many_cells" ["floor"] (sp_many_cells K)) (C_number_within : Cal P w K mg base 2 "number_within" ["word", "least", "most"] (sp_number_within K)) {f : Addr} {fd : FuncData} (F : Fun K "told_cells" "told_cells" s_told_cells f fd) : FnOk P w K mg base CX0 3 f fd ["floor", "words"] (sp_told_cells K) := by
  refine F.ok sc_told_cells (fun vs H Q E h => sl_told_cells h) (fun cdv A outer s H vs Q E hr h => ?_)
  have hu := hr.units
  have nd := sc_told_cells.nd
  refine ⟨rd_told_cells K, ?_, rk_told_cells h⟩
  exact (pss_cons (ps_comp (k := 2) nd rfl (Or.inl rfl) rfl (ix := [none, none, some 0]) [".0", "word", "floor"] (blk_ok2 rfl (by decide +kernel) rfl rfl rfl) rfl (pi_list (pv 1)) (fun cl s H fp => (pg_name (i := 1) (show ([".0", "word", "floor"] : List Str).Nodup by decide +kernel) rfl (Or.inl rfl))) (fun cl s H fp => pts_nil) (fun cl s H fp => (pe_cal C_number_within hr (by decide) rfl (pa_cons (pv 1) (pa_cons pe_int (pa_cons (pe_op op_cSub (pe_cal C_many_cells hr (by decide) rfl (pa_cons (pv 2) pa_nil)) pe_int) pa_nil))))))
      (pss_cons (ps_if (pt_cmpR (op_cEq hu) (pv 2) (pe_lst pa_nil) (nomark _)) (pss_one ps_never) pss_nil)
      (pss_cons (ps_if (pt_cmpR (op_cNe hu) (pe_lenset rfl rfl rfl B.len_ B.set_ (pv 2)) (pe_callB call_kLen rfl B.len_ bt_len (pa_cons (pv 2) pa_nil)) (nomark _)) (pss_one ps_never) pss_nil)
      (pss_one (ps_ret (pv 2))))))
abbrev s_rule_by : Stmt := top 52
theorem sc_rule_by : FnScope ["floor", "words", "cells", "amount", "mark", "name"] ["floor", "words", "cells", "amount", "mark"] (defScope s_rule_by) := ⟨rfl, rfl, rfl, by decide +kernel, rfl, by decide +kernel, by decide +kernel⟩
set_option maxHeartbeats 4000000 in
theorem fn_rule_by {P : Program} {w : World} {K : PySem.W.Frag} {mg : Str → Option Value} {base : Heap} (B : Bt2 mg) {c : RCl RK}  (K_Count : KCal P w K mg base 1 "Count" (c.A .Count) ["self", "floor", "words", "cells", "amount", "mark"] (sp_Rule___init__ K c)) (K_Joined : KCal P w K mg base 1 "Joined" (c.A .Joined) ["self", "floor", "words", "cells", "amount", "mark"] (sp_Rule___init__ K c)) (K_NoSquare : KCal P w K mg base 1 "NoSquare" (c.A .NoSquare) ["self", "floor", "words", "cells", "amount", "mark"] (sp_Rule___init__ K c)) (K_Ring : KCal P w K mg base 1 "Ring" (c.A .Ring) ["self", "floor", "words", "cells", "amount", "mark"] (sp_Rule___init__ K c)) (K_Rising : KCal P w K mg base 1 "Rising" (c.A .Rising) ["self", "floor", "words", "cells", "amount", "mark"] (sp_Rule___init__ K c)) (K_Seen : KCal P w K mg base 1 "Seen" (c.A .Seen) ["self", "floor", "words", "cells", "amount", "mark"] (sp_Rule___init__ K c)) (K_Sum : KCal P w K mg base 1 "Sum" (c.A .Sum) ["self", "floor", "words", "cells", "amount", "mark"] (sp_Rule___init__ K c)) (K_Unlike : KCal P w K mg base 1 "Unlike" (c.A .Unlike) ["self", "floor", "words", "cells", "amount", "mark"] (sp_Rule___init__ K c)) {f : Addr} {fd : FuncData} (F : Fun K "rule_by" "rule_by" s_rule_by f fd) : FnOk P w K mg base CX0 3 f fd ["floor", "words", "cells", "amount", "mark"] (sp_rule_by K c) := by
  refine F.ok sc_rule_by (fun vs H Q E h => sl_rule_by h) (fun cdv A outer s H vs Q E hr h => ?_)
  have hu := hr.units
  have nd := sc_rule_by.nd
  refine ⟨rd_rule_by K c, ?_, rk_rule_by h⟩
  exact (pss_cons (ps_set (i := 5) nd rfl (Or.inl rfl) (pe_ix (ix_c hu) (pv 1) pe_int (fun _ _ => rfl)))
      (pss_cons (ps_if (pt_cmpR (op_cEq hu) (pv 5) pe_str (nomark _)) (pss_one (ps_ret (pe_mk K_Unlike hr (by decide) rfl (pa_cons (pv 0) (pa_cons (pv 1) (pa_cons (pv 2) (pa_cons (pv 3) (pa_cons (pv 4) pa_nil)))))))) pss_nil)
      (pss_cons (ps_if (pt_cmpR (op_cEq hu) (pv 5) pe_str (nomark _)) (pss_one (ps_ret (pe_mk K_Sum hr (by decide) rfl (pa_cons (pv 0) (pa_cons (pv 1) (pa_cons (pv 2) (pa_cons (pv 3) (pa_cons (pv 4) pa_nil)))))))) pss_nil)
      (pss_cons (ps_if (pt_cmpR (op_cEq hu) (pv 5) pe_str (nomark _)) (pss_one (ps_ret (pe_mk K_Rising hr (by decide) rfl (pa_cons (pv 0) (pa_cons (pv 1) (pa_cons (pv 2) (pa_cons (pv 3) (pa_cons (pv 4) pa_nil)))))))) pss_nil)
      (pss_cons (ps_if (pt_cmpR (op_cEq hu) (pv 5) pe_str (nomark _)) (pss_one (ps_ret (pe_mk K_Seen hr (by decide) rfl (pa_cons (pv 0) (pa_cons (pv 1) (pa_cons (pv 2) (pa_cons (pv 3) (pa_cons (pv 4) pa_nil)))))))) pss_nil)
      (pss_cons (ps_if (pt_cmpR (op_cEq hu) (pv 5) pe_str (nomark _)) (pss_one (ps_ret (pe_mk K_Count hr (by decide) rfl (pa_cons (pv 0) (pa_cons (pv 1) (pa_cons (pv 2) (pa_cons (pv 3) (pa_cons (pv 4) pa_nil)))))))) pss_nil)
      (pss_cons (ps_if (pt_cmpR (op_cEq hu) (pv 5) pe_str (nomark _)) (pss_one (ps_ret (pe_mk K_Joined hr (by decide) rfl (pa_cons (pv 0) (pa_cons (pv 1) (pa_cons (pv 2) (pa_cons (pv 3) (pa_cons (pv 4) pa_nil)))))))) pss_nil)
      (pss_cons (ps_if (pt_cmpR (op_cEq hu) (pv 5) pe_str (nomark _)) (pss_one (ps_ret (pe_mk K_NoSquare hr (by decide) rfl (pa_cons (pv 0) (pa_cons (pv 1) (pa_cons (pv 2) (pa_cons (pv 3) (pa_cons (pv 4) pa_nil)))))))) pss_nil)
      (pss_cons (ps_if (pt_cmpR (op_cEq hu) (pv 5) pe_str (nomark _)) (pss_one (ps_ret (pe_mk K_Ring hr (by decide) rfl (pa_cons (pv 0) (pa_cons (pv 1) (pa_cons (pv 2) (pa_cons (pv 3) (pa_cons (pv 4) pa_nil)))))))) pss_nil)
      (pss_one ps_never))))))))))
abbrev s_checked_clues : Stmt := top 59
theorem sc_checked_clues : FnScope ["floor", "clues"] ["floor", "clues"] (defScope s_checked_clues) := ⟨rfl, rfl, rfl, by decide +kernel, rfl, by decide +kernel, by decide +kernel⟩
set_option maxHeartbeats 4000000 in
theorem fn_checked_clues {P : Program} {w : World} {K : PySem.W.Frag} {mg : Str → Option Value} {base : Heap} (B : Bt2 mg) (C_is_filling : Cal P w K mg base 2 "is_filling" ["floor", "filling", "least"] (sp_is_filling K)) {f : Addr} {fd : FuncData} (F : Fun K "checked_clues" "checked_clues" s_checked_clues f fd) : FnOk P w K mg base CX0 3 f fd ["floor", "clues"] (sp_checked_clues K) := by
  refine F.ok sc_checked_clues (fun vs H Q E h => sl_checked_clues h) (fun cdv A outer s H vs Q E hr h => ?_)
  have hu := hr.units
  have nd := sc_checked_clues.nd
  refine ⟨rd_checked_clues K, ?_, rk_checked_clues h⟩
  exact (pss_cons (ps_if (pt_not (pt_val (pe_cal C_is_filling hr (by decide) rfl (pa_cons (pv 0) (pa_cons (pv 1) (pa_cons pe_int pa_nil)))))) (pss_one ps_never) pss_nil)
      (pss_one (ps_ret (pe_callTy call_kList rfl B.list_ bt_list (pa_cons (pv 1) pa_nil)))))
abbrev s_read_filling : Stmt := top 170
theorem sc_read_filling : FnScope ["floor", "text", "rows", "filling", "row"] ["floor", "text"] (defScope s_read_filling) := ⟨rfl, rfl, rfl, by decide +kernel, rfl, by decide +kernel, by decide +kernel⟩
set_option maxHeartbeats 4000000 in
theorem fn_read_filling {P : Program} {w : World} {K : PySem.W.Frag} {mg : Str → Option Value} {base : Heap} (B : Bt2 mg) (C_read_row : Cal P w K mg base 2 "read_row" ["floor", "row"] (sp_read_row K)) {f : Addr} {fd : FuncData} (F : Fun K "read_filling" "read_filling" s_read_filling f fd) : FnOk P w K mg base CX0 3 f fd ["floor", "text"] (sp_read_filling K) := by
  refine F.ok sc_read_filling (fun vs H Q E h => sl_read_filling h) (fun cdv A outer s H vs Q E hr h => ?_)
  have hu := hr.units
  have nd := sc_read_filling.nd
  refine ⟨rd_read_filling K, ?_, rk_read_filling h⟩
  exact (pss_cons (ps_if (pt_not (pt_val (pe_callB call_kIsi rfl B.isinstance_ bt_isinstance (pa_cons (pv 1) (pa_cons (pe_bltn (v := .ty "str") rfl B.str_ bt_str rfl) pa_nil))))) (pss_one ps_never) pss_nil)
      (pss_cons (ps_set (i := 2) nd rfl (Or.inl rfl) (pe_bm PySem.F.plainAttrs_str PySem.F.slot_str_split PySem.F.type_str_split mt_kSplit (pv 1) (pa_cons pe_str pa_nil)))
      (pss_cons (ps_if (pt_cmpR (op_cNe hu) (pe_callB call_kLen rfl B.len_ bt_len (pa_cons (pv 2) pa_nil)) (pe_ix (ix_c hu) (pv 0) pe_int (fun _ _ => rfl)) (nomark _)) (pss_one ps_never) pss_nil)
      (pss_cons (ps_set (i := 3) nd rfl (Or.inl rfl) (pe_lst pa_nil))
      (pss_cons (ps_for PassesOwn.never rfl (pi_list (pv 2)) (pg_name (i := 4) nd rfl (Or.inl rfl))
      (pss_one (ps_expr (pe_bm PySem.F.plainAttrs_list PySem.F.slot_list_extend PySem.F.type_list_extend mt_kExtend (pv 3) (pa_cons (pe_cal C_read_row hr (by decide) rfl (pa_cons (pv 0) (pa_cons (pv 4) pa_nil))) pa_nil)))))
      (pss_one (ps_ret (pv 3))))))))
abbrev s_show_puzzle : Stmt := top 218
theorem sc_show_puzzle : FnScope ["puzzle", "floor", "rules"] ["puzzle"] (defScope s_show_puzzle) := ⟨rfl, rfl, rfl, by decide +kernel, rfl, by decide +kernel, by decide +kernel⟩
set_option maxHeartbeats 4000000 in
theorem fn_show_puzzle {P : Program} {w : World} {K : PySem.W.Frag} {mg : Str → Option Value} {base : Heap} (B : Bt2 mg) {c : RCl RK} {d : RCl PzK} (C_show_filling : Cal P w K mg base 2 "show_filling" ["floor", "filling"] (sp_show_filling K)) (C_show_numbers : Cal P w K mg base 1 "show_numbers" ["numbers"] (sp_show_numbers K)) {t_BETWEEN_PARTS : Tok} (C_BETWEEN_PARTS : mg "BETWEEN_PARTS" = some (.str (tx [32, 124, 32]) t_BETWEEN_PARTS)) {t_BETWEEN_ROWS : Tok} (C_BETWEEN_ROWS : mg "BETWEEN_ROWS" = some (.str (tx [59, 32]) t_BETWEEN_ROWS)) (M_clues : MCal P w K mg base d d.ok 1 "clues" ["self"] (sp_clues K c d)) (M_lines : MCal P w K mg base d d.ok 2 "lines" ["self"] (sp_lines K c d)) (M_place : MCal P w K mg base d d.ok 1 "place" ["self"] (sp_place K c d)) {f : Addr} {fd : FuncData} (F : Fun K "show_puzzle" "show_puzzle" s_show_puzzle f fd) : FnOk P w K mg base CX0 3 f fd ["puzzle"] (sp_show_puzzle K c d) := by
  refine F.ok sc_show_puzzle (fun vs H Q E h => sl_show_puzzle h) (fun cdv A outer s H vs Q E hr h => ?_)
  have hu := hr.units
  have nd := sc_show_puzzle.nd
  refine ⟨rd_show_puzzle K c d, ?_, rk_show_puzzle h⟩
  exact (pss_cons (ps_set (i := 1) nd rfl (Or.inl rfl) (pe_methK0 M_place hr (by decide) (pv 0)))
      (pss_cons (ps_set (i := 2) nd rfl (Or.inl rfl) (pe_bm PySem.F.plainAttrs_str PySem.F.slot_str_join PySem.F.type_str_join mt_kJoin2 (pe_glob rfl C_BETWEEN_ROWS ⟨t_BETWEEN_ROWS, rfl⟩) (pa_cons (pe_methK0 M_lines hr (by decide) (pv 0)) pa_nil)))
      (pss_one (ps_ret (pe_bm PySem.F.plainAttrs_str PySem.F.slot_str_join PySem.F.type_str_join mt_kJoin2 (pe_glob rfl C_BETWEEN_PARTS ⟨t_BETWEEN_PARTS, rfl⟩) (pa_cons (pe_lst (pa_cons (pe_cal C_show_numbers hr (by decide) rfl (pa_cons (pv 1) pa_nil)) (pa_cons (pv 2) (pa_cons (pe_cal C_show_filling hr (by decide) rfl (pa_cons (pv 1) (pa_cons (pe_methK0 M_clues hr (by decide) (pv 0)) pa_nil))) pa_nil)))) pa_nil))))))
abbrev s_cells_of_rows : Stmt := top 50
theorem sc_cells_of_rows : FnScope ["floor", "name", "words"] ["floor", "name", "words"] (defScope s_cells_of_rows) := ⟨rfl, rfl, rfl, by decide +kernel, rfl, by decide +kernel, by decide +kernel⟩
set_option maxHeartbeats 4000000 in
theorem fn_cells_of_rows {P : Program} {w : World} {K : PySem.W.Frag} {mg : Str → Option Value} {base : Heap} (B : Bt2 mg) (C_many_cells : Cal P w K mg base 1 "many_cells" ["floor"] (sp_many_cells K)) (C_told_cells : Cal P w K mg base 3 "told_cells" ["floor", "words"] (sp_told_cells K)) (G_OF_ALL_CELLS : GTup K mg "OF_ALL_CELLS" gt_OF_ALL_CELLS) {f : Addr} {fd : FuncData} (F : Fun K "cells_of" "cells_of" s_cells_of_rows f fd) : FnOk P w K mg base CX0 4 f fd ["floor", "name", "words"] (sp_cells_of K) := by
  refine F.ok sc_cells_of_rows (fun vs H Q E h => sl_cells_of h) (fun cdv A outer s H vs Q E hr h => ?_)
  have hu := hr.units
  have nd := sc_cells_of_rows.nd
  refine ⟨rd_cells_of K, ?_, rk_cells_of h⟩
  exact (pss_cons (ps_if (pt_ninG G_OF_ALL_CELLS (pv 1) rfl) (pss_one (ps_ret (pe_cal C_told_cells hr (by decide) rfl (pa_cons (pv 0) (pa_cons (pv 2) pa_nil))))) pss_nil)
      (pss_cons (ps_if (pt_cmpR (op_cNe hu) (pv 2) (pe_lst pa_nil) (nomark _)) (pss_one ps_never) pss_nil)
      (pss_one (ps_ret (pe_listrng1 rfl rfl rfl B.list_ B.range_ (pa_cons (pe_cal C_many_cells hr (by decide) rfl (pa_cons (pv 0) pa_nil)) pa_nil))))))
abbrev s_checked_floor : Stmt := top 56
theorem sc_checked_floor : FnScope ["floor"] ["floor"] (defScope s_checked_floor) := ⟨rfl, rfl, rfl, by decide +kernel, rfl, by decide +kernel, by decide +kernel⟩
set_option maxHeartbeats 4000000 in
theorem fn_checked_floor {P : Program} {w : World} {K : PySem.W.Frag} {mg : Str → Option Value} {base : Heap} (B : Bt2 mg) (C_floor_of : Cal P w K mg base 3 "floor_of" ["high", "wide", "signs"] (sp_floor_of K)) {f : Addr} {fd : FuncData} (F : Fun K "checked_floor" "checked_floor" s_checked_floor f fd) : FnOk P w K mg base CX0 4 f fd ["floor"] (sp_checked_floor K) := by
  refine F.ok sc_checked_floor (fun vs H Q E h => sl_checked_floor h) (fun cdv A outer s H vs Q E hr h => ?_)
  have hu := hr.units
  have nd := sc_checked_floor.nd
  refine ⟨rd_checked_floor K, ?_, rk_checked_floor h⟩
  exact (pss_cons (ps_if (PW.pt (pw_or (pt_not (pt_val (pe_callB call_kIsi rfl B.isinstance_ bt_isinstance (pa_cons (pv 0) (pa_cons (pe_bltn (v := .ty "tuple") rfl B.tuple_ bt_tuple rfl) pa_nil))))) (pw_or1 (pt_cmpR (op_cNe hu) (pe_callB call_kLen rfl B.len_ bt_len (pa_cons (pv 0) pa_nil)) pe_int (nomark _))))) (pss_one ps_never) pss_nil)
      (pss_one (ps_ret (pe_cal C_floor_of hr (by decide) rfl (pa_cons (pe_ix (ix_c hu) (pv 0) pe_int (fun _ _ => rfl)) (pa_cons (pe_ix (ix_c hu) (pv 0) pe_int (fun _ _ => rfl)) (pa_cons (pe_ix (ix_c hu) (pv 0) pe_int (fun _ _ => rfl)) pa_nil)))))))
abbrev s_read_floor : Stmt := top 221
theorem sc_read_floor : FnScope ["text", "numbers"] ["text"] (defScope s_read_floor) := ⟨rfl, rfl, rfl, by decide +kernel, rfl, by decide +kernel, by decide +kernel⟩
set_option maxHeartbeats 4000000 in
theorem fn_read_floor {P : Program} {w : World} {K : PySem.W.Frag} {mg : Str → Option Value} {base : Heap} (B : Bt2 mg) (C_floor_of : Cal P w K mg base 3 "floor_of" ["high", "wide", "signs"] (sp_floor_of K)) (C_read_numbers : Cal P w K mg base 2 "read_numbers" ["words"] (sp_read_numbers K)) {f : Addr} {fd : FuncData} (F : Fun K "read_floor" "read_floor" s_read_floor f fd) : FnOk P w K mg base CX0 4 f fd ["text"] (sp_read_floor K) := by
  refine F.ok sc_read_floor (fun vs H Q E h => sl_read_floor h) (fun cdv A outer s H vs Q E hr h => ?_)
  have hu := hr.units
  have nd := sc_read_floor.nd
  refine ⟨rd_read_floor K, ?_, rk_read_floor h⟩
  exact (pss_cons (ps_set (i := 1) nd rfl (Or.inl rfl) (pe_cal C_read_numbers hr (by decide) rfl (pa_cons (pe_bm PySem.F.plainAttrs_str PySem.F.slot_str_split PySem.F.type_str_split mt_kSplit (pv 0) (pa_cons pe_str pa_nil)) pa_nil)))
      (pss_cons (ps_if (pt_cmpR (op_cNe hu) (pe_callB call_kLen rfl B.len_ bt_len (pa_cons (pv 1) pa_nil)) pe_int (nomark _)) (pss_one ps_never) pss_nil)
      (pss_one (ps_ret (pe_cal C_floor_of hr (by decide) rfl (pa_cons (pe_ix (ix_c hu) (pv 1) pe_int (fun _ _ => rfl)) (pa_cons (pe_ix (ix_c hu) (pv 1) pe_int (fun _ _ => rfl)) (pa_cons (pe_ix (ix_c hu) (pv 1) pe_int (fun _ _ => rfl)) pa_nil))))))))
abbrev s_tell_of : Stmt := top 247
theorem sc_tell_of : FnScope ["puzzle", "word"] ["puzzle", "word"] (defScope s_tell_of) := ⟨rfl, rfl, rfl, by decide +kernel, rfl, by decide +kernel, by decide +kernel⟩
set_option maxHeartbeats 4000000 in
theorem fn_tell_of {P : Program} {w : World} {K : PySem.W.Frag} {mg : Str → Option Value} {base : Heap} (B : Bt2 mg) {c : RCl RK} {d : RCl PzK} (C_show_puzzle : Cal P w K mg base 3 "show_puzzle" ["puzzle"] (sp_show_puzzle K c d)) {f : Addr} {fd : FuncData} (F : Fun K "tell_of" "tell_of" s_tell_of f fd) : FnOk P w K mg base CX0 4 f fd ["puzzle", "word"] (sp_tell_of K c d) := by
  refine F.ok sc_tell_of (fun vs H Q E h => sl_tell_of h) (fun cdv A outer s H vs Q E hr h => ?_)
  have hu := hr.units
  have nd := sc_tell_of.nd
  refine ⟨rd_tell_of K c d, ?_, rk_tell_of h⟩
  exact (pss_cons (ps_if (pt_cmpR (op_cEq hu) (pv 1) pe_str (nomark _)) (pss_one (ps_ret (pe_cal C_show_puzzle hr (by decide) rfl (pa_cons (pv 0) pa_nil)))) pss_nil)
      (pss_cons (ps_if (pt_cmpR (op_cEq hu) (pv 1) pe_str (nomark _)) (pss_one (ps_ret pe_neverE)) pss_nil)
      (pss_cons (ps_if (pt_cmpR (op_cEq hu) (pv 1) pe_str (nomark _)) (pss_one (ps_ret pe_neverE)) pss_nil)
      (pss_cons (ps_if (pt_cmpR (op_cEq hu) (pv 1) pe_str (nomark _)) (pss_one (ps_ret pe_neverE)) pss_nil)
      (pss_one (ps_ret pe_neverE))))))
abbrev s_read_rule : Stmt := top 53
theorem sc_read_rule : FnScope ["floor", "line", "words", "name", "rest", "amount", "mark"] ["floor", "line"] (defScope s_read_rule) := ⟨rfl, rfl, rfl, by decide +kernel, rfl, by decide +kernel, by decide +kernel⟩
set_option maxHeartbeats 4000000 in
theorem fn_read_rule {P : Program} {w : World} {K : PySem.W.Frag} {mg : Str → Option Value} {base : Heap} (B : Bt2 mg) {c : RCl RK} (C_cells_of_rows : Cal P w K mg base 4 "cells_of_rows" ["floor", "name", "words"] (sp_cells_of K)) (C_first_within : Cal P w K mg base 3 "first_within" ["words", "least", "most"] (sp_first_within K)) (C_rule_by : Cal P w K mg base 3 "rule_by" ["floor", "words", "cells", "amount", "mark"] (sp_rule_by K c)) {t_MOST_NUMBER : Tok} (C_MOST_NUMBER : mg "MOST_NUMBER" = some (.int 99 t_MOST_NUMBER)) (G_WITH_NUMBER : GTup K mg "WITH_NUMBER" gt_WITH_NUMBER) (G_WITH_SIGN : GTup K mg "WITH_SIGN" gt_WITH_SIGN) {f : Addr} {fd : FuncData} (F : Fun K "read_rule" "read_rule" s_read_rule f fd) : FnOk P w K mg base CX0 5 f fd ["floor", "line"] (sp_read_rule K c) := by
  refine F.ok sc_read_rule (fun vs H Q E h => sl_read_rule h) (fun cdv A outer s H vs Q E hr h => ?_)
  have hu := hr.units
  have nd := sc_read_rule.nd
  refine ⟨rd_read_rule K c, ?_, rk_read_rule h⟩
  exact (pss_cons (ps_if (pt_not (pt_val (pe_callB call_kIsi rfl B.isinstance_ bt_isinstance (pa_cons (pv 1) (pa_cons (pe_bltn (v := .ty "str") rfl B.str_ bt_str rfl) pa_nil))))) (pss_one ps_never) pss_nil)
      (pss_cons (ps_set (i := 2) nd rfl (Or.inl rfl) (pe_bm PySem.F.plainAttrs_str PySem.F.slot_str_split PySem.F.type_str_split mt_kSplit (pv 1) (pa_cons pe_str pa_nil)))
      (pss_cons (ps_set (i := 3) nd rfl (Or.inl rfl) (pe_ix (ix_c hu) (pv 2) pe_int (fun _ _ => rfl)))
      (pss_cons (ps_set (i := 4) nd rfl (Or.inl rfl) (pe_slice sl_c2 (pv 2) (po_some pe_int) po_none))
      (pss_cons (ps_set (i := 5) nd rfl (Or.inl rfl) pe_int)
      (pss_cons (ps_set (i := 6) nd rfl (Or.inl rfl) pe_int)
      (pss_cons (ps_if (pt_inG G_WITH_NUMBER (pv 3) rfl) (pss_cons (ps_set (i := 5) nd rfl (Or.inl rfl) (pe_cal C_first_within hr (by decide) rfl (pa_cons (pv 4) (pa_cons pe_int (pa_cons (pe_glob rfl C_MOST_NUMBER ⟨t_MOST_NUMBER, rfl⟩) pa_nil)))))
      (pss_one (ps_set (i := 4) nd rfl (Or.inl rfl) (pe_slice sl_c2 (pv 4) (po_some pe_int) po_none)))) pss_nil)
      (pss_cons (ps_if (pt_inG G_WITH_SIGN (pv 3) rfl) (pss_cons (ps_set (i := 6) nd rfl (Or.inl rfl) (pe_cal C_first_within hr (by decide) rfl (pa_cons (pv 4) (pa_cons pe_int (pa_cons (pe_ix (ix_c hu) (pv 0) pe_int (fun _ _ => rfl)) pa_nil)))))
      (pss_one (ps_set (i := 4) nd rfl (Or.inl rfl) (pe_slice sl_c2 (pv 4) (po_some pe_int) po_none)))) pss_nil)
      (pss_one (ps_ret (pe_cal C_rule_by hr (by decide) rfl (pa_cons (pv 0) (pa_cons (pv 2) (pa_cons (pe_cal C_cells_of_rows hr (by decide) rfl (pa_cons (pv 0) (pa_cons (pv 3) (pa_cons (pv 4) pa_nil)))) (pa_cons (pv 5) (pa_cons (pv 6) pa_nil))))))))))))))))
abbrev s_read_rules : Stmt := top 57
theorem sc_read_rules : FnScope ["floor", "lines"] ["floor", "lines"] (defScope s_read_rules) := ⟨rfl, rfl, rfl, by decide +kernel, rfl, by decide +kernel, by decide +kernel⟩
set_option maxHeartbeats 4000000 in
theorem fn_read_rules {P : Program} {w : World} {K : PySem.W.Frag} {mg : Str → Option Value} {base : Heap} (B : Bt2 mg) {c : RCl RK} (C_read_rule : Cal P w K mg base 5 "read_rule" ["floor", "line"] (sp_read_rule K c)) {t_MOST_RULES : Tok} (C_MOST_RULES : mg "MOST_RULES" = some (.int 12 t_MOST_RULES)) {f : Addr} {fd : FuncData} (F : Fun K "read_rules" "read_rules" s_read_rules f fd) : FnOk P w K mg base CX0 6 f fd ["floor", "lines"] (sp_read_rules K c) := by
  refine F.ok sc_read_rules (fun vs H Q E h => sl_read_rules h) (fun cdv A outer s H vs Q E hr h => ?_)
  have hu := hr.units
  have nd := sc_read_rules.nd
  refine ⟨rd_read_rules K c, ?_, rk_read_rules h⟩
  exact (pss_cons (ps_if (pt_cmpR op_cGt (pe_callB call_kLen rfl B.len_ bt_len (pa_cons (pv 1) pa_nil)) (pe_glob rfl C_MOST_RULES ⟨t_MOST_RULES, rfl⟩) (nomark _)) (pss_one ps_never) pss_nil)
      (pss_one (ps_ret (pe_comp (ix := [none, none, some 0]) [".0", "line", "floor"] (blk_ok2 rfl (by decide +kernel) rfl rfl rfl) rfl (pi_list (pv 1)) (fun cl s H fp => (pg_name (i := 1) (show ([".0", "line", "floor"] : List Str).Nodup by decide +kernel) rfl (Or.inl rfl))) (fun cl s H fp => pts_nil) (fun cl s H fp => (pe_cal C_read_rule hr (by decide) rfl (pa_cons (pv 2) (pa_cons (pv 1) pa_nil))))))))
abbrev s_Puzzle___init__ : Stmt := mtop 60 0
theorem sc_Puzzle___init__ : FnScope ["self", "floor", "lines", "clues"] ["self", "floor", "lines", "clues"] (defScope s_Puzzle___init__) := ⟨rfl, rfl, rfl, by decide +kernel, rfl, by decide +kernel, by decide +kernel⟩
set_option maxHeartbeats 4000000 in
theorem fn_Puzzle___init__ {P : Program} {w : World} {K : PySem.W.Frag} {mg : Str → Option Value} {base : Heap} (B : Bt2 mg) {c : RCl RK} {d : RCl PzK} (C_checked_clues : Cal P w K mg base 3 "checked_clues" ["floor", "clues"] (sp_checked_clues K)) (C_checked_floor : Cal P w K mg base 4 "checked_floor" ["floor"] (sp_checked_floor K)) (C_read_rules : Cal P w K mg base 6 "read_rules" ["floor", "lines"] (sp_read_rules K c)) (FK_d_floor : FldK K d "floor") (FK_d_given : FldK K d "given") (FK_d_laws : FldK K d "laws") {f : Addr} {fd : FuncData} (F : Fun K "__init__" "Puzzle.__init__" s_Puzzle___init__ f fd) : FnOk P w K mg base CX0 7 f fd ["self", "floor", "lines", "clues"] (sp_Puzzle___init__ K c d) := by
  refine F.ok sc_Puzzle___init__ (fun vs H Q E h => sl_Puzzle___init__ h) (fun cdv A outer s H vs Q E hr h => ?_)
  have hu := hr.units
  have nd := sc_Puzzle___init__.nd
  refine ⟨rd_Puzzle___init__ K c d, ?_, rk_Puzzle___init__ h⟩
  exact (pss_cons (ps_fldK (pv 0) (pe_cal C_checked_floor hr (by decide) rfl (pa_cons (pv 1) pa_nil)) FK_d_floor)
      (pss_cons (ps_fldK (pv 0) (pe_cal C_read_rules hr (by decide) rfl (pa_cons (pe_fldK (pv 0) FK_d_floor) (pa_cons (pv 2) pa_nil))) FK_d_laws)
      (pss_one (ps_fldK (pv 0) (pe_cal C_checked_clues hr (by decide) rfl (pa_cons (pe_fldK (pv 0) FK_d_floor) (pa_cons (pv 3) pa_nil))) FK_d_given))))
abbrev s_Puzzle_clued : Stmt := mtop 60 7
theorem sc_Puzzle_clued : FnScope ["self", "clues"] ["self", "clues"] (defScope s_Puzzle_clued) := ⟨rfl, rfl, rfl, by decide +kernel, rfl, by decide +kernel, by decide +kernel⟩
set_option maxHeartbeats 4000000 in
theorem fn_Puzzle_clued {P : Program} {w : World} {K : PySem.W.Frag} {mg : Str → Option Value} {base : Heap} (B : Bt2 mg) {c : RCl RK} {d : RCl PzK}  (FK_d_floor : FldK K d "floor") (M_lines : MCal P w K mg base d d.ok 2 "lines" ["self"] (sp_lines K c d)) (K_Puzzle : KCal P w K mg base 7 "Puzzle" (d.A .Puzzle) ["self", "floor", "lines", "clues"] (sp_Puzzle___init__ K c d)) {f : Addr} {fd : FuncData} (F : Fun K "clued" "Puzzle.clued" s_Puzzle_clued f fd) : FnOk P w K mg base CX0 9 f fd ["self", "clues"] (sp_Puzzle_clued K c d) := by
  refine F.ok sc_Puzzle_clued (fun vs H Q E h => sl_Puzzle_clued h) (fun cdv A outer s H vs Q E hr h => ?_)
  have hu := hr.units
  have nd := sc_Puzzle_clued.nd
  refine ⟨rd_Puzzle_clued K c d, ?_, rk_Puzzle_clued h⟩
  exact (pss_one (ps_ret (pe_mk K_Puzzle hr (by decide) rfl (pa_cons (pe_fldK (pv 0) FK_d_floor) (pa_cons (pe_methK0 M_lines hr (by decide) (pv 0)) (pa_cons (pv 1) pa_nil))))))
abbrev s_read_puzzle : Stmt := top 222
theorem sc_read_puzzle : FnScope ["text", "parts", "floor", "lines", "bare"] ["text"] (defScope s_read_puzzle) := ⟨rfl, rfl, rfl, by decide +kernel, rfl, by decide +kernel, by decide +kernel⟩
set_option maxHeartbeats 4000000 in
theorem fn_read_puzzle {P : Program} {w : World} {K : PySem.W.Frag} {mg : Str → Option Value} {base : Heap} (B : Bt2 mg) {c : RCl RK} {d : RCl PzK} (C_many_cells : Cal P w K mg base 1 "many_cells" ["floor"] (sp_many_cells K)) (C_read_filling : Cal P w K mg base 3 "read_filling" ["floor", "text"] (sp_read_filling K)) (C_read_floor : Cal P w K mg base 4 "read_floor" ["text"] (sp_read_floor K)) (C_refuse_no_text : Cal P w K mg base 1 "refuse_no_text" ["text"] (sp_refuse_no_text K)) {t_BETWEEN_PARTS : Tok} (C_BETWEEN_PARTS : mg "BETWEEN_PARTS" = some (.str (tx [32, 124, 32]) t_BETWEEN_PARTS)) {t_BETWEEN_ROWS : Tok} (C_BETWEEN_ROWS : mg "BETWEEN_ROWS" = some (.str (tx [59, 32]) t_BETWEEN_ROWS)) (M_clued : MCal P w K mg base d d.ok 9 "clued" ["self", "clues"] (sp_clued K c d)) (K_Puzzle : KCal P w K mg base 7 "Puzzle" (d.A .Puzzle) ["self", "floor", "lines", "clues"] (sp_Puzzle___init__ K c d)) {f : Addr} {fd : FuncData} (F : Fun K "read_puzzle" "read_puzzle" s_read_puzzle f fd) : FnOk P w K mg base CX0 10 f fd ["text"] (sp_read_puzzle K c d) := by
  refine F.ok sc_read_puzzle (fun vs H Q E h => sl_read_puzzle h) (fun cdv A outer s H vs Q E hr h => ?_)
  have hu := hr.units
  have nd := sc_read_puzzle.nd
  refine ⟨rd_read_puzzle K c d, ?_, rk_read_puzzle h⟩
  exact (pss_cons (ps_expr (pe_cal C_refuse_no_text hr (by decide) rfl (pa_cons (pv 0) pa_nil)))
      (pss_cons (ps_set (i := 1) nd rfl (Or.inl rfl) (pe_bm PySem.F.plainAttrs_str PySem.F.slot_str_split PySem.F.type_str_split mt_kSplit (pv 0) (pa_cons (pe_glob rfl C_BETWEEN_PARTS ⟨t_BETWEEN_PARTS, rfl⟩) pa_nil)))
      (pss_cons (ps_if (pt_cmpR (op_cNe hu) (pe_callB call_kLen rfl B.len_ bt_len (pa_cons (pv 1) pa_nil)) pe_int (nomark _)) (pss_one ps_never) pss_nil)
      (pss_cons (ps_set (i := 2) nd rfl (Or.inl rfl) (pe_cal C_read_floor hr (by decide) rfl (pa_cons (pe_ix (ix_c hu) (pv 1) pe_int (fun _ _ => rfl)) pa_nil)))
      (pss_cons (ps_set (i := 3) nd rfl (Or.inl rfl) (pe_ifExp (pt_cmpR (op_cNe hu) (pe_ix (ix_c hu) (pv 1) pe_int (fun _ _ => rfl)) pe_str (nomark _)) (pe_bm PySem.F.plainAttrs_str PySem.F.slot_str_split PySem.F.type_str_split mt_kSplit (pe_ix (ix_c hu) (pv 1) pe_int (fun _ _ => rfl)) (pa_cons (pe_glob rfl C_BETWEEN_ROWS ⟨t_BETWEEN_ROWS, rfl⟩) pa_nil)) (pe_lst pa_nil)))
      (pss_cons (ps_set (i := 4) nd rfl (Or.inl rfl) (pe_mk K_Puzzle hr (by decide) rfl (pa_cons (pv 2) (pa_cons (pv 3) (pa_cons (pe_op op_cRepL (pe_lst (pa_cons pe_int pa_nil)) (pe_cal C_many_cells hr (by decide) rfl (pa_cons (pv 2) pa_nil))) pa_nil)))))
      (pss_one (ps_ret (pe_methK M_clued hr (by decide) (pv 4) (pa_cons (pe_cal C_read_filling hr (by decide) rfl (pa_cons (pv 2) (pa_cons (pe_ix (ix_c hu) (pv 1) pe_int (fun _ _ => rfl)) pa_nil))) pa_nil))))))))))
abbrev s_Desk_put : Stmt := mtop 249 3
theorem sc_Desk_put : FnScope ["self", "name", "text"] ["self", "name", "text"] (defScope s_Desk_put) := ⟨rfl, rfl, rfl, by decide +kernel, rfl, by decide +kernel, by decide +kernel⟩
set_option maxHeartbeats 4000000 in
theorem fn_Desk_put {P : Program} {w : World} {K : PySem.W.Frag} {mg : Str → Option Value} {base : Heap} (B : Bt2 mg) {c : RCl RK} {d : RCl PzK} {e : RCl DkK} (C_is_name : Cal P w K mg base 1 "is_name" ["word"] (sp_is_name K)) (C_read_puzzle : Cal P w K mg base 10 "read_puzzle" ["text"] (sp_read_puzzle K c d)) (FK_e_kept : FldK K e "kept") {f : Addr} {fd : FuncData} (F : Fun K "put" "Desk.put" s_Desk_put f fd) : FnOk P w K mg base CX0 11 f fd ["self", "name", "text"] (sp_Desk_put K c d e) := by
  refine F.ok sc_Desk_put (fun vs H Q E h => sl_Desk_put h) (fun cdv A outer s H vs Q E hr h => ?_)
  have hu := hr.units
  have nd := sc_Desk_put.nd
  refine ⟨rd_Desk_put K c d e, ?_, rk_Desk_put h⟩
  exact (pss_cons (ps_if (pt_not (pt_val (pe_cal C_is_name hr (by decide) rfl (pa_cons (pv 1) pa_nil)))) (pss_one ps_never) pss_nil)
      (pss_cons (ps_dput (hu1 hu) (pe_fldK (pv 0) FK_e_kept) (pv 1) (pe_cal C_read_puzzle hr (by decide) rfl (pa_cons (pv 2) pa_nil)) rfl)
      (pss_one (ps_ret pe_str))))
abbrev s_Desk_say : Stmt := mtop 249 1
theorem sc_Desk_say : FnScope ["self", "row", "words", "puzzle"] ["self", "row"] (defScope s_Desk_say) := ⟨rfl, rfl, rfl, by decide +kernel, rfl, by decide +kernel, by decide +kernel⟩
set_option maxHeartbeats 4000000 in
theorem fn_Desk_say {P : Program} {w : World} {K : PySem.W.Frag} {mg : Str → Option Value} {base : Heap} (B : Bt2 mg) {c : RCl RK} {d : RCl PzK} {e : RCl DkK} (C_tell_of : Cal P w K mg base 4 "tell_of" ["puzzle", "word"] (sp_tell_of K c d)) (C_words_of : Cal P w K mg base 1 "words_of" ["row"] (sp_words_of K)) (M_drop : MCal P w K mg base e e.ok 1 "drop" ["self", "name"] (sp_drop K c d e)) (M_named : MCal1 P w K mg base e e.ok 1 "named" ["self", "name"] (sp_named K c d e)) (M_put : MCal P w K mg base e e.ok 11 "put" ["self", "name", "text"] (sp_put K c d e)) (G_WITH_NAME : GTup K mg "WITH_NAME" gt_WITH_NAME) (G_WITH_TEXT : GTup K mg "WITH_TEXT" gt_WITH_TEXT) {f : Addr} {fd : FuncData} (F : Fun K "say" "Desk.say" s_Desk_say f fd) : FnOk P w K mg base (CX1 P w) 12 f fd ["self", "row"] (sp_Desk_say K c d e) := by
  refine F.ok1 sc_Desk_say (fun vs H Q E h => sl_Desk_say h) (fun cdv A outer s H vs Q E hr h => ?_)
  have hu := hr.units
  have nd := sc_Desk_say.nd
  refine ⟨rd_Desk_say K c d e E, ?_, rk_Desk_say h⟩
  exact (pss_cons (ps_set (i := 2) nd rfl (Or.inl rfl) (pe_cal C_words_of hr (by decide) rfl (pa_cons (pv 1) pa_nil)))
      (pss_cons (ps_if (pt_cmpR (op_cEq hu) (pe_ix (ix_c hu) (pv 2) pe_int (fun _ _ => rfl)) pe_str (nomark _)) (pss_one (ps_ret (pe_methK M_put hr (by decide) (pv 0) (pa_cons (pe_ix (ix_c hu) (pv 2) pe_int (fun _ _ => rfl)) (pa_cons (pe_ix (ix_c hu) (pv 2) pe_int (fun _ _ => rfl)) pa_nil))))) pss_nil)
      (pss_cons (ps_set (i := 3) nd rfl (Or.inl rfl) (pe_methE (xe_pass fun _ _ _ z => z) M_named hr (by decide) (pv 0) (pa_cons (pe_ix (ix_c hu) (pv 2) pe_int (fun _ _ => rfl)) pa_nil)))
      (pss_cons (ps_if (pt_cmpR (op_cEq hu) (pe_ix (ix_c hu) (pv 2) pe_int (fun _ _ => rfl)) pe_str (nomark _)) (pss_one (ps_ret (pe_methK M_drop hr (by decide) (pv 0) (pa_cons (pe_ix (ix_c hu) (pv 2) pe_int (fun _ _ => rfl)) pa_nil)))) pss_nil)
      (pss_cons (ps_if (pt_inG G_WITH_NAME (pe_ix (ix_c hu) (pv 2) pe_int (fun _ _ => rfl)) rfl) (pss_one (ps_ret (pe_cal C_tell_of hr (by decide) rfl (pa_cons (pv 3) (pa_cons (pe_ix (ix_c hu) (pv 2) pe_int (fun _ _ => rfl)) pa_nil))))) pss_nil)
      (pss_cons (ps_if (pt_inG G_WITH_TEXT (pe_ix (ix_c hu) (pv 2) pe_int (fun _ _ => rfl)) rfl) (pss_one (ps_ret pe_neverE)) pss_nil)
      (pss_one (ps_ret pe_neverE))))))))
abbrev s__law_nobody : Stmt := top 255
theorem sc__law_nobody : FnScope ["_law_desk", "_law_row", "_law_found", "e"] ["_law_desk", "_law_row"] (defScope s__law_nobody) := ⟨rfl, rfl, rfl, by decide +kernel, rfl, by decide +kernel, by decide +kernel⟩
set_option maxHeartbeats 4000000 in
theorem fn__law_nobody {P : Program} {w : World} {K : PySem.W.Frag} {mg : Str → Option Value} {base : Heap} (B : Bt2 mg) {c : RCl RK} {d : RCl PzK} {e : RCl DkK}  (M_say : MCal1 P w K mg base e e.ok 12 "say" ["self", "row"] (sp_say K c d e)) {a : EA} (EM : ErrMx mg a) (R_NoName : Ref1 K a "NoName" a.NoName (os74 a)) (XS : PySem.W.exmOne K (.ref a.NoName) (.ref a.NoName) = some true) (BV : mg "ValueError" = none) {f : Addr} {fd : FuncData} (F : Fun K "_law_nobody" "_law_nobody" s__law_nobody f fd) : FnOk P w K mg base CX0 13 f fd ["_law_desk", "_law_row"] (sp__law_nobody K c d e) := by
  refine F.ok sc__law_nobody (fun vs H Q E h => sl__law_nobody h) (fun cdv A outer s H vs Q E hr h => ?_)
  have hu := hr.units
  have nd := sc__law_nobody.nd
  refine ⟨rd__law_nobody K c d e a, ?_, rk__law_nobody R_NoName XS h⟩
  exact (pss_cons (ps_set (i := 2) nd rfl (Or.inl rfl) pe_non)
      (pss_cons (ps_trym (i := 3) (fun _ _ z => z) M_say hr (by decide) (pv 0) (pa_cons (pv 1) pa_nil) nd rfl rfl rfl EM.NoName rfl rfl (fun _ => (pss_one (ps_set (i := 2) nd rfl (Or.inl rfl) (pe_callB call_kIsX rfl B.isinstance_ bt_isinstance (pa_cons (pv 3) (pa_cons (pe_bltn (v := .ty "ValueError") rfl BV bt_ValueError rfl) pa_nil)))))))
      (pss_one (ps_ret (pe_cmpR op_isB (pv 2) pe_bl (nomark _))))))
abbrev s__law_told : Stmt := top 256
theorem sc__law_told : FnScope ["_law_desk", "_law_stood", "_law_names_here", "_law_cell", "_law_name", "_law_kind"] ["_law_desk", "_law_stood", "_law_names_here", "_law_cell"] (defScope s__law_told) := ⟨rfl, rfl, rfl, by decide +kernel, rfl, by decide +kernel, by decide +kernel⟩
set_option maxHeartbeats 4000000 in
theorem fn__law_told {P : Program} {w : World} {K : PySem.W.Frag} {mg : Str → Option Value} {base : Heap} (B : Bt2 mg) {c : RCl RK} {d : RCl PzK} {e : RCl DkK} (C__law_nobody : Cal P w K mg base 13 "_law_nobody" ["_law_desk", "_law_row"] (sp__law_nobody K c d e)) (C__law_text : Cal P w K mg base 2 "_law_text" ["_law_cell"] (sp__law_text74 K)) (M_say : MCal1 P w K mg base e e.ok 12 "say" ["self", "row"] (sp_say K c d e)) {f : Addr} {fd : FuncData} (F : Fun K "_law_told" "_law_told" s__law_told f fd) : FnOk P w K mg base CX0 14 f fd ["_law_desk", "_law_stood", "_law_names_here", "_law_cell"] (sp__law_told74 K c d e) := by
  refine F.ok sc__law_told (fun vs H Q E h => sl__law_told74 h) (fun cdv A outer s H vs Q E hr h => ?_)
  have hu := hr.units
  have nd := sc__law_told.nd
  refine ⟨rd__law_told74 K c d e, ?_, rk__law_told74 h⟩
  exact (pss_cons (ps_set (i := 4) nd rfl (Or.inl rfl) (pe_ix (ix_c hu) (pv 2) (pe_op op_cMod (pv 3) pe_int) (fun _ _ => rfl)))
      (pss_cons (ps_set (i := 5) nd rfl (Or.inl rfl) (pe_op op_cMod (pe_op op_cDiv (pv 3) pe_int) pe_int))
      (pss_cons (ps_if (pt_cmpR op_cLt (pv 5) pe_int (nomark _)) (pss_cons (ps_dput (hu1 hu) (pv 1) (pv 4) (pe_cal C__law_text hr (by decide) rfl (pa_cons (pe_op op_cDiv (pv 3) pe_int) pa_nil)) rfl)
      (pss_one (ps_ret (pe_cmpR (op_cEq hu) (pe_methE pass1 M_say hr (by decide) (pv 0) (pa_cons (pe_op op_cAdd (pe_op op_cAdd (pe_op op_cAdd pe_str (pv 4)) pe_str) (pe_dget (hu1 hu) (pv 1) (pv 4) (fun _ _ => rfl))) pa_nil)) pe_str (nomark _))))) pss_nil)
      (pss_cons (ps_if (pt_cmp (pc_dnotin (hu1 hu) (pv 4) (pv 1)) (by with_unfolding_all rfl)) (pss_one (ps_ret (pe_cal C__law_nobody hr (by decide) rfl (pa_cons (pv 0) (pa_cons (pe_op op_cAdd (pe_ix (ix_c hu) (pe_lst (pa_cons pe_str (pa_cons pe_str pa_nil))) (pe_op op_cSub (pv 5) pe_int) (fun _ _ => rfl)) (pv 4)) pa_nil))))) pss_nil)
      (pss_cons (ps_if (pt_cmpR (op_cEq hu) (pv 5) pe_int (nomark _)) (pss_cons (ps_expr (pe_dpop1 (pv 1) (pv 4) ⟨rfl, rfl, rfl, rfl⟩))
      (pss_one (ps_ret (pe_cmpR (op_cEq hu) (pe_methE pass1 M_say hr (by decide) (pv 0) (pa_cons (pe_op op_cAdd pe_str (pv 4)) pa_nil)) pe_str (nomark _))))) pss_nil)
      (pss_one (ps_ret (pe_cmpR (op_cEq hu) (pe_methE pass1 M_say hr (by decide) (pv 0) (pa_cons (pe_op op_cAdd pe_str (pv 4)) pa_nil)) (pe_dget (hu1 hu) (pv 1) (pv 4) (fun _ _ => rfl)) (nomark _)))))))))
abbrev s_law : Stmt := top 257
theorem sc_law : FnScope ["_law_script", "_law_desk", "_law_other", "_law_names_here", "_law_stood", "_law_k", "_law_cell", "_law_name", "_law_found"] ["_law_script"] (defScope s_law) := ⟨rfl, rfl, rfl, by decide +kernel, rfl, by decide +kernel, by decide +kernel⟩
set_option maxHeartbeats 4000000 in
theorem fn_law {P : Program} {w : World} {K : PySem.W.Frag} {mg : Str → Option Value} {base : Heap} (B : Bt2 mg) {c : RCl RK} {d : RCl PzK} {e : RCl DkK} (C__law_cell_at : Cal P w K mg base 1 "_law_cell_at" ["_law_script", "_law_k"] (sp__law_cell_at74 K)) (C__law_names : Cal P w K mg base 2 "_law_names" ["_law_script"] (sp__law_names74 K)) (C__law_nobody : Cal P w K mg base 13 "_law_nobody" ["_law_desk", "_law_row"] (sp__law_nobody K c d e)) (C__law_told : Cal P w K mg base 14 "_law_told" ["_law_desk", "_law_stood", "_law_names_here", "_law_cell"] (sp__law_told74 K c d e)) (M_say : MCal1 P w K mg base e e.ok 12 "say" ["self", "row"] (sp_say K c d e)) (K_Desk : KCal P w K mg base 1 "Desk" (e.A .Desk) ["self"] (sp_Desk___init__ K c d e)) {f : Addr} {fd : FuncData} (F : Fun K "law" "law" s_law f fd) : FnOk P w K mg base CX0 15 f fd ["_law_script"] (sp_law K c d e) := by
  refine F.ok sc_law (fun vs H Q E h => sl_law h) (fun cdv A outer s H vs Q E hr h => ?_)
  have hu := hr.units
  have nd := sc_law.nd
  refine ⟨rd_law K c d e, ?_, rk_law h⟩
  exact (pss_cons (ps_set (i := 1) nd rfl (Or.inl rfl) (pe_mk0 K_Desk hr (by decide) rfl))
      (pss_cons (ps_set (i := 2) nd rfl (Or.inl rfl) (pe_mk0 K_Desk hr (by decide) rfl))
      (pss_cons (ps_set (i := 3) nd rfl (Or.inl rfl) (pe_cal C__law_names hr (by decide) rfl (pa_cons (pv 0) pa_nil)))
      (pss_cons (ps_set (i := 4) nd rfl (Or.inl rfl) pe_dnewK)
      (pss_cons (ps_for PassesOwn.never rfl (pi_range1 rfl B.range_ (pa_cons pe_int pa_nil)) (pg_name (i := 5) nd rfl (Or.inl rfl))
      (pss_cons (ps_set (i := 6) nd rfl (Or.inl rfl) (pe_op op_cMod (pe_op op_cMul (pe_op op_cAdd (pe_cal C__law_cell_at hr (by decide) rfl (pa_cons (pv 0) (pa_cons (pe_op op_cAdd pe_int (pv 5)) pa_nil))) (pe_op op_cMul (pe_op op_cMul pe_int (pv 5)) (pv 5))) pe_int) pe_int))
      (pss_one (ps_if (pt_not (pt_val (pe_cal C__law_told hr (by decide) rfl (pa_cons (pv 1) (pa_cons (pv 4) (pa_cons (pv 3) (pa_cons (pv 6) pa_nil))))))) (pss_one (ps_ret pe_bl)) pss_nil))))
      (pss_cons (ps_for PassesOwn.never rfl (pi_list (pe_op op_cAdd (pv 3) (pv 3))) (pg_name (i := 7) nd rfl (Or.inl rfl))
      (pss_cons (ps_if (pt_not (pt_val (pe_cal C__law_nobody hr (by decide) rfl (pa_cons (pv 2) (pa_cons (pe_op op_cAdd pe_str (pv 7)) pa_nil))))) (pss_one (ps_ret pe_bl)) pss_nil)
      (pss_one (ps_if (pt_cmp (pc_dnotin (hu1 hu) (pv 7) (pv 4)) (by with_unfolding_all rfl)) (pss_one (ps_if (pt_not (pt_val (pe_cal C__law_nobody hr (by decide) rfl (pa_cons (pv 1) (pa_cons (pe_op op_cAdd pe_str (pv 7)) pa_nil))))) (pss_one (ps_ret pe_bl)) pss_nil)) (pss_cons (ps_set (i := 8) nd rfl (Or.inl rfl) (pe_methE pass1 M_say hr (by decide) (pv 1) (pa_cons (pe_op op_cAdd pe_str (pv 7)) pa_nil)))
      (pss_one (ps_if (PW.pt (pw_or (pt_not (pt_val (pe_callB call_kIsi rfl B.isinstance_ bt_isinstance (pa_cons (pv 8) (pa_cons (pe_bltn (v := .ty "str") rfl B.str_ bt_str rfl) pa_nil))))) (pw_or1 (pt_cmpR (op_cNe hu) (pv 8) (pe_dget (hu1 hu) (pv 4) (pv 7) (fun _ _ => rfl)) (nomark _))))) (pss_one (ps_ret pe_bl)) pss_nil)))))))
      (pss_one (ps_ret pe_bl))))))))
def mkC (cA_Unlike cA_Sum cA_Rising cA_Seen cA_Count cA_Joined cA_NoSquare cA_Ring : Addr) : RCl RK := ⟨fun k => match k with | .Rule => cA_Unlike | .Unlike => cA_Unlike | .Sum => cA_Sum | .Rising => cA_Rising | .Seen => cA_Seen | .Count => cA_Count | .Joined => cA_Joined | .NoSquare => cA_NoSquare | .Ring => cA_Ring, fun k => match k with | .Rule => false | _ => true⟩
def mkD (cA_Puzzle : Addr) : RCl PzK := ⟨fun _ => cA_Puzzle, fun _ => true⟩
def mkE (cA_Desk : Addr) : RCl DkK := ⟨fun _ => cA_Desk, fun _ => true⟩
set_option maxHeartbeats 40000000 in
theorem all_mk {l : PySem.W.OpenLaw} {w : World} {K : PySem.W.Frag} {h : Heap} {mg : Str → Option Value} {fa : Addr} (X : K.In h) (G : h.Ns mainGlobals mg) (hfa : mg "law" = some (.ref fa))
    {f0 f1 f2 f3 f4 f5 f6 f7 f8 f9 f10 f11 f12 f13 f14 f15 f16 f17 f18 f19 f20 f21 f22 f23 f24 f25 f26 f27 f28 f29 f30 f31 f32 f33 f34 f35 f36 f37 f38 f39 f40 f41 f42 f43 f44 f45 f46 f47 : Addr} {fd0 fd1 fd2 fd3 fd4 fd5 fd6 fd7 fd8 fd9 fd10 fd11 fd12 fd13 fd14 fd15 fd16 fd17 fd18 fd19 fd20 fd21 fd22 fd23 fd24 fd25 fd26 fd27 fd28 fd29 fd30 fd31 fd32 fd33 fd34 fd35 fd36 fd37 fd38 fd39 fd40 fd41 fd42 fd43 fd44 fd45 fd46 fd47 : FuncData} {cA_Unlike cA_Sum cA_Rising cA_Seen cA_Count cA_Joined cA_NoSquare cA_Ring cA_Puzzle cA_Desk : Addr} {pt_OF_ALL_CELLS : Addr} {od_OF_ALL_CELLS : Option Addr} {nn_OF_ALL_CELLS : Nat} {sl_OF_ALL_CELLS : Array (Option Value)} {t0_OF_ALL_CELLS t1_OF_ALL_CELLS t2_OF_ALL_CELLS : Tok} {pt_WITH_NAME : Addr} {od_WITH_NAME : Option Addr} {nn_WITH_NAME : Nat} {sl_WITH_NAME : Array (Option Value)} {t0_WITH_NAME t1_WITH_NAME t2_WITH_NAME t3_WITH_NAME t4_WITH_NAME t5_WITH_NAME : Tok} {pt_WITH_NUMBER : Addr} {od_WITH_NUMBER : Option Addr} {nn_WITH_NUMBER : Nat} {sl_WITH_NUMBER : Array (Option Value)} {t0_WITH_NUMBER t1_WITH_NUMBER t2_WITH_NUMBER : Tok} {pt_WITH_SIGN : Addr} {od_WITH_SIGN : Option Addr} {nn_WITH_SIGN : Nat} {sl_WITH_SIGN : Array (Option Value)} {t0_WITH_SIGN t1_WITH_SIGN t2_WITH_SIGN t3_WITH_SIGN : Tok} {pt_WITH_TEXT : Addr} {od_WITH_TEXT : Option Addr} {nn_WITH_TEXT : Nat} {sl_WITH_TEXT : Array (Option Value)} {t0_WITH_TEXT t1_WITH_TEXT t2_WITH_TEXT t3_WITH_TEXT : Tok} {pt_WITH_TWO_NAMES : Addr} {od_WITH_TWO_NAMES : Option Addr} {nn_WITH_TWO_NAMES : Nat} {sl_WITH_TWO_NAMES : Array (Option Value)} {t0_WITH_TWO_NAMES : Tok} {tk_BETWEEN_PARTS : Tok} {tk_BETWEEN_ROWS : Tok} {tk_FIGURES_fillings : Tok} {tk_FIGURES_rows : Tok} {tk_LETTERS : Tok} {tk_MOST_CELLS : Tok} {tk_MOST_FIGURES : Tok} {tk_MOST_LETTERS : Tok} {tk_MOST_NUMBER : Tok} {tk_MOST_RULES : Tok} {tk_MOST_SIDE : Tok} {tk_MOST_SIGNS_floors : Tok} {x_ClueError x_NoName : Addr} {cE cC0 : Value} {dE dD : Option Addr} {esE : Array DictEntry} {nE : Nat} {sE slD : Array (Option Value)} {ND : Addr} {cdD : ClassData} {nm_NoName q_NoName : Str} {N_NoName : Addr} {bs_NoName : List Value} {hd_NoName : Bool} {sn_NoName : List Str} {sub_NoName : List Value} {ab_NoName : Bool} {col_NoName : Option Bool} {dd_NoName : Option Addr} {k0_NoName k1_NoName k2_NoName k3_NoName k5_NoName : Option Value} {cN_NoName : Value} {dN_NoName : Option Addr} {es_NoName : Array DictEntry} {n_NoName : Nat} {sN_NoName : Array (Option Value)}
    (q_Unlike : PySem.W.nsIn K mainGlobals "Unlike" = some (some (.ref cA_Unlike))) (q_Sum : PySem.W.nsIn K mainGlobals "Sum" = some (some (.ref cA_Sum))) (q_Rising : PySem.W.nsIn K mainGlobals "Rising" = some (some (.ref cA_Rising))) (q_Seen : PySem.W.nsIn K mainGlobals "Seen" = some (some (.ref cA_Seen))) (q_Count : PySem.W.nsIn K mainGlobals "Count" = some (some (.ref cA_Count))) (q_Joined : PySem.W.nsIn K mainGlobals "Joined" = some (some (.ref cA_Joined))) (q_NoSquare : PySem.W.nsIn K mainGlobals "NoSquare" = some (some (.ref cA_NoSquare))) (q_Ring : PySem.W.nsIn K mainGlobals "Ring" = some (some (.ref cA_Ring))) (q_Puzzle : PySem.W.nsIn K mainGlobals "Puzzle" = some (some (.ref cA_Puzzle))) (q_Desk : PySem.W.nsIn K mainGlobals "Desk" = some (some (.ref cA_Desk))) (a0 : PySem.W.nsIn K mainGlobals "is_whole" = some (some (.ref f0))) (a1 : PySem.W.nsIn K mainGlobals "many_cells" = some (some (.ref f1))) (mk2_Unlike : PySem.W.findIn K (.ref cA_Unlike) "__init__" = some (some (.ref f2))) (mk2_Sum : PySem.W.findIn K (.ref cA_Sum) "__init__" = some (some (.ref f2))) (mk2_Rising : PySem.W.findIn K (.ref cA_Rising) "__init__" = some (some (.ref f2))) (mk2_Seen : PySem.W.findIn K (.ref cA_Seen) "__init__" = some (some (.ref f2))) (mk2_Count : PySem.W.findIn K (.ref cA_Count) "__init__" = some (some (.ref f2))) (mk2_Joined : PySem.W.findIn K (.ref cA_Joined) "__init__" = some (some (.ref f2))) (mk2_NoSquare : PySem.W.findIn K (.ref cA_NoSquare) "__init__" = some (some (.ref f2))) (mk2_Ring : PySem.W.findIn K (.ref cA_Ring) "__init__" = some (some (.ref f2))) (a3_Unlike : PySem.W.findIn K (.ref cA_Unlike) "line" = some (some (.ref f3))) (a3_Sum : PySem.W.findIn K (.ref cA_Sum) "line" = some (some (.ref f3))) (a3_Rising : PySem.W.findIn K (.ref cA_Rising) "line" = some (some (.ref f3))) (a3_Seen : PySem.W.findIn K (.ref cA_Seen) "line" = some (some (.ref f3))) (a3_Count : PySem.W.findIn K (.ref cA_Count) "line" = some (some (.ref f3))) (a3_Joined : PySem.W.findIn K (.ref cA_Joined) "line" = some (some (.ref f3))) (a3_NoSquare : PySem.W.findIn K (.ref cA_NoSquare) "line" = some (some (.ref f3))) (a3_Ring : PySem.W.findIn K (.ref cA_Ring) "line" = some (some (.ref f3))) (a4 : PySem.W.nsIn K mainGlobals "number_in" = some (some (.ref f4))) (a5_Puzzle : PySem.W.findIn K (.ref cA_Puzzle) "place" = some (some (.ref f5))) (a6_Puzzle : PySem.W.findIn K (.ref cA_Puzzle) "clues" = some (some (.ref f6))) (a7 : PySem.W.nsIn K mainGlobals "show_row" = some (some (.ref f7))) (a8 : PySem.W.nsIn K mainGlobals "read_figure" = some (some (.ref f8))) (a9 : PySem.W.nsIn K mainGlobals "show_numbers" = some (some (.ref f9))) (a10 : PySem.W.nsIn K mainGlobals "refuse_no_text" = some (some (.ref f10))) (a11 : PySem.W.nsIn K mainGlobals "words_of" = some (some (.ref f11))) (a12 : PySem.W.nsIn K mainGlobals "is_name" = some (some (.ref f12))) (mk2_Desk : PySem.W.findIn K (.ref cA_Desk) "__init__" = some (some (.ref f13))) (a14_Desk : PySem.W.findIn K (.ref cA_Desk) "named" = some (some (.ref f14))) (a15_Desk : PySem.W.findIn K (.ref cA_Desk) "drop" = some (some (.ref f15))) (a16 : PySem.W.nsIn K mainGlobals "_law_cell_at" = some (some (.ref f16))) (a17 : PySem.W.nsIn K mainGlobals "_law_line" = some (some (.ref f17))) (a18 : PySem.W.nsIn K mainGlobals "is_from_one_to" = some (some (.ref f18))) (a19 : PySem.W.nsIn K mainGlobals "number_within" = some (some (.ref f19))) (a20 : PySem.W.nsIn K mainGlobals "is_filling" = some (some (.ref f20))) (a21_Puzzle : PySem.W.findIn K (.ref cA_Puzzle) "lines" = some (some (.ref f21))) (a22 : PySem.W.nsIn K mainGlobals "show_filling" = some (some (.ref f22))) (a23 : PySem.W.nsIn K mainGlobals "read_row" = some (some (.ref f23))) (a24 : PySem.W.nsIn K mainGlobals "read_numbers" = some (some (.ref f24))) (a25 : PySem.W.nsIn K mainGlobals "_law_names" = some (some (.ref f25))) (a26 : PySem.W.nsIn K mainGlobals "_law_text" = some (some (.ref f26))) (a27 : PySem.W.nsIn K mainGlobals "floor_of" = some (some (.ref f27))) (a28 : PySem.W.nsIn K mainGlobals "first_within" = some (some (.ref f28))) (a29 : PySem.W.nsIn K mainGlobals "told_cells" = some (some (.ref f29))) (a30 : PySem.W.nsIn K mainGlobals "rule_by" = some (some (.ref f30))) (a31 : PySem.W.nsIn K mainGlobals "checked_clues" = some (some (.ref f31))) (a32 : PySem.W.nsIn K mainGlobals "read_filling" = some (some (.ref f32))) (a33 : PySem.W.nsIn K mainGlobals "show_puzzle" = some (some (.ref f33))) (a34 : PySem.W.nsIn K mainGlobals "cells_of_rows" = some (some (.ref f34))) (a35 : PySem.W.nsIn K mainGlobals "checked_floor" = some (some (.ref f35))) (a36 : PySem.W.nsIn K mainGlobals "read_floor" = some (some (.ref f36))) (a37 : PySem.W.nsIn K mainGlobals "tell_of" = some (some (.ref f37))) (a38 : PySem.W.nsIn K mainGlobals "read_rule" = some (some (.ref f38))) (a39 : PySem.W.nsIn K mainGlobals "read_rules" = some (some (.ref f39))) (mk2_Puzzle : PySem.W.findIn K (.ref cA_Puzzle) "__init__" = some (some (.ref f40))) (a41_Puzzle : PySem.W.findIn K (.ref cA_Puzzle) "clued" = some (some (.ref f41))) (a42 : PySem.W.nsIn K mainGlobals "read_puzzle" = some (some (.ref f42))) (a43_Desk : PySem.W.findIn K (.ref cA_Desk) "put" = some (some (.ref f43))) (a44_Desk : PySem.W.findIn K (.ref cA_Desk) "say" = some (some (.ref f44))) (a45 : PySem.W.nsIn K mainGlobals "_law_nobody" = some (some (.ref f45))) (a46 : PySem.W.nsIn K mainGlobals "_law_told" = some (some (.ref f46))) (a47 : PySem.W.nsIn K mainGlobals "law" = some (some (.ref f47))) (F0 : Fun K "is_whole" "is_whole" s_is_whole f0 fd0) (F1 : Fun K "many_cells" "many_cells" s_many_cells f1 fd1) (F2 : Fun K "__init__" "Rule.__init__" s_Rule___init__ f2 fd2) (fn2 : PySem.W.isFn K (.ref f2) = true) (F3 : Fun K "line" "Rule.line" s_Rule_line f3 fd3) (fn3 : PySem.W.isFn K (.ref f3) = true) (F4 : Fun K "number_in" "number_in" s_number_in f4 fd4) (F5 : Fun K "place" "Puzzle.place" s_Puzzle_place f5 fd5) (fn5 : PySem.W.isFn K (.ref f5) = true) (F6 : Fun K "clues" "Puzzle.clues" s_Puzzle_clues f6 fd6) (fn6 : PySem.W.isFn K (.ref f6) = true) (F7 : Fun K "show_row" "show_row" s_show_row f7 fd7) (F8 : Fun K "read_figure" "read_figure" s_read_figure f8 fd8) (F9 : Fun K "show_numbers" "show_numbers" s_show_numbers f9 fd9) (F10 : Fun K "refuse_no_text" "refuse_no_text" s_refuse_no_text f10 fd10) (F11 : Fun K "words_of" "words_of" s_words_of f11 fd11) (F12 : Fun K "is_name" "is_name" s_is_name f12 fd12) (F13 : Fun K "__init__" "Desk.__init__" s_Desk___init__ f13 fd13) (fn13 : PySem.W.isFn K (.ref f13) = true) (F14 : Fun K "named" "Desk.named" s_Desk_named f14 fd14) (fn14 : PySem.W.isFn K (.ref f14) = true) (F15 : Fun K "drop" "Desk.drop" s_Desk_drop f15 fd15) (fn15 : PySem.W.isFn K (.ref f15) = true) (F16 : Fun K "_law_cell_at" "_law_cell_at" s__law_cell_at f16 fd16) (F17 : Fun K "_law_line" "_law_line" s__law_line f17 fd17) (F18 : Fun K "is_from_one_to" "is_from_one_to" s_is_from_one_to f18 fd18) (F19 : Fun K "number_within" "number_within" s_number_within f19 fd19) (F20 : Fun K "is_filling" "is_filling" s_is_filling f20 fd20) (F21 : Fun K "lines" "Puzzle.lines" s_Puzzle_lines f21 fd21) (fn21 : PySem.W.isFn K (.ref f21) = true) (F22 : Fun K "show_filling" "show_filling" s_show_filling f22 fd22) (F23 : Fun K "read_row" "read_row" s_read_row f23 fd23) (F24 : Fun K "read_numbers" "read_numbers" s_read_numbers f24 fd24) (F25 : Fun K "_law_names" "_law_names" s__law_names f25 fd25) (F26 : Fun K "_law_text" "_law_text" s__law_text f26 fd26) (F27 : Fun K "floor_of" "floor_of" s_floor_of f27 fd27) (F28 : Fun K "first_within" "first_within" s_first_within f28 fd28) (F29 : Fun K "told_cells" "told_cells" s_told_cells f29 fd29) (F30 : Fun K "rule_by" "rule_by" s_rule_by f30 fd30) (F31 : Fun K "checked_clues" "checked_clues" s_checked_clues f31 fd31) (F32 : Fun K "read_filling" "read_filling" s_read_filling f32 fd32) (F33 : Fun K "show_puzzle" "show_puzzle" s_show_puzzle f33 fd33) (F34 : Fun K "cells_of" "cells_of" s_cells_of_rows f34 fd34) (F35 : Fun K "checked_floor" "checked_floor" s_checked_floor f35 fd35) (F36 : Fun K "read_floor" "read_floor" s_read_floor f36 fd36) (F37 : Fun K "tell_of" "tell_of" s_tell_of f37 fd37) (F38 : Fun K "read_rule" "read_rule" s_read_rule f38 fd38) (F39 : Fun K "read_rules" "read_rules" s_read_rules f39 fd39) (F40 : Fun K "__init__" "Puzzle.__init__" s_Puzzle___init__ f40 fd40) (fn40 : PySem.W.isFn K (.ref f40) = true) (F41 : Fun K "clued" "Puzzle.clued" s_Puzzle_clued f41 fd41) (fn41 : PySem.W.isFn K (.ref f41) = true) (F42 : Fun K "read_puzzle" "read_puzzle" s_read_puzzle f42 fd42) (F43 : Fun K "put" "Desk.put" s_Desk_put f43 fd43) (fn43 : PySem.W.isFn K (.ref f43) = true) (F44 : Fun K "say" "Desk.say" s_Desk_say f44 fd44) (fn44 : PySem.W.isFn K (.ref f44) = true) (F45 : Fun K "_law_nobody" "_law_nobody" s__law_nobody f45 fd45) (F46 : Fun K "_law_told" "_law_told" s__law_told f46 fd46) (F47 : Fun K "law" "law" s_law f47 fd47) (mk1_Unlike : PySem.W.makesIn K cA_Unlike = true) (mk4_Unlike : PySem.W.keepIn K (.ref cA_Unlike) = true) (cl1_Unlike : PySem.W.plainGet K cA_Unlike Str.empty = true) (cl2_Unlike : PySem.W.hasDictIn K cA_Unlike = true) (cl3_Unlike : PySem.W.plainOver K cA_Unlike = true) (cl4_Unlike : PySem.W.findIn K (.ref cA_Unlike) "__setattr__" = some (some (.builtin "object.__setattr__"))) (mk1_Sum : PySem.W.makesIn K cA_Sum = true) (mk4_Sum : PySem.W.keepIn K (.ref cA_Sum) = true) (cl1_Sum : PySem.W.plainGet K cA_Sum Str.empty = true) (cl2_Sum : PySem.W.hasDictIn K cA_Sum = true) (cl3_Sum : PySem.W.plainOver K cA_Sum = true) (cl4_Sum : PySem.W.findIn K (.ref cA_Sum) "__setattr__" = some (some (.builtin "object.__setattr__"))) (mk1_Rising : PySem.W.makesIn K cA_Rising = true) (mk4_Rising : PySem.W.keepIn K (.ref cA_Rising) = true) (cl1_Rising : PySem.W.plainGet K cA_Rising Str.empty = true) (cl2_Rising : PySem.W.hasDictIn K cA_Rising = true) (cl3_Rising : PySem.W.plainOver K cA_Rising = true) (cl4_Rising : PySem.W.findIn K (.ref cA_Rising) "__setattr__" = some (some (.builtin "object.__setattr__"))) (mk1_Seen : PySem.W.makesIn K cA_Seen = true) (mk4_Seen : PySem.W.keepIn K (.ref cA_Seen) = true) (cl1_Seen : PySem.W.plainGet K cA_Seen Str.empty = true) (cl2_Seen : PySem.W.hasDictIn K cA_Seen = true) (cl3_Seen : PySem.W.plainOver K cA_Seen = true) (cl4_Seen : PySem.W.findIn K (.ref cA_Seen) "__setattr__" = some (some (.builtin "object.__setattr__"))) (mk1_Count : PySem.W.makesIn K cA_Count = true) (mk4_Count : PySem.W.keepIn K (.ref cA_Count) = true) (cl1_Count : PySem.W.plainGet K cA_Count Str.empty = true) (cl2_Count : PySem.W.hasDictIn K cA_Count = true) (cl3_Count : PySem.W.plainOver K cA_Count = true) (cl4_Count : PySem.W.findIn K (.ref cA_Count) "__setattr__" = some (some (.builtin "object.__setattr__"))) (mk1_Joined : PySem.W.makesIn K cA_Joined = true) (mk4_Joined : PySem.W.keepIn K (.ref cA_Joined) = true) (cl1_Joined : PySem.W.plainGet K cA_Joined Str.empty = true) (cl2_Joined : PySem.W.hasDictIn K cA_Joined = true) (cl3_Joined : PySem.W.plainOver K cA_Joined = true) (cl4_Joined : PySem.W.findIn K (.ref cA_Joined) "__setattr__" = some (some (.builtin "object.__setattr__"))) (mk1_NoSquare : PySem.W.makesIn K cA_NoSquare = true) (mk4_NoSquare : PySem.W.keepIn K (.ref cA_NoSquare) = true) (cl1_NoSquare : PySem.W.plainGet K cA_NoSquare Str.empty = true) (cl2_NoSquare : PySem.W.hasDictIn K cA_NoSquare = true) (cl3_NoSquare : PySem.W.plainOver K cA_NoSquare = true) (cl4_NoSquare : PySem.W.findIn K (.ref cA_NoSquare) "__setattr__" = some (some (.builtin "object.__setattr__"))) (mk1_Ring : PySem.W.makesIn K cA_Ring = true) (mk4_Ring : PySem.W.keepIn K (.ref cA_Ring) = true) (cl1_Ring : PySem.W.plainGet K cA_Ring Str.empty = true) (cl2_Ring : PySem.W.hasDictIn K cA_Ring = true) (cl3_Ring : PySem.W.plainOver K cA_Ring = true) (cl4_Ring : PySem.W.findIn K (.ref cA_Ring) "__setattr__" = some (some (.builtin "object.__setattr__"))) (mk1_Puzzle : PySem.W.makesIn K cA_Puzzle = true) (mk4_Puzzle : PySem.W.keepIn K (.ref cA_Puzzle) = true) (cl1_Puzzle : PySem.W.plainGet K cA_Puzzle Str.empty = true) (cl2_Puzzle : PySem.W.hasDictIn K cA_Puzzle = true) (cl3_Puzzle : PySem.W.plainOver K cA_Puzzle = true) (cl4_Puzzle : PySem.W.findIn K (.ref cA_Puzzle) "__setattr__" = some (some (.builtin "object.__setattr__"))) (mk1_Desk : PySem.W.makesIn K cA_Desk = true) (mk4_Desk : PySem.W.keepIn K (.ref cA_Desk) = true) (cl1_Desk : PySem.W.plainGet K cA_Desk Str.empty = true) (cl2_Desk : PySem.W.hasDictIn K cA_Desk = true) (cl3_Desk : PySem.W.plainOver K cA_Desk = true) (cl4_Desk : PySem.W.findIn K (.ref cA_Desk) "__setattr__" = some (some (.builtin "object.__setattr__"))) (na_c_amount_Unlike : PySem.W.findIn K (.ref cA_Unlike) "amount" = some none) (na_c_amount_Sum : PySem.W.findIn K (.ref cA_Sum) "amount" = some none) (na_c_amount_Rising : PySem.W.findIn K (.ref cA_Rising) "amount" = some none) (na_c_amount_Seen : PySem.W.findIn K (.ref cA_Seen) "amount" = some none) (na_c_amount_Count : PySem.W.findIn K (.ref cA_Count) "amount" = some none) (na_c_amount_Joined : PySem.W.findIn K (.ref cA_Joined) "amount" = some none) (na_c_amount_NoSquare : PySem.W.findIn K (.ref cA_NoSquare) "amount" = some none) (na_c_amount_Ring : PySem.W.findIn K (.ref cA_Ring) "amount" = some none) (na_c_cells_Unlike : PySem.W.findIn K (.ref cA_Unlike) "cells" = some none) (na_c_cells_Sum : PySem.W.findIn K (.ref cA_Sum) "cells" = some none) (na_c_cells_Rising : PySem.W.findIn K (.ref cA_Rising) "cells" = some none) (na_c_cells_Seen : PySem.W.findIn K (.ref cA_Seen) "cells" = some none) (na_c_cells_Count : PySem.W.findIn K (.ref cA_Count) "cells" = some none) (na_c_cells_Joined : PySem.W.findIn K (.ref cA_Joined) "cells" = some none) (na_c_cells_NoSquare : PySem.W.findIn K (.ref cA_NoSquare) "cells" = some none) (na_c_cells_Ring : PySem.W.findIn K (.ref cA_Ring) "cells" = some none) (na_c_floor_Unlike : PySem.W.findIn K (.ref cA_Unlike) "floor" = some none) (na_c_floor_Sum : PySem.W.findIn K (.ref cA_Sum) "floor" = some none) (na_c_floor_Rising : PySem.W.findIn K (.ref cA_Rising) "floor" = some none) (na_c_floor_Seen : PySem.W.findIn K (.ref cA_Seen) "floor" = some none) (na_c_floor_Count : PySem.W.findIn K (.ref cA_Count) "floor" = some none) (na_c_floor_Joined : PySem.W.findIn K (.ref cA_Joined) "floor" = some none) (na_c_floor_NoSquare : PySem.W.findIn K (.ref cA_NoSquare) "floor" = some none) (na_c_floor_Ring : PySem.W.findIn K (.ref cA_Ring) "floor" = some none) (na_c_mark_Unlike : PySem.W.findIn K (.ref cA_Unlike) "mark" = some none) (na_c_mark_Sum : PySem.W.findIn K (.ref cA_Sum) "mark" = some none) (na_c_mark_Rising : PySem.W.findIn K (.ref cA_Rising) "mark" = some none) (na_c_mark_Seen : PySem.W.findIn K (.ref cA_Seen) "mark" = some none) (na_c_mark_Count : PySem.W.findIn K (.ref cA_Count) "mark" = some none) (na_c_mark_Joined : PySem.W.findIn K (.ref cA_Joined) "mark" = some none) (na_c_mark_NoSquare : PySem.W.findIn K (.ref cA_NoSquare) "mark" = some none) (na_c_mark_Ring : PySem.W.findIn K (.ref cA_Ring) "mark" = some none) (na_c_words_Unlike : PySem.W.findIn K (.ref cA_Unlike) "words" = some none) (na_c_words_Sum : PySem.W.findIn K (.ref cA_Sum) "words" = some none) (na_c_words_Rising : PySem.W.findIn K (.ref cA_Rising) "words" = some none) (na_c_words_Seen : PySem.W.findIn K (.ref cA_Seen) "words" = some none) (na_c_words_Count : PySem.W.findIn K (.ref cA_Count) "words" = some none) (na_c_words_Joined : PySem.W.findIn K (.ref cA_Joined) "words" = some none) (na_c_words_NoSquare : PySem.W.findIn K (.ref cA_NoSquare) "words" = some none) (na_c_words_Ring : PySem.W.findIn K (.ref cA_Ring) "words" = some none) (na_d_floor_Puzzle : PySem.W.findIn K (.ref cA_Puzzle) "floor" = some none) (na_d_given_Puzzle : PySem.W.findIn K (.ref cA_Puzzle) "given" = some none) (na_d_laws_Puzzle : PySem.W.findIn K (.ref cA_Puzzle) "laws" = some none) (na_e_kept_Desk : PySem.W.findIn K (.ref cA_Desk) "kept" = some none) (gt1_OF_ALL_CELLS : PySem.W.nsIn K mainGlobals "OF_ALL_CELLS" = some (some (.ref pt_OF_ALL_CELLS))) (gt2_OF_ALL_CELLS : K.lookup pt_OF_ALL_CELLS = some ⟨.type "tuple", od_OF_ALL_CELLS, .seq #[.str (tx [106, 111, 105, 110, 101, 100]) t0_OF_ALL_CELLS, .str (tx [110, 111, 115, 113, 117, 97, 114, 101]) t1_OF_ALL_CELLS, .str (tx [114, 105, 110, 103]) t2_OF_ALL_CELLS] nn_OF_ALL_CELLS, sl_OF_ALL_CELLS⟩) (gt1_WITH_NAME : PySem.W.nsIn K mainGlobals "WITH_NAME" = some (some (.ref pt_WITH_NAME))) (gt2_WITH_NAME : K.lookup pt_WITH_NAME = some ⟨.type "tuple", od_WITH_NAME, .seq #[.str (tx [100, 114, 111, 112]) t0_WITH_NAME, .str (tx [115, 104, 111, 119]) t1_WITH_NAME, .str (tx [115, 111, 108, 118, 101]) t2_WITH_NAME, .str (tx [98, 111, 111, 107]) t3_WITH_NAME, .str (tx [110, 101, 101, 100, 115]) t4_WITH_NAME, .str (tx [108, 101, 97, 115, 116]) t5_WITH_NAME] nn_WITH_NAME, sl_WITH_NAME⟩) (gt1_WITH_NUMBER : PySem.W.nsIn K mainGlobals "WITH_NUMBER" = some (some (.ref pt_WITH_NUMBER))) (gt2_WITH_NUMBER : K.lookup pt_WITH_NUMBER = some ⟨.type "tuple", od_WITH_NUMBER, .seq #[.str (tx [115, 117, 109]) t0_WITH_NUMBER, .str (tx [115, 101, 101, 110]) t1_WITH_NUMBER, .str (tx [99, 111, 117, 110, 116]) t2_WITH_NUMBER] nn_WITH_NUMBER, sl_WITH_NUMBER⟩) (gt1_WITH_SIGN : PySem.W.nsIn K mainGlobals "WITH_SIGN" = some (some (.ref pt_WITH_SIGN))) (gt2_WITH_SIGN : K.lookup pt_WITH_SIGN = some ⟨.type "tuple", od_WITH_SIGN, .seq #[.str (tx [99, 111, 117, 110, 116]) t0_WITH_SIGN, .str (tx [106, 111, 105, 110, 101, 100]) t1_WITH_SIGN, .str (tx [110, 111, 115, 113, 117, 97, 114, 101]) t2_WITH_SIGN, .str (tx [114, 105, 110, 103]) t3_WITH_SIGN] nn_WITH_SIGN, sl_WITH_SIGN⟩) (gt1_WITH_TEXT : PySem.W.nsIn K mainGlobals "WITH_TEXT" = some (some (.ref pt_WITH_TEXT))) (gt2_WITH_TEXT : K.lookup pt_WITH_TEXT = some ⟨.type "tuple", od_WITH_TEXT, .seq #[.str (tx [112, 117, 122, 122, 108, 101]) t0_WITH_TEXT, .str (tx [99, 104, 101, 99, 107]) t1_WITH_TEXT, .str (tx [104, 105, 110, 116]) t2_WITH_TEXT, .str (tx [119, 114, 111, 110, 103]) t3_WITH_TEXT] nn_WITH_TEXT, sl_WITH_TEXT⟩) (gt1_WITH_TWO_NAMES : PySem.W.nsIn K mainGlobals "WITH_TWO_NAMES" = some (some (.ref pt_WITH_TWO_NAMES))) (gt2_WITH_TWO_NAMES : K.lookup pt_WITH_TWO_NAMES = some ⟨.type "tuple", od_WITH_TWO_NAMES, .seq #[.str (tx [97, 108, 105, 107, 101]) t0_WITH_TWO_NAMES] nn_WITH_TWO_NAMES, sl_WITH_TWO_NAMES⟩) (kc_BETWEEN_PARTS : PySem.W.nsIn K mainGlobals "BETWEEN_PARTS" = some (some (.str (tx [32, 124, 32]) tk_BETWEEN_PARTS))) (kc_BETWEEN_ROWS : PySem.W.nsIn K mainGlobals "BETWEEN_ROWS" = some (some (.str (tx [59, 32]) tk_BETWEEN_ROWS))) (kc_FIGURES_fillings : PySem.W.nsIn K mainGlobals "FIGURES_fillings" = some (some (.str (tx [46, 49, 50, 51, 52, 53, 54]) tk_FIGURES_fillings))) (kc_FIGURES_rows : PySem.W.nsIn K mainGlobals "FIGURES_rows" = some (some (.str (tx [48, 49, 50, 51, 52, 53, 54, 55, 56, 57]) tk_FIGURES_rows))) (kc_LETTERS : PySem.W.nsIn K mainGlobals "LETTERS" = some (some (.str (tx [97, 98, 99, 100, 101, 102, 103, 104, 105, 106, 107, 108, 109, 110, 111, 112, 113, 114, 115, 116, 117, 118, 119, 120, 121, 122]) tk_LETTERS))) (kc_MOST_CELLS : PySem.W.nsIn K mainGlobals "MOST_CELLS" = some (some (.int 16 tk_MOST_CELLS))) (kc_MOST_FIGURES : PySem.W.nsIn K mainGlobals "MOST_FIGURES" = some (some (.int 9 tk_MOST_FIGURES))) (kc_MOST_LETTERS : PySem.W.nsIn K mainGlobals "MOST_LETTERS" = some (some (.int 8 tk_MOST_LETTERS))) (kc_MOST_NUMBER : PySem.W.nsIn K mainGlobals "MOST_NUMBER" = some (some (.int 99 tk_MOST_NUMBER))) (kc_MOST_RULES : PySem.W.nsIn K mainGlobals "MOST_RULES" = some (some (.int 12 tk_MOST_RULES))) (kc_MOST_SIDE : PySem.W.nsIn K mainGlobals "MOST_SIDE" = some (some (.int 6 tk_MOST_SIDE))) (kc_MOST_SIGNS_floors : PySem.W.nsIn K mainGlobals "MOST_SIGNS_floors" = some (some (.int 6 tk_MOST_SIGNS_floors))) (z_len : PySem.W.nsIn K mainGlobals "len" = some none) (z_abs : PySem.W.nsIn K mainGlobals "abs" = some none) (z_min : PySem.W.nsIn K mainGlobals "min" = some none) (z_max : PySem.W.nsIn K mainGlobals "max" = some none) (z_sorted : PySem.W.nsIn K mainGlobals "sorted" = some none) (z_any : PySem.W.nsIn K mainGlobals "any" = some none) (z_isinstance : PySem.W.nsIn K mainGlobals "isinstance" = some none) (z_list : PySem.W.nsIn K mainGlobals "list" = some none) (z_int : PySem.W.nsIn K mainGlobals "int" = some none) (z_bool : PySem.W.nsIn K mainGlobals "bool" = some none) (z_str : PySem.W.nsIn K mainGlobals "str" = some none) (z_tuple : PySem.W.nsIn K mainGlobals "tuple" = some none) (z_reversed : PySem.W.nsIn K mainGlobals "reversed" = some none) (z_set : PySem.W.nsIn K mainGlobals "set" = some none) (z_range : PySem.W.nsIn K mainGlobals "range" = some none) (z_zip : PySem.W.nsIn K mainGlobals "zip" = some none) (z_all : PySem.W.nsIn K mainGlobals "all" = some none) (z_sum : PySem.W.nsIn K mainGlobals "sum" = some none) (z_enumerate : PySem.W.nsIn K mainGlobals "enumerate" = some none) (e_ClueError : PySem.W.nsIn K mainGlobals "ClueError" = some (some (.ref x_ClueError))) (e_NoName : PySem.W.nsIn K mainGlobals "NoName" = some (some (.ref x_NoName))) (z_ValueError : PySem.W.nsIn K mainGlobals "ValueError" = some none) (D1 : K.lookup x_ClueError = some ⟨cC0, dD, .cls cdD, slD⟩) (D2 : cdD.ns = ND) (D3 : K.lookup ND = some ⟨cE, dE, .dict esE nE, sE⟩) (D4 : noInitE esE = true) (r1_NoName : K.lookup x_NoName = some (excClassObj nm_NoName q_NoName x_NoName N_NoName bs_NoName (.ref x_ClueError :: VE) hd_NoName sn_NoName sub_NoName ab_NoName col_NoName dd_NoName k0_NoName k1_NoName k2_NoName k3_NoName k5_NoName "ValueError.__new__")) (r2_NoName : K.lookup N_NoName = some ⟨cN_NoName, dN_NoName, .dict es_NoName n_NoName, sN_NoName⟩) (r3_NoName : noInitE es_NoName = true) (f1_NoName : PySem.W.findIn K (.ref x_NoName) "__getattribute__" = some (some (.builtin "BaseException.__getattribute__"))) (f2_NoName : PySem.W.findIn K (.ref x_NoName) "__getattr__" = some none) (f3_NoName : PySem.W.findIn K (.ref x_NoName) "__class__" = some (some (.builtin "object.__class__"))) (f4_NoName : PySem.W.mroIn K x_NoName (.type "object") = some true) (f5_NoName : PySem.W.mroIn K x_NoName (.type "BaseException") = some true) (f6_NoName : PySem.W.kitOne K (.ref x_NoName) (.type "ValueError") = some true) (f7_NoName : PySem.W.exmOne K (.ref x_NoName) (.ref x_ClueError) = some true) (xs_NoName : PySem.W.exmOne K (.ref x_NoName) (.ref x_NoName) = some true) :
    ∃ fd : FuncData, (∀ (s : Shared) (v : Value), BindsTo s fd ⟨[v], []⟩ [("_law_script", v)]) ∧ ∀ base : Heap, K.In base → base.Ns mainGlobals mg → FnOk l.prog w K mg base CX0 15 fa fd ["_law_script"] (sp_law0 K) := by
  have e := hfa.symm.trans (PySem.W.mg_of X G a47)
  cases e
  have B : Bt2 mg := ⟨⟨PySem.W.mg_none_of X G z_len, PySem.W.mg_none_of X G z_abs, PySem.W.mg_none_of X G z_min, PySem.W.mg_none_of X G z_max, PySem.W.mg_none_of X G z_sorted, PySem.W.mg_none_of X G z_any, PySem.W.mg_none_of X G z_isinstance, PySem.W.mg_none_of X G z_list, PySem.W.mg_none_of X G z_int, PySem.W.mg_none_of X G z_bool, PySem.W.mg_none_of X G z_str, PySem.W.mg_none_of X G z_tuple, PySem.W.mg_none_of X G z_reversed, PySem.W.mg_none_of X G z_set, PySem.W.mg_none_of X G z_range, PySem.W.mg_none_of X G z_zip⟩, PySem.W.mg_none_of X G z_all, PySem.W.mg_none_of X G z_sum, PySem.W.mg_none_of X G z_enumerate⟩
  obtain ⟨oc, od, kV, doc, pm, an, cdv, ct, osl, rfl, lk, hcd⟩ := F47.ex
  refine ⟨PySem.W.fnOf "law" "law" (defArgs s_law) (defBody s_law) (defScope s_law) .none kV doc pm an cdv ct, fun s v => .of_eq rfl, fun base _ _ => ?_⟩
  let c : RCl RK := mkC cA_Unlike cA_Sum cA_Rising cA_Seen cA_Count cA_Joined cA_NoSquare cA_Ring
  let d : RCl PzK := mkD cA_Puzzle
  let e : RCl DkK := mkE cA_Desk
  have C_BETWEEN_PARTS := PySem.W.mg_of X G kc_BETWEEN_PARTS
  have C_BETWEEN_ROWS := PySem.W.mg_of X G kc_BETWEEN_ROWS
  have C_FIGURES_fillings := PySem.W.mg_of X G kc_FIGURES_fillings
  have C_FIGURES_rows := PySem.W.mg_of X G kc_FIGURES_rows
  have C_LETTERS := PySem.W.mg_of X G kc_LETTERS
  have C_MOST_CELLS := PySem.W.mg_of X G kc_MOST_CELLS
  have C_MOST_FIGURES := PySem.W.mg_of X G kc_MOST_FIGURES
  have C_MOST_LETTERS := PySem.W.mg_of X G kc_MOST_LETTERS
  have C_MOST_NUMBER := PySem.W.mg_of X G kc_MOST_NUMBER
  have C_MOST_RULES := PySem.W.mg_of X G kc_MOST_RULES
  have C_MOST_SIDE := PySem.W.mg_of X G kc_MOST_SIDE
  have C_MOST_SIGNS_floors := PySem.W.mg_of X G kc_MOST_SIGNS_floors
  let a : EA := (⟨x_ClueError, x_ClueError, x_ClueError, x_ClueError, x_ClueError, x_ClueError, x_ClueError, x_ClueError, x_ClueError, x_NoName, x_ClueError, x_ClueError⟩ : EA)
  have EM : ErrMx mg a := ⟨PySem.W.mg_of X G e_ClueError, PySem.W.mg_of X G e_NoName⟩
  have BV := PySem.W.mg_none_of X G z_ValueError
  have R_NoName : Ref1 K a "NoName" a.NoName (os74 a) := ⟨e_NoName, xc_of r1_NoName r2_NoName r3_NoName D1 D2 D3 D4, ⟨f1_NoName, f2_NoName, f3_NoName, f4_NoName, f5_NoName⟩, f6_NoName, f7_NoName, (fun _ z => nomatch z)⟩
  have cls_Unlike : Cls K cA_Unlike := ⟨cl1_Unlike, cl2_Unlike, cl3_Unlike, cl4_Unlike⟩
  have cls_Sum : Cls K cA_Sum := ⟨cl1_Sum, cl2_Sum, cl3_Sum, cl4_Sum⟩
  have cls_Rising : Cls K cA_Rising := ⟨cl1_Rising, cl2_Rising, cl3_Rising, cl4_Rising⟩
  have cls_Seen : Cls K cA_Seen := ⟨cl1_Seen, cl2_Seen, cl3_Seen, cl4_Seen⟩
  have cls_Count : Cls K cA_Count := ⟨cl1_Count, cl2_Count, cl3_Count, cl4_Count⟩
  have cls_Joined : Cls K cA_Joined := ⟨cl1_Joined, cl2_Joined, cl3_Joined, cl4_Joined⟩
  have cls_NoSquare : Cls K cA_NoSquare := ⟨cl1_NoSquare, cl2_NoSquare, cl3_NoSquare, cl4_NoSquare⟩
  have cls_Ring : Cls K cA_Ring := ⟨cl1_Ring, cl2_Ring, cl3_Ring, cl4_Ring⟩
  have cls_Puzzle : Cls K cA_Puzzle := ⟨cl1_Puzzle, cl2_Puzzle, cl3_Puzzle, cl4_Puzzle⟩
  have cls_Desk : Cls K cA_Desk := ⟨cl1_Desk, cl2_Desk, cl3_Desk, cl4_Desk⟩
  have FK_c_amount : FldK K c "amount" := ⟨fun i hi => by cases i with | Rule => exact (Bool.false_ne_true hi).elim | Unlike => exact ⟨cls_Unlike, na_c_amount_Unlike⟩ | Sum => exact ⟨cls_Sum, na_c_amount_Sum⟩ | Rising => exact ⟨cls_Rising, na_c_amount_Rising⟩ | Seen => exact ⟨cls_Seen, na_c_amount_Seen⟩ | Count => exact ⟨cls_Count, na_c_amount_Count⟩ | Joined => exact ⟨cls_Joined, na_c_amount_Joined⟩ | NoSquare => exact ⟨cls_NoSquare, na_c_amount_NoSquare⟩ | Ring => exact ⟨cls_Ring, na_c_amount_Ring⟩⟩
  have FK_c_cells : FldK K c "cells" := ⟨fun i hi => by cases i with | Rule => exact (Bool.false_ne_true hi).elim | Unlike => exact ⟨cls_Unlike, na_c_cells_Unlike⟩ | Sum => exact ⟨cls_Sum, na_c_cells_Sum⟩ | Rising => exact ⟨cls_Rising, na_c_cells_Rising⟩ | Seen => exact ⟨cls_Seen, na_c_cells_Seen⟩ | Count => exact ⟨cls_Count, na_c_cells_Count⟩ | Joined => exact ⟨cls_Joined, na_c_cells_Joined⟩ | NoSquare => exact ⟨cls_NoSquare, na_c_cells_NoSquare⟩ | Ring => exact ⟨cls_Ring, na_c_cells_Ring⟩⟩
  have FK_c_floor : FldK K c "floor" := ⟨fun i hi => by cases i with | Rule => exact (Bool.false_ne_true hi).elim | Unlike => exact ⟨cls_Unlike, na_c_floor_Unlike⟩ | Sum => exact ⟨cls_Sum, na_c_floor_Sum⟩ | Rising => exact ⟨cls_Rising, na_c_floor_Rising⟩ | Seen => exact ⟨cls_Seen, na_c_floor_Seen⟩ | Count => exact ⟨cls_Count, na_c_floor_Count⟩ | Joined => exact ⟨cls_Joined, na_c_floor_Joined⟩ | NoSquare => exact ⟨cls_NoSquare, na_c_floor_NoSquare⟩ | Ring => exact ⟨cls_Ring, na_c_floor_Ring⟩⟩
  have FK_c_mark : FldK K c "mark" := ⟨fun i hi => by cases i with | Rule => exact (Bool.false_ne_true hi).elim | Unlike => exact ⟨cls_Unlike, na_c_mark_Unlike⟩ | Sum => exact ⟨cls_Sum, na_c_mark_Sum⟩ | Rising => exact ⟨cls_Rising, na_c_mark_Rising⟩ | Seen => exact ⟨cls_Seen, na_c_mark_Seen⟩ | Count => exact ⟨cls_Count, na_c_mark_Count⟩ | Joined => exact ⟨cls_Joined, na_c_mark_Joined⟩ | NoSquare => exact ⟨cls_NoSquare, na_c_mark_NoSquare⟩ | Ring => exact ⟨cls_Ring, na_c_mark_Ring⟩⟩
  have FK_c_words : FldK K c "words" := ⟨fun i hi => by cases i with | Rule => exact (Bool.false_ne_true hi).elim | Unlike => exact ⟨cls_Unlike, na_c_words_Unlike⟩ | Sum => exact ⟨cls_Sum, na_c_words_Sum⟩ | Rising => exact ⟨cls_Rising, na_c_words_Rising⟩ | Seen => exact ⟨cls_Seen, na_c_words_Seen⟩ | Count => exact ⟨cls_Count, na_c_words_Count⟩ | Joined => exact ⟨cls_Joined, na_c_words_Joined⟩ | NoSquare => exact ⟨cls_NoSquare, na_c_words_NoSquare⟩ | Ring => exact ⟨cls_Ring, na_c_words_Ring⟩⟩
  have FK_d_floor : FldK K d "floor" := ⟨fun i hi => by cases i; exact ⟨cls_Puzzle, na_d_floor_Puzzle⟩⟩
  have FK_d_given : FldK K d "given" := ⟨fun i hi => by cases i; exact ⟨cls_Puzzle, na_d_given_Puzzle⟩⟩
  have FK_d_laws : FldK K d "laws" := ⟨fun i hi => by cases i; exact ⟨cls_Puzzle, na_d_laws_Puzzle⟩⟩
  have FK_e_kept : FldK K e "kept" := ⟨fun i hi => by cases i; exact ⟨cls_Desk, na_e_kept_Desk⟩⟩
  have G_OF_ALL_CELLS : GTup K mg "OF_ALL_CELLS" gt_OF_ALL_CELLS := ⟨pt_OF_ALL_CELLS, _, _, _, PySem.W.mg_of X G gt1_OF_ALL_CELLS, gt2_OF_ALL_CELLS, rfl, rfl, Nat.le_of_lt (small1000 (by show (3 : Nat) ≤ 1000; decide)), (.cons ⟨_, rfl⟩ (.cons ⟨_, rfl⟩ (.cons ⟨_, rfl⟩ .nil)))⟩
  have G_WITH_NAME : GTup K mg "WITH_NAME" gt_WITH_NAME := ⟨pt_WITH_NAME, _, _, _, PySem.W.mg_of X G gt1_WITH_NAME, gt2_WITH_NAME, rfl, rfl, Nat.le_of_lt (small1000 (by show (6 : Nat) ≤ 1000; decide)), (.cons ⟨_, rfl⟩ (.cons ⟨_, rfl⟩ (.cons ⟨_, rfl⟩ (.cons ⟨_, rfl⟩ (.cons ⟨_, rfl⟩ (.cons ⟨_, rfl⟩ .nil))))))⟩
  have G_WITH_NUMBER : GTup K mg "WITH_NUMBER" gt_WITH_NUMBER := ⟨pt_WITH_NUMBER, _, _, _, PySem.W.mg_of X G gt1_WITH_NUMBER, gt2_WITH_NUMBER, rfl, rfl, Nat.le_of_lt (small1000 (by show (3 : Nat) ≤ 1000; decide)), (.cons ⟨_, rfl⟩ (.cons ⟨_, rfl⟩ (.cons ⟨_, rfl⟩ .nil)))⟩
  have G_WITH_SIGN : GTup K mg "WITH_SIGN" gt_WITH_SIGN := ⟨pt_WITH_SIGN, _, _, _, PySem.W.mg_of X G gt1_WITH_SIGN, gt2_WITH_SIGN, rfl, rfl, Nat.le_of_lt (small1000 (by show (4 : Nat) ≤ 1000; decide)), (.cons ⟨_, rfl⟩ (.cons ⟨_, rfl⟩ (.cons ⟨_, rfl⟩ (.cons ⟨_, rfl⟩ .nil))))⟩
  have G_WITH_TEXT : GTup K mg "WITH_TEXT" gt_WITH_TEXT := ⟨pt_WITH_TEXT, _, _, _, PySem.W.mg_of X G gt1_WITH_TEXT, gt2_WITH_TEXT, rfl, rfl, Nat.le_of_lt (small1000 (by show (4 : Nat) ≤ 1000; decide)), (.cons ⟨_, rfl⟩ (.cons ⟨_, rfl⟩ (.cons ⟨_, rfl⟩ (.cons ⟨_, rfl⟩ .nil))))⟩
  have G_WITH_TWO_NAMES : GTup K mg "WITH_TWO_NAMES" gt_WITH_TWO_NAMES := ⟨pt_WITH_TWO_NAMES, _, _, _, PySem.W.mg_of X G gt1_WITH_TWO_NAMES, gt2_WITH_TWO_NAMES, rfl, rfl, Nat.le_of_lt (small1000 (by show (1 : Nat) ≤ 1000; decide)), (.cons ⟨_, rfl⟩ .nil)⟩
  have C_is_whole : Cal l.prog w K mg base _ _ _ (sp_is_whole K) := cal1 (fn_is_whole B  F0) F0 (PySem.W.mg_of X G a0)
  have C_many_cells : Cal l.prog w K mg base _ _ _ (sp_many_cells K) := cal1 (fn_many_cells B  F1) F1 (PySem.W.mg_of X G a1)
  have bd2 : Binds K fd2 ["self", "floor", "words", "cells", "amount", "mark"] [] := bind6 F2
  have T2 : FnOk l.prog w K mg base CX0 1 f2 fd2 _ (sp_Rule___init__ K c) := fn_Rule___init__ (c := c) B  FK_c_amount FK_c_cells FK_c_floor FK_c_mark FK_c_words F2
  have K_Unlike : KCal l.prog w K mg base _ "Unlike" (c.A .Unlike) _ (sp_Rule___init__ K c) := ⟨f2, _, ⟨mk1_Unlike, mk2_Unlike, fn2, mk4_Unlike⟩, T2, PySem.W.mg_of X G q_Unlike, bd2⟩
  have K_Sum : KCal l.prog w K mg base _ "Sum" (c.A .Sum) _ (sp_Rule___init__ K c) := ⟨f2, _, ⟨mk1_Sum, mk2_Sum, fn2, mk4_Sum⟩, T2, PySem.W.mg_of X G q_Sum, bd2⟩
  have K_Rising : KCal l.prog w K mg base _ "Rising" (c.A .Rising) _ (sp_Rule___init__ K c) := ⟨f2, _, ⟨mk1_Rising, mk2_Rising, fn2, mk4_Rising⟩, T2, PySem.W.mg_of X G q_Rising, bd2⟩
  have K_Seen : KCal l.prog w K mg base _ "Seen" (c.A .Seen) _ (sp_Rule___init__ K c) := ⟨f2, _, ⟨mk1_Seen, mk2_Seen, fn2, mk4_Seen⟩, T2, PySem.W.mg_of X G q_Seen, bd2⟩
  have K_Count : KCal l.prog w K mg base _ "Count" (c.A .Count) _ (sp_Rule___init__ K c) := ⟨f2, _, ⟨mk1_Count, mk2_Count, fn2, mk4_Count⟩, T2, PySem.W.mg_of X G q_Count, bd2⟩
  have K_Joined : KCal l.prog w K mg base _ "Joined" (c.A .Joined) _ (sp_Rule___init__ K c) := ⟨f2, _, ⟨mk1_Joined, mk2_Joined, fn2, mk4_Joined⟩, T2, PySem.W.mg_of X G q_Joined, bd2⟩
  have K_NoSquare : KCal l.prog w K mg base _ "NoSquare" (c.A .NoSquare) _ (sp_Rule___init__ K c) := ⟨f2, _, ⟨mk1_NoSquare, mk2_NoSquare, fn2, mk4_NoSquare⟩, T2, PySem.W.mg_of X G q_NoSquare, bd2⟩
  have K_Ring : KCal l.prog w K mg base _ "Ring" (c.A .Ring) _ (sp_Rule___init__ K c) := ⟨f2, _, ⟨mk1_Ring, mk2_Ring, fn2, mk4_Ring⟩, T2, PySem.W.mg_of X G q_Ring, bd2⟩
  have bd3 : Binds K fd3 ["self"] [] := bind1 F3
  have T3 : FnOk l.prog w K mg base CX0 1 f3 fd3 _ (sp_Rule_line K c) := fn_Rule_line (c := c) B  FK_c_words F3
  have M_line : MCal l.prog w K mg base c c.ok 1 "line" ["self"] (sp_line K c) := ⟨fun i hi => by cases i with | Rule => exact (Bool.false_ne_true hi).elim | Unlike => exact ⟨f3, _, cls_Unlike, ⟨a3_Unlike, fn3, F3.kp⟩, (T3.mono (by decide)).imp (fun vs H Q E h => ⟨.Unlike, h⟩), bd3⟩ | Sum => exact ⟨f3, _, cls_Sum, ⟨a3_Sum, fn3, F3.kp⟩, (T3.mono (by decide)).imp (fun vs H Q E h => ⟨.Sum, h⟩), bd3⟩ | Rising => exact ⟨f3, _, cls_Rising, ⟨a3_Rising, fn3, F3.kp⟩, (T3.mono (by decide)).imp (fun vs H Q E h => ⟨.Rising, h⟩), bd3⟩ | Seen => exact ⟨f3, _, cls_Seen, ⟨a3_Seen, fn3, F3.kp⟩, (T3.mono (by decide)).imp (fun vs H Q E h => ⟨.Seen, h⟩), bd3⟩ | Count => exact ⟨f3, _, cls_Count, ⟨a3_Count, fn3, F3.kp⟩, (T3.mono (by decide)).imp (fun vs H Q E h => ⟨.Count, h⟩), bd3⟩ | Joined => exact ⟨f3, _, cls_Joined, ⟨a3_Joined, fn3, F3.kp⟩, (T3.mono (by decide)).imp (fun vs H Q E h => ⟨.Joined, h⟩), bd3⟩ | NoSquare => exact ⟨f3, _, cls_NoSquare, ⟨a3_NoSquare, fn3, F3.kp⟩, (T3.mono (by decide)).imp (fun vs H Q E h => ⟨.NoSquare, h⟩), bd3⟩ | Ring => exact ⟨f3, _, cls_Ring, ⟨a3_Ring, fn3, F3.kp⟩, (T3.mono (by decide)).imp (fun vs H Q E h => ⟨.Ring, h⟩), bd3⟩⟩
  have C_number_in : Cal l.prog w K mg base _ _ _ (sp_number_in K) := cal1 (fn_number_in B  C_FIGURES_rows C_MOST_FIGURES F4) F4 (PySem.W.mg_of X G a4)
  have bd5 : Binds K fd5 ["self"] [] := bind1 F5
  have T5 : FnOk l.prog w K mg base CX0 1 f5 fd5 _ (sp_Puzzle_place K c d) := fn_Puzzle_place (c := c) (d := d) B  FK_d_floor F5
  have M_place : MCal l.prog w K mg base d d.ok 1 "place" ["self"] (sp_place K c d) := ⟨fun i hi => by cases i; exact ⟨f5, _, cls_Puzzle, ⟨a5_Puzzle, fn5, F5.kp⟩, (T5.mono (by decide)).imp (fun vs H Q E h => h), bd5⟩⟩
  have bd6 : Binds K fd6 ["self"] [] := bind1 F6
  have T6 : FnOk l.prog w K mg base CX0 1 f6 fd6 _ (sp_Puzzle_clues K c d) := fn_Puzzle_clues (c := c) (d := d) B  FK_d_given F6
  have M_clues : MCal l.prog w K mg base d d.ok 1 "clues" ["self"] (sp_clues K c d) := ⟨fun i hi => by cases i; exact ⟨f6, _, cls_Puzzle, ⟨a6_Puzzle, fn6, F6.kp⟩, (T6.mono (by decide)).imp (fun vs H Q E h => h), bd6⟩⟩
  have C_show_row : Cal l.prog w K mg base _ _ _ (sp_show_row K) := cal1 (fn_show_row B  C_FIGURES_fillings F7) F7 (PySem.W.mg_of X G a7)
  have C_read_figure : Cal l.prog w K mg base _ _ _ (sp_read_figure K) := cal2 (fn_read_figure B  C_FIGURES_fillings F8) F8 (PySem.W.mg_of X G a8)
  have C_show_numbers : Cal l.prog w K mg base _ _ _ (sp_show_numbers K) := cal1 (fn_show_numbers B  F9) F9 (PySem.W.mg_of X G a9)
  have C_refuse_no_text : Cal l.prog w K mg base _ _ _ (sp_refuse_no_text K) := cal1 (fn_refuse_no_text B  F10) F10 (PySem.W.mg_of X G a10)
  have C_words_of : Cal l.prog w K mg base _ _ _ (sp_words_of K) := cal1 (fn_words_of B  G_WITH_NAME G_WITH_TEXT G_WITH_TWO_NAMES F11) F11 (PySem.W.mg_of X G a11)
  have C_is_name : Cal l.prog w K mg base _ _ _ (sp_is_name K) := cal1 (fn_is_name B  C_LETTERS C_MOST_LETTERS F12) F12 (PySem.W.mg_of X G a12)
  have bd13 : Binds K fd13 ["self"] [] := bind1 F13
  have T13 : FnOk l.prog w K mg base CX0 1 f13 fd13 _ (sp_Desk___init__ K c d e) := fn_Desk___init__ (c := c) (d := d) (e := e) B  FK_e_kept F13
  have K_Desk : KCal l.prog w K mg base _ "Desk" (e.A .Desk) _ (sp_Desk___init__ K c d e) := ⟨f13, _, ⟨mk1_Desk, mk2_Desk, fn13, mk4_Desk⟩, T13, PySem.W.mg_of X G q_Desk, bd13⟩
  have bd14 : Binds K fd14 ["self", "name"] [] := bind2 F14
  have T14 : FnOk l.prog w K mg base (CX1 l.prog w) 1 f14 fd14 _ (sp_Desk_named K c d e) := fn_Desk_named (c := c) (d := d) (e := e) B  FK_e_kept EM R_NoName F14
  have M_named : MCal1 l.prog w K mg base e e.ok 1 "named" ["self", "name"] (sp_named K c d e) := ⟨fun i hi => by cases i; exact ⟨f14, _, cls_Desk, ⟨a14_Desk, fn14, F14.kp⟩, (T14.mono (by decide)).imp (fun vs H Q E h => h), bd14⟩⟩
  have bd15 : Binds K fd15 ["self", "name"] [] := bind2 F15
  have T15 : FnOk l.prog w K mg base CX0 1 f15 fd15 _ (sp_Desk_drop K c d e) := fn_Desk_drop (c := c) (d := d) (e := e) B  FK_e_kept F15
  have M_drop : MCal l.prog w K mg base e e.ok 1 "drop" ["self", "name"] (sp_drop K c d e) := ⟨fun i hi => by cases i; exact ⟨f15, _, cls_Desk, ⟨a15_Desk, fn15, F15.kp⟩, (T15.mono (by decide)).imp (fun vs H Q E h => h), bd15⟩⟩
  have C__law_cell_at : Cal l.prog w K mg base _ _ _ (sp__law_cell_at74 K) := cal2 (fn__law_cell_at B  F16) F16 (PySem.W.mg_of X G a16)
  have C__law_line : Cal l.prog w K mg base _ _ _ (sp__law_line74 K) := cal3 (fn__law_line B  F17) F17 (PySem.W.mg_of X G a17)
  have C_is_from_one_to : Cal l.prog w K mg base _ _ _ (sp_is_from_one_to K) := cal2 (fn_is_from_one_to B C_is_whole F18) F18 (PySem.W.mg_of X G a18)
  have C_number_within : Cal l.prog w K mg base _ _ _ (sp_number_within K) := cal3 (fn_number_within B C_number_in F19) F19 (PySem.W.mg_of X G a19)
  have C_is_filling : Cal l.prog w K mg base _ _ _ (sp_is_filling K) := cal3 (fn_is_filling B C_is_whole C_many_cells F20) F20 (PySem.W.mg_of X G a20)
  have bd21 : Binds K fd21 ["self"] [] := bind1 F21
  have T21 : FnOk l.prog w K mg base CX0 2 f21 fd21 _ (sp_Puzzle_lines K c d) := fn_Puzzle_lines (c := c) (d := d) B  FK_d_laws M_line F21
  have M_lines : MCal l.prog w K mg base d d.ok 2 "lines" ["self"] (sp_lines K c d) := ⟨fun i hi => by cases i; exact ⟨f21, _, cls_Puzzle, ⟨a21_Puzzle, fn21, F21.kp⟩, (T21.mono (by decide)).imp (fun vs H Q E h => h), bd21⟩⟩
  have C_show_filling : Cal l.prog w K mg base _ _ _ (sp_show_filling K) := cal2 (fn_show_filling B C_show_row F22) F22 (PySem.W.mg_of X G a22)
  have C_read_row : Cal l.prog w K mg base _ _ _ (sp_read_row K) := cal2 (fn_read_row B C_read_figure F23) F23 (PySem.W.mg_of X G a23)
  have C_read_numbers : Cal l.prog w K mg base _ _ _ (sp_read_numbers K) := cal1 (fn_read_numbers B C_number_in F24) F24 (PySem.W.mg_of X G a24)
  have C__law_names : Cal l.prog w K mg base _ _ _ (sp__law_names74 K) := cal1 (fn__law_names B C__law_cell_at F25) F25 (PySem.W.mg_of X G a25)
  have C__law_text : Cal l.prog w K mg base _ _ _ (sp__law_text74 K) := cal1 (fn__law_text B C__law_line F26) F26 (PySem.W.mg_of X G a26)
  have C_floor_of : Cal l.prog w K mg base _ _ _ (sp_floor_of K) := cal3 (fn_floor_of B C_is_from_one_to C_MOST_CELLS C_MOST_SIDE C_MOST_SIGNS_floors F27) F27 (PySem.W.mg_of X G a27)
  have C_first_within : Cal l.prog w K mg base _ _ _ (sp_first_within K) := cal3 (fn_first_within B C_number_within F28) F28 (PySem.W.mg_of X G a28)
  have C_told_cells : Cal l.prog w K mg base _ _ _ (sp_told_cells K) := cal2 (fn_told_cells B C_many_cells C_number_within F29) F29 (PySem.W.mg_of X G a29)
  have C_rule_by : Cal l.prog w K mg base _ _ _ (sp_rule_by K c) := cal5 (fn_rule_by (c := c) B  K_Count K_Joined K_NoSquare K_Ring K_Rising K_Seen K_Sum K_Unlike F30) F30 (PySem.W.mg_of X G a30)
  have C_checked_clues : Cal l.prog w K mg base _ _ _ (sp_checked_clues K) := cal2 (fn_checked_clues B C_is_filling F31) F31 (PySem.W.mg_of X G a31)
  have C_read_filling : Cal l.prog w K mg base _ _ _ (sp_read_filling K) := cal2 (fn_read_filling B C_read_row F32) F32 (PySem.W.mg_of X G a32)
  have C_show_puzzle : Cal l.prog w K mg base _ _ _ (sp_show_puzzle K c d) := cal1 (fn_show_puzzle (c := c) (d := d) B C_show_filling C_show_numbers C_BETWEEN_PARTS C_BETWEEN_ROWS M_clues M_lines M_place F33) F33 (PySem.W.mg_of X G a33)
  have C_cells_of_rows : Cal l.prog w K mg base _ _ _ (sp_cells_of K) := cal3 (fn_cells_of_rows B C_many_cells C_told_cells G_OF_ALL_CELLS F34) F34 (PySem.W.mg_of X G a34)
  have C_checked_floor : Cal l.prog w K mg base _ _ _ (sp_checked_floor K) := cal1 (fn_checked_floor B C_floor_of F35) F35 (PySem.W.mg_of X G a35)
  have C_read_floor : Cal l.prog w K mg base _ _ _ (sp_read_floor K) := cal1 (fn_read_floor B C_floor_of C_read_numbers F36) F36 (PySem.W.mg_of X G a36)
  have C_tell_of : Cal l.prog w K mg base _ _ _ (sp_tell_of K c d) := cal2 (fn_tell_of (c := c) (d := d) B C_show_puzzle F37) F37 (PySem.W.mg_of X G a37)
  have C_read_rule : Cal l.prog w K mg base _ _ _ (sp_read_rule K c) := cal2 (fn_read_rule (c := c) B C_cells_of_rows C_first_within C_rule_by C_MOST_NUMBER G_WITH_NUMBER G_WITH_SIGN F38) F38 (PySem.W.mg_of X G a38)
  have C_read_rules : Cal l.prog w K mg base _ _ _ (sp_read_rules K c) := cal2 (fn_read_rules (c := c) B C_read_rule C_MOST_RULES F39) F39 (PySem.W.mg_of X G a39)
  have bd40 : Binds K fd40 ["self", "floor", "lines", "clues"] [] := bind4 F40
  have T40 : FnOk l.prog w K mg base CX0 7 f40 fd40 _ (sp_Puzzle___init__ K c d) := fn_Puzzle___init__ (c := c) (d := d) B C_checked_clues C_checked_floor C_read_rules FK_d_floor FK_d_given FK_d_laws F40
  have K_Puzzle : KCal l.prog w K mg base _ "Puzzle" (d.A .Puzzle) _ (sp_Puzzle___init__ K c d) := ⟨f40, _, ⟨mk1_Puzzle, mk2_Puzzle, fn40, mk4_Puzzle⟩, T40, PySem.W.mg_of X G q_Puzzle, bd40⟩
  have bd41 : Binds K fd41 ["self", "clues"] [] := bind2 F41
  have T41 : FnOk l.prog w K mg base CX0 9 f41 fd41 _ (sp_Puzzle_clued K c d) := fn_Puzzle_clued (c := c) (d := d) B  FK_d_floor M_lines K_Puzzle F41
  have M_clued : MCal l.prog w K mg base d d.ok 9 "clued" ["self", "clues"] (sp_clued K c d) := ⟨fun i hi => by cases i; exact ⟨f41, _, cls_Puzzle, ⟨a41_Puzzle, fn41, F41.kp⟩, (T41.mono (by decide)).imp (fun vs H Q E h => h), bd41⟩⟩
  have C_read_puzzle : Cal l.prog w K mg base _ _ _ (sp_read_puzzle K c d) := cal1 (fn_read_puzzle (c := c) (d := d) B C_many_cells C_read_filling C_read_floor C_refuse_no_text C_BETWEEN_PARTS C_BETWEEN_ROWS M_clued K_Puzzle F42) F42 (PySem.W.mg_of X G a42)
  have bd43 : Binds K fd43 ["self", "name", "text"] [] := bind3 F43
  have T43 : FnOk l.prog w K mg base CX0 11 f43 fd43 _ (sp_Desk_put K c d e) := fn_Desk_put (c := c) (d := d) (e := e) B C_is_name C_read_puzzle FK_e_kept F43
  have M_put : MCal l.prog w K mg base e e.ok 11 "put" ["self", "name", "text"] (sp_put K c d e) := ⟨fun i hi => by cases i; exact ⟨f43, _, cls_Desk, ⟨a43_Desk, fn43, F43.kp⟩, (T43.mono (by decide)).imp (fun vs H Q E h => h), bd43⟩⟩
  have bd44 : Binds K fd44 ["self", "row"] [] := bind2 F44
  have T44 : FnOk l.prog w K mg base (CX1 l.prog w) 12 f44 fd44 _ (sp_Desk_say K c d e) := fn_Desk_say (c := c) (d := d) (e := e) B C_tell_of C_words_of M_drop M_named M_put G_WITH_NAME G_WITH_TEXT F44
  have M_say : MCal1 l.prog w K mg base e e.ok 12 "say" ["self", "row"] (sp_say K c d e) := ⟨fun i hi => by cases i; exact ⟨f44, _, cls_Desk, ⟨a44_Desk, fn44, F44.kp⟩, (T44.mono (by decide)).imp (fun vs H Q E h => h), bd44⟩⟩
  have C__law_nobody : Cal l.prog w K mg base _ _ _ (sp__law_nobody K c d e) := cal2 (fn__law_nobody (c := c) (d := d) (e := e) B  M_say EM R_NoName xs_NoName BV F45) F45 (PySem.W.mg_of X G a45)
  have C__law_told : Cal l.prog w K mg base _ _ _ (sp__law_told74 K c d e) := cal4 (fn__law_told (c := c) (d := d) (e := e) B C__law_nobody C__law_text M_say F46) F46 (PySem.W.mg_of X G a46)
  exact (fn_law (c := c) (d := d) (e := e) B C__law_cell_at C__law_names C__law_nobody C__law_told M_say K_Desk F47).imp fun vs H Q E h => by obtain ⟨a, ns, e, hS, hn, k⟩ := h; exact ⟨a, ns, e, hS, hn, fun k hk => by cases k <;> first | rfl | exact absurd rfl hk, rfl, rfl, k⟩
theorem walk {l : PySem.W.OpenLaw} {q : Program} {loose : List Str} {XP : (Str → Option Value) → Heap → Prop} {YP : World → Heap → Prop} {d : DefRec} {K : Params → PySem.W.Frag} (hn : l.most = some 63) (hdf : d.params.defaults = [])
    (hY : ∀ (w : World) (h : Heap), YP w h → (K w.params).In h)
    (F : ∀ (w : World) (mg : Str → Option Value) (fa : Addr) (h : Heap), (K w.params).In h → h.Ns mainGlobals mg → mg d.name = some (.ref fa) →
      ∃ fd : FuncData, (∀ (s : Shared) (u : Value), BindsTo s fd ⟨[u], []⟩ [("_law_script", u)]) ∧ ∀ base : Heap, (K w.params).In base → base.Ns mainGlobals mg → FnOk l.prog w (K w.params) mg base CX0 15 fa fd ["_law_script"] (sp_law0 (K w.params))) :
    PySem.W.WalkO q loose XP YP l.row.toRowW d [] (fun f vs => PySem.call f vs) :=
  L2.walk_of (n := 63) (k := 15) (x := "_law_script") (CX := fun _ => CX0) (sp := fun w => sp_law0 (K w.params)) hn (by decide) hdf ⟨rfl, by decide, by decide⟩ hY F (fun _ _ a ns hl _ hS => ⟨a, ns, rfl, hS, hl, fun _ => rfl⟩) fun _ _ _ _ _ z => z
end L2
set_option Elab.async false
set_option linter.all false
open PySem PySem.W PyProof.Rows
set_option maxRecDepth 100000 in
set_option maxHeartbeats 0 in
theorem PySem.Challenge.cw_cluemaker_k74_a_desk_keeps_puzzles_holds : PySem.Challenge.rw_cluemaker_k74_a_desk_keeps_puzzles.Holds := by
  refine H9.t9 ?_
  k_fill
  refine L2.walk (l := PySem.Challenge.rw_cluemaker_k74_a_desk_keeps_puzzles) rfl rfl (fun w h Y => PySem.W.kIn_of Y) ?F
  case F =>
    intro w mg fa h KX G hmg
    refine' L2.all_mk KX G hmg ?q_Unlike ?q_Sum ?q_Rising ?q_Seen ?q_Count ?q_Joined ?q_NoSquare ?q_Ring ?q_Puzzle ?q_Desk ?a0 ?a1 ?mk2_Unlike ?mk2_Sum ?mk2_Rising ?mk2_Seen ?mk2_Count ?mk2_Joined ?mk2_NoSquare ?mk2_Ring ?a3_Unlike ?a3_Sum ?a3_Rising ?a3_Seen ?a3_Count ?a3_Joined ?a3_NoSquare ?a3_Ring ?a4 ?a5_Puzzle ?a6_Puzzle ?a7 ?a8 ?a9 ?a10 ?a11 ?a12 ?mk2_Desk ?a14_Desk ?a15_Desk ?a16 ?a17 ?a18 ?a19 ?a20 ?a21_Puzzle ?a22 ?a23 ?a24 ?a25 ?a26 ?a27 ?a28 ?a29 ?a30 ?a31 ?a32 ?a33 ?a34 ?a35 ?a36 ?a37 ?a38 ?a39 ?mk2_Puzzle ?a41_Puzzle ?a42 ?a43_Desk ?a44_Desk ?a45 ?a46 ?a47 ?F0 ?F1 ?F2 ?fn2 ?F3 ?fn3 ?F4 ?F5 ?fn5 ?F6 ?fn6 ?F7 ?F8 ?F9 ?F10 ?F11 ?F12 ?F13 ?fn13 ?F14 ?fn14 ?F15 ?fn15 ?F16 ?F17 ?F18 ?F19 ?F20 ?F21 ?fn21 ?F22 ?F23 ?F24 ?F25 ?F26 ?F27 ?F28 ?F29 ?F30 ?F31 ?F32 ?F33 ?F34 ?F35 ?F36 ?F37 ?F38 ?F39 ?F40 ?fn40 ?F41 ?fn41 ?F42 ?F43 ?fn43 ?F44 ?fn44 ?F45 ?F46 ?F47 ?mk1_Unlike ?mk4_Unlike ?cl1_Unlike ?cl2_Unlike ?cl3_Unlike ?cl4_Unlike ?mk1_Sum ?mk4_Sum ?cl1_Sum ?cl2_Sum ?cl3_Sum ?cl4_Sum ?mk1_Rising ?mk4_Rising ?cl1_Rising ?cl2_Rising ?cl3_Rising ?cl4_Rising ?mk1_Seen ?mk4_Seen ?cl1_Seen ?cl2_Seen ?cl3_Seen ?cl4_Seen ?mk1_Count ?mk4_Count ?cl1_Count ?cl2_Count ?cl3_Count ?cl4_Count ?mk1_Joined ?mk4_Joined ?cl1_Joined ?cl2_Joined ?cl3_Joined ?cl4_Joined ?mk1_NoSquare ?mk4_NoSquare ?cl1_NoSquare ?cl2_NoSquare ?cl3_NoSquare ?cl4_NoSquare ?mk1_Ring ?mk4_Ring ?cl1_Ring ?cl2_Ring ?cl3_Ring ?cl4_Ring ?mk1_Puzzle ?mk4_Puzzle ?cl1_Puzzle ?cl2_Puzzle ?cl3_Puzzle ?cl4_Puzzle ?mk1_Desk ?mk4_Desk ?cl1_Desk ?cl2_Desk ?cl3_Desk ?cl4_Desk ?na_c_amount_Unlike ?na_c_amount_Sum ?na_c_amount_Rising ?na_c_amount_Seen ?na_c_amount_Count ?na_c_amount_Joined ?na_c_amount_NoSquare ?na_c_amount_Ring ?na_c_cells_Unlike ?na_c_cells_Sum ?na_c_cells_Rising ?na_c_cells_Seen ?na_c_cells_Count ?na_c_cells_Joined ?na_c_cells_NoSquare ?na_c_cells_Ring ?na_c_floor_Unlike ?na_c_floor_Sum ?na_c_floor_Rising ?na_c_floor_Seen ?na_c_floor_Count ?na_c_floor_Joined ?na_c_floor_NoSquare ?na_c_floor_Ring ?na_c_mark_Unlike ?na_c_mark_Sum ?na_c_mark_Rising ?na_c_mark_Seen ?na_c_mark_Count ?na_c_mark_Joined ?na_c_mark_NoSquare ?na_c_mark_Ring ?na_c_words_Unlike ?na_c_words_Sum ?na_c_words_Rising ?na_c_words_Seen ?na_c_words_Count ?na_c_words_Joined ?na_c_words_NoSquare ?na_c_words_Ring ?na_d_floor_Puzzle ?na_d_given_Puzzle ?na_d_laws_Puzzle ?na_e_kept_Desk ?gt1_OF_ALL_CELLS ?gt2_OF_ALL_CELLS ?gt1_WITH_NAME ?gt2_WITH_NAME ?gt1_WITH_NUMBER ?gt2_WITH_NUMBER ?gt1_WITH_SIGN ?gt2_WITH_SIGN ?gt1_WITH_TEXT ?gt2_WITH_TEXT ?gt1_WITH_TWO_NAMES ?gt2_WITH_TWO_NAMES ?kc_BETWEEN_PARTS ?kc_BETWEEN_ROWS ?kc_FIGURES_fillings ?kc_FIGURES_rows ?kc_LETTERS ?kc_MOST_CELLS ?kc_MOST_FIGURES ?kc_MOST_LETTERS ?kc_MOST_NUMBER ?kc_MOST_RULES ?kc_MOST_SIDE ?kc_MOST_SIGNS_floors ?z_len ?z_abs ?z_min ?z_max ?z_sorted ?z_any ?z_isinstance ?z_list ?z_int ?z_bool ?z_str ?z_tuple ?z_reversed ?z_set ?z_range ?z_zip ?z_all ?z_sum ?z_enumerate ?e_ClueError ?e_NoName ?z_ValueError ?D1 ?D2 ?D3 ?D4 ?r1_NoName ?r2_NoName ?r3_NoName ?f1_NoName ?f2_NoName ?f3_NoName ?f4_NoName ?f5_NoName ?f6_NoName ?f7_NoName ?xs_NoName
    (case q_Unlike => k_is)
    (case q_Sum => k_is)
    (case q_Rising => k_is)
    (case q_Seen => k_is)
    (case q_Count => k_is)
    (case q_Joined => k_is)
    (case q_NoSquare => k_is)
    (case q_Ring => k_is)
    (case q_Puzzle => k_is)
    (case q_Desk => k_is)
    (case a0 => k_is)
    (case a1 => k_is)
    (case mk2_Unlike => k_is)
    (case mk2_Sum => k_is)
    (case mk2_Rising => k_is)
    (case mk2_Seen => k_is)
    (case mk2_Count => k_is)
    (case mk2_Joined => k_is)
    (case mk2_NoSquare => k_is)
    (case mk2_Ring => k_is)
    (case a3_Unlike => k_is)
    (case a3_Sum => k_is)
    (case a3_Rising => k_is)
    (case a3_Seen => k_is)
    (case a3_Count => k_is)
    (case a3_Joined => k_is)
    (case a3_NoSquare => k_is)
    (case a3_Ring => k_is)
    (case a4 => k_is)
    (case a5_Puzzle => k_is)
    (case a6_Puzzle => k_is)
    (case a7 => k_is)
    (case a8 => k_is)
    (case a9 => k_is)
    (case a10 => k_is)
    (case a11 => k_is)
    (case a12 => k_is)
    (case mk2_Desk => k_is)
    (case a14_Desk => k_is)
    (case a15_Desk => k_is)
    (case a16 => k_is)
    (case a17 => k_is)
    (case a18 => k_is)
    (case a19 => k_is)
    (case a20 => k_is)
    (case a21_Puzzle => k_is)
    (case a22 => k_is)
    (case a23 => k_is)
    (case a24 => k_is)
    (case a25 => k_is)
    (case a26 => k_is)
    (case a27 => k_is)
    (case a28 => k_is)
    (case a29 => k_is)
    (case a30 => k_is)
    (case a31 => k_is)
    (case a32 => k_is)
    (case a33 => k_is)
    (case a34 => k_is)
    (case a35 => k_is)
    (case a36 => k_is)
    (case a37 => k_is)
    (case a38 => k_is)
    (case a39 => k_is)
    (case mk2_Puzzle => k_is)
    (case a41_Puzzle => k_is)
    (case a42 => k_is)
    (case a43_Desk => k_is)
    (case a44_Desk => k_is)
    (case a45 => k_is)
    (case a46 => k_is)
    (case a47 => k_is)
    (case F0 => (refine' L2.fun_mk ?l ?c ?k; (case l => k_is); (case c => k_is); case k => k_is))
    (case F1 => (refine' L2.fun_mk ?l ?c ?k; (case l => k_is); (case c => k_is); case k => k_is))
    (case F2 => (refine' L2.fun_mk ?l ?c ?k; (case l => k_is); (case c => k_is); case k => k_is))
    (case fn2 => k_is)
    (case F3 => (refine' L2.fun_mk ?l ?c ?k; (case l => k_is); (case c => k_is); case k => k_is))
    (case fn3 => k_is)
    (case F4 => (refine' L2.fun_mk ?l ?c ?k; (case l => k_is); (case c => k_is); case k => k_is))
    (case F5 => (refine' L2.fun_mk ?l ?c ?k; (case l => k_is); (case c => k_is); case k => k_is))
    (case fn5 => k_is)
    (case F6 => (refine' L2.fun_mk ?l ?c ?k; (case l => k_is); (case c => k_is); case k => k_is))
    (case fn6 => k_is)
    (case F7 => (refine' L2.fun_mk ?l ?c ?k; (case l => k_is); (case c => k_is); case k => k_is))
    (case F8 => (refine' L2.fun_mk ?l ?c ?k; (case l => k_is); (case c => k_is); case k => k_is))
    (case F9 => (refine' L2.fun_mk ?l ?c ?k; (case l => k_is); (case c => k_is); case k => k_is))
    (case F10 => (refine' L2.fun_mk ?l ?c ?k; (case l => k_is); (case c => k_is); case k => k_is))
    (case F11 => (refine' L2.fun_mk ?l ?c ?k; (case l => k_is); (case c => k_is); case k => k_is))
    (case F12 => (refine' L2.fun_mk ?l ?c ?k; (case l => k_is); (case c => k_is); case k => k_is))
    (case F13 => (refine' L2.fun_mk ?l ?c ?k; (case l => k_is); (case c => k_is); case k => k_is))
    (case fn13 => k_is)
    (case F14 => (refine' L2.fun_mk ?l ?c ?k; (case l => k_is); (case c => k_is); case k => k_is))
    (case fn14 => k_is)
    (case F15 => (refine' L2.fun_mk ?l ?c ?k; (case l => k_is); (case c => k_is); case k => k_is))
    (case fn15 => k_is)
    (case F16 => (refine' L2.fun_mk ?l ?c ?k; (case l => k_is); (case c => k_is); case k => k_is))
    (case F17 => (refine' L2.fun_mk ?l ?c ?k; (case l => k_is); (case c => k_is); case k => k_is))
    (case F18 => (refine' L2.fun_mk ?l ?c ?k; (case l => k_is); (case c => k_is); case k => k_is))
    (case F19 => (refine' L2.fun_mk ?l ?c ?k; (case l => k_is); (case c => k_is); case k => k_is))
    (case F20 => (refine' L2.fun_mk ?l ?c ?k; (case l => k_is); (case c => k_is); case k => k_is))
    (case F21 => (refine' L2.fun_mk ?l ?c ?k; (case l => k_is); (case c => k_is); case k => k_is))
    (case fn21 => k_is)
    (case F22 => (refine' L2.fun_mk ?l ?c ?k; (case l => k_is); (case c => k_is); case k => k_is))
    (case F23 => (refine' L2.fun_mk ?l ?c ?k; (case l => k_is); (case c => k_is); case k => k_is))
    (case F24 => (refine' L2.fun_mk ?l ?c ?k; (case l => k_is); (case c => k_is); case k => k_is))
    (case F25 => (refine' L2.fun_mk ?l ?c ?k; (case l => k_is); (case c => k_is); case k => k_is))
    (case F26 => (refine' L2.fun_mk ?l ?c ?k; (case l => k_is); (case c => k_is); case k => k_is))
    (case F27 => (refine' L2.fun_mk ?l ?c ?k; (case l => k_is); (case c => k_is); case k => k_is))
    (case F28 => (refine' L2.fun_mk ?l ?c ?k; (case l => k_is); (case c => k_is); case k => k_is))
    (case F29 => (refine' L2.fun_mk ?l ?c ?k; (case l => k_is); (case c => k_is); case k => k_is))
    (case F30 => (refine' L2.fun_mk ?l ?c ?k; (case l => k_is); (case c => k_is); case k => k_is))
    (case F31 => (refine' L2.fun_mk ?l ?c ?k; (case l => k_is); (case c => k_is); case k => k_is))
    (case F32 => (refine' L2.fun_mk ?l ?c ?k; (case l => k_is); (case c => k_is); case k => k_is))
    (case F33 => (refine' L2.fun_mk ?l ?c ?k; (case l => k_is); (case c => k_is); case k => k_is))
    (case F34 => (refine' L2.fun_mk ?l ?c ?k; (case l => k_is); (case c => k_is); case k => k_is))
    (case F35 => (refine' L2.fun_mk ?l ?c ?k; (case l => k_is); (case c => k_is); case k => k_is))
    (case F36 => (refine' L2.fun_mk ?l ?c ?k; (case l => k_is); (case c => k_is); case k => k_is))
    (case F37 => (refine' L2.fun_mk ?l ?c ?k; (case l => k_is); (case c => k_is); case k => k_is))
    (case F38 => (refine' L2.fun_mk ?l ?c ?k; (case l => k_is); (case c => k_is); case k => k_is))
    (case F39 => (refine' L2.fun_mk ?l ?c ?k; (case l => k_is); (case c => k_is); case k => k_is))
    (case F40 => (refine' L2.fun_mk ?l ?c ?k; (case l => k_is); (case c => k_is); case k => k_is))
    (case fn40 => k_is)
    (case F41 => (refine' L2.fun_mk ?l ?c ?k; (case l => k_is); (case c => k_is); case k => k_is))
    (case fn41 => k_is)
    (case F42 => (refine' L2.fun_mk ?l ?c ?k; (case l => k_is); (case c => k_is); case k => k_is))
    (case F43 => (refine' L2.fun_mk ?l ?c ?k; (case l => k_is); (case c => k_is); case k => k_is))
    (case fn43 => k_is)
    (case F44 => (refine' L2.fun_mk ?l ?c ?k; (case l => k_is); (case c => k_is); case k => k_is))
    (case fn44 => k_is)
    (case F45 => (refine' L2.fun_mk ?l ?c ?k; (case l => k_is); (case c => k_is); case k => k_is))
    (case F46 => (refine' L2.fun_mk ?l ?c ?k; (case l => k_is); (case c => k_is); case k => k_is))
    (case F47 => (refine' L2.fun_mk ?l ?c ?k; (case l => k_is); (case c => k_is); case k => k_is))
    (case mk1_Unlike => k_is)
    (case mk4_Unlike => k_is)
    (case cl1_Unlike => k_is)
    (case cl2_Unlike => k_is)
    (case cl3_Unlike => k_is)
    (case cl4_Unlike => k_is)
    (case mk1_Sum => k_is)
    (case mk4_Sum => k_is)
    (case cl1_Sum => k_is)
    (case cl2_Sum => k_is)
    (case cl3_Sum => k_is)
    (case cl4_Sum => k_is)
    (case mk1_Rising => k_is)
    (case mk4_Rising => k_is)
    (case cl1_Rising => k_is)
    (case cl2_Rising => k_is)
    (case cl3_Rising => k_is)
    (case cl4_Rising => k_is)
    (case mk1_Seen => k_is)
    (case mk4_Seen => k_is)
    (case cl1_Seen => k_is)
    (case cl2_Seen => k_is)
    (case cl3_Seen => k_is)
    (case cl4_Seen => k_is)
    (case mk1_Count => k_is)
    (case mk4_Count => k_is)
    (case cl1_Count => k_is)
    (case cl2_Count => k_is)
    (case cl3_Count => k_is)
    (case cl4_Count => k_is)
    (case mk1_Joined => k_is)
    (case mk4_Joined => k_is)
    (case cl1_Joined => k_is)
    (case cl2_Joined => k_is)
    (case cl3_Joined => k_is)
    (case cl4_Joined => k_is)
    (case mk1_NoSquare => k_is)
    (case mk4_NoSquare => k_is)
    (case cl1_NoSquare => k_is)
    (case cl2_NoSquare => k_is)
    (case cl3_NoSquare => k_is)
    (case cl4_NoSquare => k_is)
    (case mk1_Ring => k_is)
    (case mk4_Ring => k_is)
    (case cl1_Ring => k_is)
    (case cl2_Ring => k_is)
    (case cl3_Ring => k_is)
    (case cl4_Ring => k_is)
    (case mk1_Puzzle => k_is)
    (case mk4_Puzzle => k_is)
    (case cl1_Puzzle => k_is)
    (case cl2_Puzzle => k_is)
    (case cl3_Puzzle => k_is)
    (case cl4_Puzzle => k_is)
    (case mk1_Desk => k_is)
    (case mk4_Desk => k_is)
    (case cl1_Desk => k_is)
    (case cl2_Desk => k_is)
    (case cl3_Desk => k_is)
    (case cl4_Desk => k_is)
    (case na_c_amount_Unlike => k_is)
    (case na_c_amount_Sum => k_is)
    (case na_c_amount_Rising => k_is)
    (case na_c_amount_Seen => k_is)
    (case na_c_amount_Count => k_is)
    (case na_c_amount_Joined => k_is)
    (case na_c_amount_NoSquare => k_is)
    (case na_c_amount_Ring => k_is)
    (case na_c_cells_Unlike => k_is)
    (case na_c_cells_Sum => k_is)
    (case na_c_cells_Rising => k_is)
    (case na_c_cells_Seen => k_is)
    (case na_c_cells_Count => k_is)
    (case na_c_cells_Joined => k_is)
    (case na_c_cells_NoSquare => k_is)
    (case na_c_cells_Ring => k_is)
    (case na_c_floor_Unlike => k_is)
    (case na_c_floor_Sum => k_is)
    (case na_c_floor_Rising => k_is)
    (case na_c_floor_Seen => k_is)
    (case na_c_floor_Count => k_is)
    (case na_c_floor_Joined => k_is)
    (case na_c_floor_NoSquare => k_is)
    (case na_c_floor_Ring => k_is)
    (case na_c_mark_Unlike => k_is)
    (case na_c_mark_Sum => k_is)
    (case na_c_mark_Rising => k_is)
    (case na_c_mark_Seen => k_is)
    (case na_c_mark_Count => k_is)
    (case na_c_mark_Joined => k_is)
    (case na_c_mark_NoSquare => k_is)
    (case na_c_mark_Ring => k_is)
    (case na_c_words_Unlike => k_is)
    (case na_c_words_Sum => k_is)
    (case na_c_words_Rising => k_is)
    (case na_c_words_Seen => k_is)
    (case na_c_words_Count => k_is)
    (case na_c_words_Joined => k_is)
    (case na_c_words_NoSquare => k_is)
    (case na_c_words_Ring => k_is)
    (case na_d_floor_Puzzle => k_is)
    (case na_d_given_Puzzle => k_is)
    (case na_d_laws_Puzzle => k_is)
    (case na_e_kept_Desk => k_is)
    (case gt1_OF_ALL_CELLS => k_is)
    (case gt2_OF_ALL_CELLS => k_is)
    (case gt1_WITH_NAME => k_is)
    (case gt2_WITH_NAME => k_is)
    (case gt1_WITH_NUMBER => k_is)
    (case gt2_WITH_NUMBER => k_is)
    (case gt1_WITH_SIGN => k_is)
    (case gt2_WITH_SIGN => k_is)
    (case gt1_WITH_TEXT => k_is)
    (case gt2_WITH_TEXT => k_is)
    (case gt1_WITH_TWO_NAMES => k_is)
    (case gt2_WITH_TWO_NAMES => k_is)
    (case kc_BETWEEN_PARTS => k_is)
    (case kc_BETWEEN_ROWS => k_is)
    (case kc_FIGURES_fillings => k_is)
    (case kc_FIGURES_rows => k_is)
    (case kc_LETTERS => k_is)
    (case kc_MOST_CELLS => k_is)
    (case kc_MOST_FIGURES => k_is)
    (case kc_MOST_LETTERS => k_is)
    (case kc_MOST_NUMBER => k_is)
    (case kc_MOST_RULES => k_is)
    (case kc_MOST_SIDE => k_is)
    (case kc_MOST_SIGNS_floors => k_is)
    (case z_len => k_is)
    (case z_abs => k_is)
    (case z_min => k_is)
    (case z_max => k_is)
    (case z_sorted => k_is)
    (case z_any => k_is)
    (case z_isinstance => k_is)
    (case z_list => k_is)
    (case z_int => k_is)
    (case z_bool => k_is)
    (case z_str => k_is)
    (case z_tuple => k_is)
    (case z_reversed => k_is)
    (case z_set => k_is)
    (case z_range => k_is)
    (case z_zip => k_is)
    (case z_all => k_is)
    (case z_sum => k_is)
    (case z_enumerate => k_is)
    (case e_ClueError => k_is)
    (case e_NoName => k_is)
    (case z_ValueError => k_is)
    (case D1 => k_is)
    (case D2 => exact rfl)
    (case D3 => k_is)
    (case D4 => first | kernel_rfl | exact rfl)
    (case r1_NoName => k_is)
    (case r2_NoName => k_is)
    (case r3_NoName => first | kernel_rfl | exact rfl)
    (case f1_NoName => k_is)
    (case f2_NoName => k_is)
    (case f3_NoName => k_is)
    (case f4_NoName => k_is)
    (case f5_NoName => k_is)
    (case f6_NoName => kit_is)
    (case f7_NoName => kts_exm)
    (case xs_NoName => kts_exm)
